/-
  FrameLost's contract: a frame of which any bytes are 0 is no frame. The conditions: the program's contracts; the variables' cells.
-/
import Derived.Test.YtjijlfohlmhlkaaDoorFrameTurned
namespace Go.Proofs.YtjijlfohlmhlkaaDoor
open Go.RowKit FrameMath TextNat

/-- A frame's letters, some of them noughts. -/
structure Noughts (p b : List Nat) (l : Bool) : Prop where
  len : b.length = (framed p).length
  all : ∀ j z : Nat, (framed p)[j]? = some z → b[j]? = some z ∨ b[j]? = some 0
  no : l = false → b = framed p
  yes : l = true → ∃ k : Nat, b[k]? = some 0
theorem Noughts.start (p : List Nat) : Noughts p (framed p) false := ⟨rfl, fun _ _ h => Or.inl h, fun _ => rfl, (fun h => by cases h)⟩
theorem Noughts.more {p b : List Nat} {l : Bool} (h : Noughts p b l) {i : Nat} (hi : i < b.length) : Noughts p (b.set i 0) true := by
  refine ⟨by rw [List.length_set, h.len], fun j z hz => ?_, (fun h => by cases h), fun _ => ⟨i, List.getElem?_set_self hi⟩⟩
  by_cases hj : j = i
  · subst hj
    exact Or.inr (List.getElem?_set_self hi)
  · rw [List.getElem?_set_ne (Ne.symm hj)]
    exact h.all j z hz
theorem Noughts.oct {p b : List Nat} {l : Bool} (h : Noughts p b l) (hp : p.length ≤ 8192) (bp : Oct p) : Oct b := by
  intro x hx
  obtain ⟨j, hj⟩ := List.getElem?_of_mem hx
  have hjl : j < (framed p).length := by rw [← h.len]; exact (List.getElem?_eq_some_iff.1 hj).1
  rcases h.all j _ (List.getElem?_eq_getElem hjl) with k | k
  · rw [hj] at k
    rw [Option.some.inj k]
    exact framed_bytes hp bp _ (List.getElem_mem hjl)
  · rw [hj] at k
    rw [Option.some.inj k]
    decide
theorem openF_lost {p b x : List Nat} {l : Bool} (h : Noughts p b l) (hp : p.length ≤ 8192) (bp : Oct p) (bx : Oct x) : openF (b ++ x) 0 = if l = true then none else some p := by
  have hl := framed_len p
  unfold openF
  rw [if_pos (by rw [List.length_append, h.len]; omega)]
  show stands (b ++ x) = _
  cases l with
  | false =>
    rw [h.no rfl]
    exact stands_framed hp bp x
  | true =>
    obtain ⟨k, hk⟩ := h.yes rfl
    cases hs : stands (b ++ x) with
    | none => rfl
    | some q =>
      exfalso
      obtain ⟨y, he, hq⟩ := stands_is hs
      exact lost hp hq bp (stands_bytes hs (Oct.append (h.oct hp bp) bx)) h.len h.all hk he
set_option maxRecDepth 100000 in
set_option maxHeartbeats 4000000 in
theorem lost_true (hS : SealOk) (hO : OpenOk) (s m x : ByteArray) (w : World) (hT : Tables w) (hs : s.size ≤ 9223372036854775807) (hm : m.size ≤ 9223372036854775807) (hx : x.size ≤ 9223372036854775807) :
    Calls Tryd.prog 6 #[.string s, .string m, .string x] w fun e w' => e = .returned (.bool true) ∧ Below w.heap.size w w' := by
  have HA := Lib.hid (awake_true hS hO w hT)
  have HT := Lib.hid hT
  replace hS := Lib.hid hS
  replace hO := Lib.hid hO
  clear hT
  go_enter Tryd.func6, Tryd.ntmps6
  go_wp2_with fail
  refine HA.out.mono ?_
  rintro e w0 ⟨rfl, hb⟩
  have HB := Lib.hid hb
  have HT0 := Lib.hid (HT.out.grown hb)
  clear HA hb HT
  go_wp2_with fail
  refine (hS.out s w0 HT0.out hs).mono ?_
  rintro e w1 ⟨h1, hb⟩
  have HT1 := Lib.hid (HT0.out.grown hb)
  replace HB := Lib.hid (HB.out.trans (hb.mono HB.out.size))
  clear hb HT0
  by_cases h3 : 3000 < s.size
  · have t1 : decide ((3000 : Int) < (s.size : Int)) = true := decide_eq_true (by omega)
    have t1' : decide (3000 < s.size) = true := decide_eq_true h3
    by_cases h8 : s.size ≤ 8192
    · rw [if_pos h8] at h1
      subst h1
      clear h8 h3
      go_wp2
      go_ret
      exact ⟨rfl, HB.out⟩
    · rw [if_neg h8] at h1
      obtain ⟨x, rfl, hx⟩ := h1
      obtain ⟨T, y, rfl⟩ := hx.is.iface
      clear h8 h3 hx
      go_wp2
      go_ret
      exact ⟨rfl, HB.out⟩
  · have t1 : decide ((3000 : Int) < (s.size : Int)) = false := decide_eq_false (by omega)
    have t1' : decide (3000 < s.size) = false := decide_eq_false h3
    rw [if_pos (by omega)] at h1
    subst h1
    obtain ⟨p, hp⟩ : ∃ p, p = nats s := ⟨_, rfl⟩
    have HP := Lib.hid (show Oct p by rw [hp]; exact nats_ok s)
    have hpl : p.length ≤ 3000 := by rw [hp, nats_len]; omega
    rw [← hp]
    obtain ⟨S, hS'⟩ : ∃ S, S = txt (framed p) := ⟨_, rfl⟩
    have HSN := Lib.hid (show nats S = framed p by rw [hS']; exact nats_framed (by omega) HP.out)
    have hSz : S.size ≤ 7000 := by rw [hS', txt_framed_size]; omega
    have HSL := Lib.hid (show S.size = (framed p).length by rw [hS', txt_len])
    rw [← hS']
    clear hp hS' h3
    by_cases h4 : 7000 < m.size
    · have t2 : decide ((7000 : Int) < (m.size : Int)) = true := decide_eq_true (by omega)
      have t2' : decide (7000 < m.size) = true := decide_eq_true h4
      clear h4
      go_wp2
      go_ret
      exact ⟨rfl, HB.out⟩
    have t2 : decide ((7000 : Int) < (m.size : Int)) = false := decide_eq_false (by omega)
    have t2' : decide (7000 < m.size) = false := decide_eq_false h4
    by_cases h5 : 3000 < x.size
    · have t3 : decide ((3000 : Int) < (x.size : Int)) = true := decide_eq_true (by omega)
      have t3' : decide (3000 < x.size) = true := decide_eq_true h5
      clear h4 h5
      go_wp2
      go_ret
      exact ⟨rfl, HB.out⟩
    have t3 : decide ((3000 : Int) < (x.size : Int)) = false := decide_eq_false (by omega)
    have t3' : decide (3000 < x.size) = false := decide_eq_false h5
    have kb := run_bytes_of_string (P := Tryd.prog) w1 9 36 5 S Tryd.underlying9 Tryd.underlying36 Tryd.underlying5
    have h6 := OwnsM.ofBytes w1 w1.heap.size 5 S (Nat.le_refl _) (by unfold maxLen; omega)
    obtain ⟨cap3, hcap3⟩ : ∃ c, c = grownCap w1 S.size 0 5 := ⟨_, rfl⟩
    rw [← hcap3] at h6 kb
    have e5 : (S.data.toList.map fun b => Value.int .u8 (b.toNat : Int)) = byteVals (framed p) := by
      rw [← HSN.out]
      simp [byteVals, nats, Function.comp_def]
    rw [e5, HSL.out] at h6
    have HRow := Lib.hid (show Row8 (w1.alloc (.cells (bytesRow S cap3) 5 ((bytesRow S cap3).size, (bytesRow S cap3).size + 1))).drew w1.heap.size (framed p) from Row8.of (cap := cap3) h6)
    have HB2 := Lib.hid (show Below w1.heap.size w1 (w1.alloc (.cells (bytesRow S cap3) 5 ((bytesRow S cap3).size, (bytesRow S cap3).size + 1))).drew from ((Below.refl w1.heap.size w1).alloc (Nat.le_refl _) _).drew)
    clear h6 e5 hcap3
    go_wp2_with fail
    clear kb
    generalize (w1.alloc (.cells (bytesRow S cap3) 5 ((bytesRow S cap3).size, (bytesRow S cap3).size + 1))).drew = w2 at HRow HB2 ⊢
    go_loopg [10, 43] S.size (fun gh s10 s43 wx => ∃ (i : Nat) (l : Bool) (b : List Nat), i + gh = S.size ∧ s10 = .bool l ∧ s43 = .int .i64 (i : Int) ∧ Hid (Noughts p b l) ∧ Hid (Row8 wx w1.heap.size b) ∧ Hid (Below w1.heap.size w1 wx))
    case atStart => exact ⟨0, false, framed p, by omega, rfl, by go_num, Lib.hid (Noughts.start p), HRow, HB2⟩
    case round =>
      obtain ⟨i, l, b, hi, rfl, rfl, HNo, HR, HBx⟩ := hrel
      rename World => W3
      by_cases hiS : i < S.size
      · have q1 : decide ((i : Int) < (S.size : Int)) = true := decide_eq_true (by omega)
        have q1' : decide (i < S.size) = true := decide_eq_true hiS
        have hib : i < b.length := by rw [HNo.out.len, ← HSL.out]; exact hiS
        by_cases hm2 : i < m.size
        · have q2 : decide ((i : Int) < (m.size : Int)) = true := decide_eq_true (by omega)
          have q2' : decide (i < m.size) = true := decide_eq_true hm2
          obtain ⟨y, hy⟩ : ∃ y, y = (m[i]'hm2).toNat := ⟨_, rfl⟩
          have hyx : ((m[i]'hm2).toNat : Int) = (y : Int) := by rw [hy]
          by_cases hy2 : y % 2 = 0
          · have t3 : ((y : Int) % 2 == 0) = true := by rw [beq_iff_eq]; omega
            have t3' : (((y % 2 : Nat) : Int) == 0) = true := by rw [beq_iff_eq]; omega
            obtain ⟨z, hz⟩ : ∃ z, b[i]? = some z := ⟨_, List.getElem?_eq_getElem hib⟩
            have cz := HR.out.cell hz
            have fz := HR.out.free hib
            have HR2 := Lib.hid (HR.out.set i 0)
            have HN2 := Lib.hid (HNo.out.more hib)
            have HB3 := Lib.hid (below_at HBx.out (Nat.le_refl _) i (.int .u8 ((0 : Nat) : Int)))
            clear hz hy hy2
            go_wp2_with fail
            go_roundg (S.size - (i + 1))
            case measure => omega
            case rel => exact ⟨i + 1, true, b.set i 0, by omega, rfl, by go_num, HN2, HR2, HB3⟩
          · have t3 : ((y : Int) % 2 == 0) = false := by rw [beq_eq_false_iff_ne]; omega
            have t3' : (((y % 2 : Nat) : Int) == 0) = false := by rw [beq_eq_false_iff_ne]; omega
            clear hy hy2
            go_wp2_with fail
            go_roundg (S.size - (i + 1))
            case measure => omega
            case rel => exact ⟨i + 1, l, b, by omega, rfl, by go_num, HNo, HR, HBx⟩
        · have q2 : decide ((i : Int) < (m.size : Int)) = false := decide_eq_false (by omega)
          have q2' : decide (i < m.size) = false := decide_eq_false hm2
          go_wp2_with fail
          go_roundg (S.size - (i + 1))
          case measure => omega
          case rel => exact ⟨i + 1, l, b, by omega, rfl, by go_num, HNo, HR, HBx⟩
      · have q1 : decide ((i : Int) < (S.size : Int)) = false := decide_eq_false (by omega)
        have q1' : decide (i < S.size) = false := decide_eq_false hiS
        have hoct := HNo.out.oct (by omega) HP.out
        have kt := HR.out.text hoct cap3
        rw [HNo.out.len, ← HSL.out] at kt
        have kl : (txt b).size + x.size ≤ 9223372036854775807 := by rw [txt_len, HNo.out.len, ← HSL.out]; omega
        have hV := openF_lost (x := nats x) HNo.out (by omega) HP.out (nats_ok x)
        have hNx : nats (txt b ++ x) = b ++ nats x := by rw [nats_append, nats_txt _ hoct]
        rw [← hNx] at hV
        have HV := Lib.hid hV
        have hUz : (txt b ++ x).size ≤ 100000 := by rw [ByteArray.size_append, txt_len, HNo.out.len, ← HSL.out]; omega
        have HT2 := Lib.hid (HT1.out.grown HBx.out)
        have HB4 := Lib.hid (HB.out.trans (HBx.out.mono HB.out.size))
        clear hV hNx hoct
        go_wp2_with fail
        refine (hO.out _ 0 W3 HT2.out hUz (by decide)).mono ?_
        rintro e w4 ⟨h4, hb⟩
        replace HB4 := Lib.hid (HB4.out.trans (hb.mono HB4.out.size))
        clear hb
        cases l with
        | true =>
          obtain ⟨v, h6, hv⟩ := h4.none HV.out
          obtain ⟨T, y, rfl⟩ := hv.is.iface
          subst h6
          clear h4 hv
          go_wp2
          go_ret
          exact ⟨rfl, HB4.out⟩
        | false =>
          have h6 := h4.some HV.out
          subst h6
          clear h4
          go_wp2
          go_ret
          exact ⟨rfl, HB4.out⟩
end Go.Proofs.YtjijlfohlmhlkaaDoor
