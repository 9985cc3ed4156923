/-
  The program's own Open and Find of chapter 9. The conditions are typed: texts of at most 16,777,216 bytes.
-/
import Derived.Test.YtajkldmpllphjaaDoorPart09
namespace Go.Proofs.YtajkldmpllphjaaDoor
open Go.RowKit FrameMath TextNat CrcMath

theorem nats_behind (s : ByteArray) (i : Nat) : nats (s.extract i s.size) = (nats s).drop i := by
  unfold nats
  rw [ByteArray.data_extract]
  simp [Array.toList_extract, List.extract]
  rw [List.take_of_length_le (by simp)]
theorem OpenIs.not {w' : World} {s : ByteArray} {k : Int} {c : Int} {x : Value} {e : Ending} (h : openF (nats s) k = Option.none) (he : e = .returned (.tuple #[.string ⟨#[]⟩, .int .i64 k, x])) (hc : c = if k = (s.size : Int) then 7 else 2) (hx : ErrAt w' fname k c x) : OpenIs w' s k e := by
  unfold OpenIs
  rw [h]
  exact ⟨x, he, by rw [← hc]; exact hx⟩
theorem OpenIs.is {w' : World} {s : ByteArray} {k z : Int} {p : List Nat} {P : ByteArray} {e : Ending} (h : openF (nats s) k = Option.some p) (hP : P = txt p) (hz : z = k + ((framed p).length : Int)) (he : e = .returned (.tuple #[.string P, .int .i64 z, .nilIface])) : OpenIs w' s k e := by
  unfold OpenIs
  rw [h]
  rw [hP, hz] at he
  exact he
set_option maxRecDepth 100000 in
set_option maxHeartbeats 8000000 in
theorem openBig (s : ByteArray) (k : Int) (w : World) (hT : Tables w) (hs : s.size ≤ 16777216) (hk : I64 k) : Calls Tryd.prog 57 #[.string s, .int .i64 k] w fun e w' => OpenIs w' s k e ∧ Below w.heap.size w w' := by
  obtain ⟨m, hm⟩ : ∃ m, m = s.size := ⟨_, rfl⟩
  have e1 : (s.size : Int) = (m : Int) := by omega
  have HM := Lib.hid hm
  have HT := Lib.hid hT
  have HE := Lib.hid (fun c => frameErr k c w)
  clear hT hm
  by_cases h0 : k = (m : Int)
  · have HX := Lib.hid (openF_out (l := nats s) (k := k) (.inr (by rw [nats_len]; omega)))
    have HC := Lib.hid (show (7 : Int) = if k = (s.size : Int) then 7 else 2 by rw [if_pos (by omega)])
    have t1 : (k == (m : Int)) = true := by rw [beq_iff_eq]; exact h0
    clear h0 hk
    go_enter Tryd.func57, Tryd.ntmps57
    go_wp2_with fail
    refine (HE.out 7).mono ?_
    rintro e w2 ⟨⟨x, rfl, hx⟩, hb⟩
    have HXE := Lib.hid hx
    have HB := Lib.hid hb
    clear hx hb HE
    go_wp2
    go_ret3
    exact ⟨OpenIs.not HX.out rfl HC.out HXE.out, HB.out⟩
  have t1 : (k == (m : Int)) = false := by rw [beq_eq_false_iff_ne]; exact h0
  have HC := Lib.hid (show (2 : Int) = if k = (s.size : Int) then 7 else 2 by rw [if_neg (by omega)])
  by_cases h1 : k < 0
  · have HX := Lib.hid (openF_out (l := nats s) (k := k) (.inl h1))
    have t2 : decide (k < 0) = true := decide_eq_true h1
    clear h0 h1 hk
    go_enter Tryd.func57, Tryd.ntmps57
    go_wp2_with fail
    refine (HE.out 2).mono ?_
    rintro e w2 ⟨⟨x, rfl, hx⟩, hb⟩
    have HXE := Lib.hid hx
    have HB := Lib.hid hb
    clear hx hb HE
    go_wp2
    go_ret3
    exact ⟨OpenIs.not HX.out rfl HC.out HXE.out, HB.out⟩
  have t2 : decide (k < 0) = false := decide_eq_false h1
  by_cases h2 : (m : Int) < k
  · have HX := Lib.hid (openF_out (l := nats s) (k := k) (.inr (by rw [nats_len]; omega)))
    have t3 : decide ((m : Int) < k) = true := decide_eq_true h2
    clear h0 h1 h2 hk
    go_enter Tryd.func57, Tryd.ntmps57
    go_wp2_with fail
    refine (HE.out 2).mono ?_
    rintro e w2 ⟨⟨x, rfl, hx⟩, hb⟩
    have HXE := Lib.hid hx
    have HB := Lib.hid hb
    clear hx hb HE
    go_wp2
    go_ret3
    exact ⟨OpenIs.not HX.out rfl HC.out HXE.out, HB.out⟩
  have t3 : decide ((m : Int) < k) = false := decide_eq_false h2
  obtain ⟨i, rfl⟩ : ∃ i : Nat, k = (i : Int) := ⟨k.toNat, by omega⟩
  have t3' : decide (m < i) = false := decide_eq_false (by omega)
  have hi : i < m := by omega
  have hi2 : i ≤ s.size := by omega
  have HO := Lib.hid (show openF (nats s) (i : Int) = stands (nats (s.extract i s.size)) by
    unfold openF
    rw [if_pos ⟨by omega, by rw [nats_len]; omega⟩, nats_behind]
    rfl)
  obtain ⟨S, hS⟩ : ∃ S, S = s.extract i s.size := ⟨_, rfl⟩
  have HS := Lib.hid hS
  have HSz := Lib.hid (show S.size ≤ 16777216 ∧ 0 < S.size by rw [hS, ByteArray.size_extract]; omega)
  rw [← hS] at HO
  clear h0 h1 h2 hk hS
  go_enter Tryd.func57, Tryd.ntmps57
  go_wp2_with fail
  rw [← HS.out]
  refine (first_ok S w HT.out HSz.out.1 HSz.out.2).mono ?_
  rintro e w1 ⟨h1, b1⟩
  have HB := Lib.hid b1
  clear b1
  cases hst : stands (nats S) with
  | none =>
    unfold FirstIs at h1
    rw [hst] at h1
    simp only at h1
    subst h1
    rw [hst] at HO
    clear hst
    go_wp2_with fail
    refine (frameErr (i : Int) 2 w1).mono ?_
    rintro e w2 ⟨⟨x, rfl, hx⟩, hb⟩
    have HXE := Lib.hid hx
    have HB2 := Lib.hid (HB.out.trans (hb.mono HB.out.size))
    clear hx hb HE
    go_wp2
    go_ret3
    exact ⟨OpenIs.not HO.out rfl HC.out HXE.out, HB2.out⟩
  | some p =>
    unfold FirstIs at h1
    rw [hst] at h1
    simp only at h1
    subst h1
    rw [hst] at HO
    obtain ⟨_, hpm, hp8⟩ := stands_is hst
    obtain ⟨P, hP⟩ : ∃ P, P = txt p := ⟨_, rfl⟩
    obtain ⟨n, hn⟩ : ∃ n, n = p.length := ⟨_, rfl⟩
    have e2 : (P.size : Int) = (n : Int) := by rw [hP, txt_len]; omega
    have e2' : P.size = n := by rw [hP, txt_len]; omega
    obtain ⟨a, ha⟩ : ∃ a, a = i + 1 := ⟨_, rfl⟩
    obtain ⟨b, hb⟩ : ∃ b, b = 10 + n := ⟨_, rfl⟩
    obtain ⟨c, hc⟩ : ∃ c, c = 2 * b := ⟨_, rfl⟩
    obtain ⟨d, hd⟩ : ∃ d, d = a + c := ⟨_, rfl⟩
    have k1 : IntKind.i64.wrap ((i : Int) + 1) = (a : Int) := by rw [IntKind.wrap_i64]; omega
    have k2 : IntKind.i64.wrap (10 + (n : Int)) = (b : Int) := by rw [IntKind.wrap_i64]; omega
    have k3 : IntKind.i64.wrap (2 * (b : Int)) = (c : Int) := by rw [IntKind.wrap_i64]; omega
    have k4 : IntKind.i64.wrap ((a : Int) + (c : Int)) = (d : Int) := by rw [IntKind.wrap_i64]; omega
    have HD := Lib.hid (show (d : Int) = (i : Int) + ((framed p).length : Int) by rw [framed_len]; omega)
    have HP := Lib.hid hP
    rw [← hP]
    clear hst hpm hp8 hP hn ha hb hc hd e2'
    go_wp2_with fail
    go_ret3
    exact ⟨OpenIs.is HO.out HP.out HD.out rfl, HB.out⟩
theorem openOk : OpenOk := fun s k w hT hs hk => openBig s k w hT (by omega) hk
theorem indexByte_is (c : UInt8) : ∀ l : List UInt8, (Lib.indexByte l c = -1 ∧ ∀ j : Nat, l[j]? ≠ some c) ∨ (∃ i : Nat, Lib.indexByte l c = (i : Int) ∧ l[i]? = some c ∧ ∀ j : Nat, j < i → l[j]? ≠ some c)
  | [] => .inl ⟨rfl, fun j h => by cases h⟩
  | b :: l => by
    by_cases hb : b = c
    · subst hb
      exact .inr ⟨0, by simp [Lib.indexByte], rfl, fun j hj => by omega⟩
    · have hbc : (b == c) = false := by rw [beq_eq_false_iff_ne]; exact hb
      rcases indexByte_is c l with ⟨h1, h2⟩ | ⟨i, h1, h2, h3⟩
      · refine .inl ⟨by simp [Lib.indexByte, hbc, h1], fun j hj => ?_⟩
        cases j with
        | zero => exact hb (Option.some.inj hj)
        | succ j => exact h2 j hj
      · refine .inr ⟨i + 1, by
          have h4 : (Lib.indexByte l c == -1) = false := by rw [h1, beq_eq_false_iff_ne]; omega
          simp only [Lib.indexByte, hbc, h4]
          rw [h1]
          rfl, h2, fun j hj => ?_⟩
        cases j with
        | zero => exact fun h => hb (Option.some.inj h)
        | succ j => exact fun h => h3 j (by omega) h
theorem ones (s : ByteArray) (j : Nat) : s.data.toList[j]? = some 1 ↔ (nats s)[j]? = some 1 := by
  unfold nats
  rw [List.getElem?_map]
  cases h : s.data.toList[j]? with
  | none => simp
  | some b =>
    simp only [Option.map_some, Option.some.injEq]
    constructor
    · rintro rfl; rfl
    · intro h2; exact UInt8.toNat_inj.1 (by rw [h2]; rfl)
set_option maxRecDepth 100000 in
set_option maxHeartbeats 8000000 in
theorem findBig (s : ByteArray) (k : Int) (w : World) (hs : s.size ≤ 16777216) (hk : I64 k) : Calls Tryd.prog 62 #[.string s, .int .i64 k] w fun e w' => e = .returned (.int .i64 (findF (nats s) k)) ∧ Below w.heap.size w w' := by
  obtain ⟨m, hm⟩ : ∃ m, m = s.size := ⟨_, rfl⟩
  have e1 : (s.size : Int) = (m : Int) := by omega
  have HM := Lib.hid hm
  obtain ⟨i, hi⟩ : ∃ i : Nat, (i : Int) = max k 0 := ⟨(max k 0).toNat, by omega⟩
  have HB := Lib.hid (Below.refl w.heap.size w)
  clear hm hk
  have HF := Lib.hid (show findF (nats s) k = findF (nats s) (i : Int) by
    have hle : ∀ j : Nat, k ≤ (j : Int) ↔ (i : Int) ≤ (j : Int) := fun j => by omega
    unfold findF
    simp only [hle])
  rw [HF.out]
  have hmx : max k 0 = (i : Int) := hi.symm
  have hmx0 : (max k 0).toNat = i := by omega
  clear hi
  by_cases h1 : m ≤ i
  · have t1 : decide ((m : Int) ≤ (i : Int)) = true := decide_eq_true (by omega)
    have t1' : decide (m ≤ i) = true := decide_eq_true h1
    have HX := Lib.hid (show findF (nats s) (i : Int) = -1 from find_none fun j hj h => by
      have := (List.getElem?_eq_some_iff.1 h).1
      rw [nats_len] at this
      have := HM.out
      omega)
    rw [HX.out]
    clear h1
    go_enter Tryd.func62, Tryd.ntmps62
    go_wp2
    go_ret
    exact ⟨rfl, HB.out⟩
  · have t1 : decide ((m : Int) ≤ (i : Int)) = false := decide_eq_false (by omega)
    have t1' : decide (m ≤ i) = false := decide_eq_false h1
    have hi2 : i ≤ s.size := by omega
    have HI2 := Lib.hid (show i < s.size by omega)
    obtain ⟨S, hS⟩ : ∃ S, S = s.extract i s.size := ⟨_, rfl⟩
    have HS := Lib.hid hS
    have HN := Lib.hid (show nats S = (nats s).drop i by rw [hS]; exact nats_behind s i)
    have HIB := Lib.hid (Tryd.strings_IndexByte S 1 w)
    clear h1 hS
    rcases indexByte_is 1 S.data.toList with ⟨h2, h3⟩ | ⟨q, h2, h3, h4⟩
    · have HX := Lib.hid (show findF (nats s) (i : Int) = -1 from find_none fun j hj h => by
        refine h3 (j - i) ((ones S _).2 ?_)
        rw [HN.out, List.getElem?_drop, show i + (j - i) = j by omega]
        exact h)
      rw [HX.out]
      replace HIB := Lib.hid (show Calls Tryd.prog 72 #[.string S, .int .u8 1] w fun e w' => e = .returned (.int .i64 (-1)) ∧ w' = w from HIB.out.mono fun e w' ⟨a, b⟩ => ⟨a.trans (by rw [← h2]; rfl), b⟩)
      clear h2 h3
      go_enter Tryd.func62, Tryd.ntmps62
      go_wp2_with fail
      rw [← HS.out]
      refine HIB.out.mono ?_
      rintro e w' ⟨rfl, rfl⟩
      go_wp2
      go_ret
      exact ⟨rfl, HB.out⟩
    · have hq1 : (nats S)[q]? = some 1 := (ones S q).1 h3
      have hql : q < S.size := by
        have := (List.getElem?_eq_some_iff.1 hq1).1
        rwa [nats_len] at this
      have hSs : S.size ≤ s.size := by
        have := congrArg List.length HN.out
        rw [nats_len, List.length_drop, nats_len] at this
        omega
      obtain ⟨d, hd⟩ : ∃ d, d = i + q := ⟨_, rfl⟩
      have HX := Lib.hid (show findF (nats s) (i : Int) = (d : Int) from find_at (by omega) (by
        rw [hd, ← List.getElem?_drop, ← HN.out]
        exact hq1) fun j hj hij h => by
          refine h4 (j - i) (by omega) ((ones S _).2 ?_)
          rw [HN.out, List.getElem?_drop, show i + (j - i) = j by omega]
          exact h)
      rw [HX.out]
      have k1 : IntKind.i64.wrap ((i : Int) + (q : Int)) = (d : Int) := by rw [IntKind.wrap_i64]; omega
      have t2 : decide ((q : Int) < 0) = false := decide_eq_false (by omega)
      replace HIB := Lib.hid (show Calls Tryd.prog 72 #[.string S, .int .u8 1] w fun e w' => e = .returned (.int .i64 (q : Int)) ∧ w' = w from HIB.out.mono fun e w' ⟨a, b⟩ => ⟨a.trans (by rw [← h2]; rfl), b⟩)
      clear h2 h3 h4 hq1 hql hd
      go_enter Tryd.func62, Tryd.ntmps62
      go_wp2_with fail
      rw [← HS.out]
      refine HIB.out.mono ?_
      rintro e w' ⟨rfl, rfl⟩
      go_wp2
      go_ret
      exact ⟨rfl, HB.out⟩
theorem findOk : FindOk := fun s k w hs hk => findBig s k w (by omega) hk
end Go.Proofs.YtajkldmpllphjaaDoor
