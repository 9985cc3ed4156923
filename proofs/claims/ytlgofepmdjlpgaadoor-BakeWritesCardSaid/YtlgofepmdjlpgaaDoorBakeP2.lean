/-
  The program's age, site, halves and rightPath of chapter 14. The conditions: texts of at most 20,000 bytes; unicode/utf8's two tables as Go's text lays them (halves).
-/
import Derived.Test.YtlgofepmdjlpgaaDoorBakeP1
namespace Go.Proofs.YtlgofepmdjlpgaaDoor
open Go.RowKit TextNat BakeMath

/-- What age answers. -/
def ageF (l : List Nat) : Int × Bool := if 0 ≤ numberF l then (numberF l, true) else (0, false)
theorem ageF_bad {l : List Nat} (h : numberF l = -1) : ageF l = (0, false) := by unfold ageF; rw [h]; rfl
theorem ageF_good {l : List Nat} {n : Nat} (h : numberF l = (n : Int)) : ageF l = ((n : Int), true) := by unfold ageF; rw [h, if_pos (by omega)]
set_option maxRecDepth 100000 in
set_option maxHeartbeats 8000000 in
theorem page (s : ByteArray) (w : World) (hs : s.size ≤ 20000) :
    Calls Tryd.prog 41 #[.string s] w fun e w' => e = .returned (.tuple #[.int .i64 (ageF (nats s)).1, .bool (ageF (nats s)).2]) ∧ Below w.heap.size w w' := by
  have HB := Lib.hid (Below.refl w.heap.size w)
  have HC := Lib.hid (cut_prefix s 45 w)
  obtain ⟨d, hd⟩ : ∃ d, d = unled 45 (nats s) := ⟨_, rfl⟩
  have hdl : ∀ b ∈ d, b < 256 := by rw [hd]; exact unled_lt (nats_lt s)
  obtain ⟨D, hD⟩ : ∃ D, D = txt d := ⟨_, rfl⟩
  have hDn : nats D = d := by rw [hD, nats_txt _ hdl]
  have hDs : D.size ≤ 20000 := by
    rw [hD, txt_len, hd]
    have := unled_len 45 (nats s)
    rw [nats_len] at this
    omega
  obtain ⟨bl, hbl⟩ : ∃ bl, bl = ((nats s).head? == some 45) := ⟨_, rfl⟩
  have hF := number_min (l := nats s) (d := nats D) (below := bl) hbl (by rw [hDn, hd, hbl]; unfold unled; by_cases h : (nats s).head? = some 45 <;> simp [h])
  have HF := Lib.hid hF
  replace HC : Hid (Calls Tryd.prog 46 #[.string s, .string ⟨#[45]⟩] w fun e w' => e = .returned (.tuple #[.string D, .bool bl]) ∧ w' = w) := Lib.hid (by
    rw [hD, hd, hbl]
    exact HC.out)
  obtain ⟨L, hL⟩ : ∃ L, L = nats s := ⟨_, rfl⟩
  rw [← hL]
  rw [← hL] at HF
  clear hd hdl hD hDn hbl hF hL
  go_enter Tryd.func41, Tryd.ntmps41
  go_wp2_with (go_at_call 46; refine HC.out.mono ?_; rintro e w2 ⟨rfl, hw⟩; rw [hw]; clear hw)
  go_loopg [15, 6] D.size (fun gh s15 s6 wx => ∃ i v : Nat, i + gh = D.size ∧ s15 = .int .i64 (i : Int) ∧ s6 = .int .i64 (v : Int) ∧ Hid (v = min (val ((nats D).take i)) top) ∧ Hid (((nats D).take i).all digit = true) ∧ wx = w)
  case atStart => exact ⟨0, 0, by omega, by go_num, by go_num, Lib.hid rfl, Lib.hid rfl, rfl⟩
  case round =>
    obtain ⟨i, v, hi, rfl, rfl, hv, ha, rfl⟩ := hrel
    have hvb : v ≤ 1099511627776 := by rw [hv.out]; exact Nat.min_le_right _ _
    by_cases hlt : i < D.size
    · have t1 : decide ((i : Int) < (D.size : Int)) = true := decide_eq_true (by omega)
      have t1' : decide (i < D.size) = true := decide_eq_true hlt
      obtain ⟨z, hz⟩ : ∃ z, z = (D[i]'hlt).toNat := ⟨_, rfl⟩
      have hx : ((D[i]'hlt).toNat : Int) = (z : Int) := by rw [hz]
      have hzi : (nats D)[i]? = some z := by rw [hz]; exact nats_at D i hlt
      by_cases hd : digit z = true
      · have hd2 : 48 ≤ z ∧ z ≤ 57 := by
          unfold digit at hd
          simp only [Bool.and_eq_true, decide_eq_true_eq] at hd
          exact hd
        have t2 : decide ((z : Int) < 48) = false := decide_eq_false (by omega)
        have t3 : decide ((57 : Int) < (z : Int)) = false := decide_eq_false (by omega)
        have HA := Lib.hid (show ((nats D).take (i + 1)).all digit = true by
          rw [List.take_add_one, hzi, List.all_append, ha.out]
          simp [hd])
        have hst := val_min hzi
        rw [← hv.out] at hst
        obtain ⟨y, hy⟩ : ∃ y, y = 10 * v + (z - 48) := ⟨_, rfl⟩
        obtain ⟨x, hxx⟩ : ∃ x, x = z - 48 := ⟨_, rfl⟩
        have k1 : IntKind.i64.wrap ((v : Int) * 10) = (v : Int) * 10 := by rw [IntKind.wrap_i64]; omega
        have k2 : IntKind.u8.wrap ((z : Int) - 48) = (x : Int) := by rw [IntKind.wrap_u8, hxx]; omega
        have k3 : IntKind.i64.wrap (x : Int) = (x : Int) := by rw [IntKind.wrap_i64]; omega
        have k4 : IntKind.i64.wrap ((v : Int) * 10 + (x : Int)) = (y : Int) := by rw [IntKind.wrap_i64, hy, hxx]; omega
        have k5 : (v : Int) * 10 + (x : Int) = (y : Int) := by omega
        have k6 : IntKind.i64.wrap (y : Int) = (y : Int) := by rw [IntKind.wrap_i64]; omega
        rw [← hy] at hst
        by_cases hc : 1099511627776 < y
        · have t4 : ¬ ((y : Int) ≤ 1099511627776) := by omega
          have HV := Lib.hid (show 1099511627776 = min (val ((nats D).take (i + 1))) top by rw [← hst]; unfold top; omega)
          clear hv ha hvb hz hzi hd hd2 hst hc hy hxx
          go_wp2
          go_roundg (D.size - (i + 1))
          case measure => omega
          case rel => exact ⟨i + 1, 1099511627776, by omega, by go_num, congrArg (Value.int .i64) (by omega), HV, HA, rfl⟩
        · have t4 : (y : Int) ≤ 1099511627776 := by omega
          have HV := Lib.hid (show y = min (val ((nats D).take (i + 1))) top by rw [← hst]; unfold top; omega)
          clear hv ha hvb hz hzi hd hd2 hst hc hy hxx
          go_wp2
          go_roundg (D.size - (i + 1))
          case measure => omega
          case rel => exact ⟨i + 1, y, by omega, by go_num, congrArg (Value.int .i64) (by omega), HV, HA, rfl⟩
      · have HN := Lib.hid (ageF_bad (l := L) (by
          rw [HF.out, if_pos (.inr (by
            cases h : (nats D).all digit with
            | false => rfl
            | true => exact absurd (List.all_eq_true.1 h z (List.mem_of_getElem? hzi)) hd))]))
        have hd2 : z < 48 ∨ 57 < z := by
          unfold digit at hd
          simp only [Bool.and_eq_true, decide_eq_true_eq] at hd
          omega
        by_cases h48 : z < 48
        · have t2 : decide ((z : Int) < 48) = true := decide_eq_true (by omega)
          clear hv ha hvb hz hzi hd hd2 h48
          go_wp2
          go_ret2
          exact ⟨by rw [HN.out]; rfl, HB.out⟩
        · have t2 : decide ((z : Int) < 48) = false := decide_eq_false (by omega)
          have t3 : decide ((57 : Int) < (z : Int)) = true := decide_eq_true (by omega)
          clear hv ha hvb hz hzi hd hd2 h48
          go_wp2
          go_ret2
          exact ⟨by rw [HN.out]; rfl, HB.out⟩
    · obtain rfl : i = D.size := by omega
      have t1 : decide (D.size < D.size) = false := decide_eq_false (by omega)
      have hall : ((nats D).take D.size) = nats D := List.take_of_length_le (by rw [nats_len]; exact Nat.le_refl _)
      rw [hall] at hv ha
      by_cases h0 : D = ⟨#[]⟩
      · subst h0
        have HN := Lib.hid (ageF_bad (l := L) (by rw [HF.out, if_pos (.inl rfl)]))
        have hv0 : v = 0 := by rw [hv.out]; rfl
        clear hall hv ha hvb
        subst hv0
        cases bl
        · go_wp2
          go_ret2
          exact ⟨by rw [HN.out]; rfl, HB.out⟩
        · go_wp2
          go_ret2
          exact ⟨by rw [HN.out]; rfl, HB.out⟩
      · have hne : ¬ (nats D = [] ∨ (nats D).all digit = false) := by
          rw [ha.out]
          rintro (h | h)
          · exact h0 (by rw [← txt_nats D, h]; rfl)
          · cases h
        have hF := HF.out
        rw [if_neg hne] at hF
        have e0 := some_list h0
        cases bl
        · have HN := Lib.hid (ageF_good (l := L) (n := v) (by rw [hF, hv.out]; rfl))
          clear hall hv ha hvb hne hF h0
          go_wp2
          go_ret2
          exact ⟨by rw [HN.out]; rfl, HB.out⟩
        · have HN := Lib.hid (ageF_good (l := L) (n := 0) (by rw [hF]; rfl))
          clear hall hv ha hvb hne hF h0
          go_wp2
          go_ret2
          exact ⟨by rw [HN.out]; rfl, HB.out⟩
set_option maxRecDepth 100000 in
set_option maxHeartbeats 8000000 in
theorem psite (s : ByteArray) (w : World) (hs : s.size ≤ 20000) :
    Calls Tryd.prog 42 #[.string s] w fun e w' => e = .returned (.int .i64 (siteOf (nats s))) ∧ Below w.heap.size w w' := by
  have HS := Lib.hid (psmall s w hs)
  obtain ⟨k, hk⟩ : ∃ k, k = small (nats s) := ⟨_, rfl⟩
  have hkb : ∀ b ∈ k, b < 256 := by rw [hk]; exact small_lt (nats_lt s)
  have HV := Lib.hid (show siteOf (nats s) = if k = vStrict then 1 else if k = vLax then 2 else if k = vNone then 3 else 0 by unfold siteOf; rw [hk])
  rw [← hk] at HS
  obtain ⟨V, hV⟩ : ∃ V, V = siteOf (nats s) := ⟨_, rfl⟩
  rw [← hV] at HV ⊢
  have e1 : ((txt k).toList == [115, 116, 114, 105, 99, 116]) = decide (k = vStrict) := lit_eq hkb (by decide) (by kernel_rfl)
  have e2 : ((txt k).toList == [108, 97, 120]) = decide (k = vLax) := lit_eq hkb (by decide) (by kernel_rfl)
  have e3 : ((txt k).toList == [110, 111, 110, 101]) = decide (k = vNone) := lit_eq hkb (by decide) (by kernel_rfl)
  obtain ⟨K, hK⟩ : ∃ K, K = txt k := ⟨_, rfl⟩
  rw [← hK] at HS e1 e2 e3
  clear hK hk hkb hV
  by_cases h1 : k = vStrict
  · rw [decide_eq_true h1] at e1
    have HW := Lib.hid (show V = 1 by rw [HV.out, if_pos h1])
    clear HV h1 e2 e3
    go_enter Tryd.func42, Tryd.ntmps42
    go_wp2_with (go_at_call 39; refine HS.out.mono ?_; rintro e w2 ⟨rfl, hb⟩; replace hb := Lib.hid hb)
    go_ret
    exact ⟨by rw [HW.out]; rfl, hb.out⟩
  rw [decide_eq_false h1] at e1
  by_cases h2 : k = vLax
  · rw [decide_eq_true h2] at e2
    have HW := Lib.hid (show V = 2 by rw [HV.out, if_neg h1, if_pos h2])
    clear HV h1 h2 e3
    go_enter Tryd.func42, Tryd.ntmps42
    go_wp2_with (go_at_call 39; refine HS.out.mono ?_; rintro e w2 ⟨rfl, hb⟩; replace hb := Lib.hid hb)
    go_ret
    exact ⟨by rw [HW.out]; rfl, hb.out⟩
  rw [decide_eq_false h2] at e2
  by_cases h3 : k = vNone
  · rw [decide_eq_true h3] at e3
    have HW := Lib.hid (show V = 3 by rw [HV.out, if_neg h1, if_neg h2, if_pos h3])
    clear HV h1 h2 h3
    go_enter Tryd.func42, Tryd.ntmps42
    go_wp2_with (go_at_call 39; refine HS.out.mono ?_; rintro e w2 ⟨rfl, hb⟩; replace hb := Lib.hid hb)
    go_ret
    exact ⟨by rw [HW.out]; rfl, hb.out⟩
  rw [decide_eq_false h3] at e3
  have HW := Lib.hid (show V = 0 by rw [HV.out, if_neg h1, if_neg h2, if_neg h3])
  clear HV h1 h2 h3
  go_enter Tryd.func42, Tryd.ntmps42
  go_wp2_with (go_at_call 39; refine HS.out.mono ?_; rintro e w2 ⟨rfl, hb⟩; replace hb := Lib.hid hb)
  go_ret
  exact ⟨by rw [HW.out]; rfl, hb.out⟩
set_option maxRecDepth 100000 in
set_option maxHeartbeats 8000000 in
theorem phalves (s : ByteArray) (w : World) (hs : s.size ≤ 20000) (up : ∀ w2, Below w.heap.size w w2 → Tabs w2) :
    Calls Tryd.prog 22 #[.string s] w fun e w' => e = .returned (.tuple #[.string (txt (TextMath.trim (cutAt 61 (nats s)).1)), .string (txt (TextMath.trim (cutAt 61 (nats s)).2.1)), .bool (cutAt 61 (nats s)).2.2]) ∧ Below w.heap.size w w' := by
  have HC := Lib.hid (cut_equals s w (by omega))
  obtain ⟨q1, q2, _⟩ := cutAt_len 61 (nats s)
  obtain ⟨q4, q5⟩ := cutAt_mem 61 (nats s)
  rw [nats_len] at q1 q2
  have hU := fun w2 (hb : Below w.heap.size w w2) => ptrim_call (txt (cutAt 61 (nats s)).1) w2 (by rw [txt_len]; omega) (up w2 hb)
  have hV := fun w2 (hb : Below w.heap.size w w2) => ptrim_call (txt (cutAt 61 (nats s)).2.1) w2 (by rw [txt_len]; omega) (up w2 hb)
  rw [nats_txt _ (fun b hb => nats_lt s b (q4 b hb))] at hU
  rw [nats_txt _ (fun b hb => nats_lt s b (q5 b hb))] at hV
  have HU := Lib.hid hU
  have HV := Lib.hid hV
  have HB := Lib.hid (Below.refl w.heap.size w)
  clear hU hV
  obtain ⟨A, hA⟩ : ∃ A, A = txt (cutAt 61 (nats s)).1 := ⟨_, rfl⟩
  obtain ⟨B, hB⟩ : ∃ B, B = txt (cutAt 61 (nats s)).2.1 := ⟨_, rfl⟩
  obtain ⟨A2, hA2⟩ : ∃ A2, A2 = txt (TextMath.trim (cutAt 61 (nats s)).1) := ⟨_, rfl⟩
  obtain ⟨B2, hB2⟩ : ∃ B2, B2 = txt (TextMath.trim (cutAt 61 (nats s)).2.1) := ⟨_, rfl⟩
  obtain ⟨o, ho⟩ : ∃ o, o = (cutAt 61 (nats s)).2.2 := ⟨_, rfl⟩
  rw [← hA, ← hB, ← ho] at HC
  rw [← hA, ← hA2] at HU
  rw [← hB, ← hB2] at HV
  rw [← hA2, ← hB2, ← ho]
  clear hA hB hA2 hB2 ho q1 q2 q4 q5
  go_enter Tryd.func22, Tryd.ntmps22
  go_wp2_with (first
    | (go_at_call 21; refine HC.out.mono ?_; rintro e w2 ⟨rfl, hb⟩; replace HB := Lib.hid hb; clear hb)
    | fail)
  refine (HU.out _ HB.out).mono ?_
  rintro e w3 ⟨rfl, hb⟩
  replace HB := Lib.hid (HB.out.trans (hb.mono HB.out.size))
  clear hb
  go_wp2_with fail
  refine (HV.out _ HB.out).mono ?_
  rintro e w4 ⟨rfl, hb⟩
  replace HB := Lib.hid (HB.out.trans (hb.mono HB.out.size))
  clear hb
  go_wp2
  go_ret3
  exact ⟨rfl, HB.out⟩
end Go.Proofs.YtlgofepmdjlpgaaDoor
