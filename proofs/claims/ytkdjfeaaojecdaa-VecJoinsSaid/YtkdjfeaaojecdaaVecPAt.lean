/-
  The contracts of the program's At, Covers and Rel of chapter 6. No conditions but those typed.
-/
import Derived.Test.YtkdjfeaaojecdaaVecLaws
namespace Go.Proofs.Ytkdjfeaaojecdaa
open Go.RowKit

set_option maxRecDepth 100000 in
set_option maxHeartbeats 4000000 in
theorem atOk : AtOk := by
  intro p c l r w h hl hr
  obtain ⟨N, hN⟩ : ∃ N, N = l.length := ⟨_, rfl⟩
  have HI := Lib.hid h
  have HN := Lib.hid hN
  have HB := Lib.hid (Below.refl w.heap.size w)
  rw [← hN] at hl ⊢
  clear h hN
  by_cases h1 : r < 1
  · have t1 : decide (r < 1) = true := decide_eq_true h1
    have HE := Lib.hid (show VecMath.at_ l r = 0 by unfold VecMath.at_; rw [if_neg (by omega)])
    go_enter Try.func11, Try.ntmps11
    go_wp2
    go_ret
    exact ⟨by rw [HE.out]; rfl, HB.out⟩
  · have t1 : decide (r < 1) = false := decide_eq_false h1
    obtain ⟨R, hR⟩ : ∃ R : Nat, r = ((R + 1 : Nat) : Int) := ⟨r.toNat - 1, by omega⟩
    have HE := Lib.hid (show VecMath.at_ l r = VecMath.cnt l R by rw [hR]; exact VecMath.at_nat l R)
    by_cases h2 : (N : Int) < r
    · have t2 : decide ((N : Int) < r) = true := decide_eq_true h2
      have HZ := Lib.hid (show VecMath.cnt l R = 0 from VecMath.cnt_behind (by rw [← HN.out]; omega))
      clear hR
      go_enter Try.func11, Try.ntmps11
      go_wp2
      go_ret
      exact ⟨by rw [HE.out, HZ.out]; rfl, HB.out⟩
    · have t2 : decide ((N : Int) < r) = false := decide_eq_false h2
      have hRN : R < N := by omega
      obtain ⟨z, hz⟩ : ∃ z, l[R]? = some z := ⟨_, List.getElem?_eq_getElem (by rw [← HN.out]; exact hRN)⟩
      obtain ⟨_, b, off, rfl, hc⟩ := HI.out R z hz
      have HZ := Lib.hid (show VecMath.cnt l R = z from VecMath.cnt_at hz)
      have hr1 : r - 1 = (R : Int) := by omega
      have i1 : 0 ≤ r - 1 := by omega
      have i2 : r - 1 < (N : Int) := by omega
      have i3 : (r - 1).toNat = R := by omega
      clear hz hR
      go_enter Try.func11, Try.ntmps11
      go_wp2
      go_ret
      exact ⟨by rw [HE.out, HZ.out]; rfl, HB.out⟩
set_option maxRecDepth 100000 in
set_option maxHeartbeats 4000000 in
theorem coversOk : CoversOk := by
  intro pa pb ca cb a b w ha hb la lb
  have HA := Lib.hid (fun r w1 (hw : Below w.heap.size w w1) (hr : -9223372036854775808 ≤ r ∧ r ≤ 9223372036854775807) => atOk pa ca a r w1 (ha.grown hw) la hr)
  have HB := Lib.hid (fun r w1 (hw : Below w.heap.size w w1) (hr : -9223372036854775808 ≤ r ∧ r ≤ 9223372036854775807) => atOk pb cb b r w1 (hb.grown hw) lb hr)
  obtain ⟨N, hN⟩ : ∃ N, N = a.length := ⟨_, rfl⟩
  obtain ⟨M, hM⟩ : ∃ M, M = b.length := ⟨_, rfl⟩
  have HN := Lib.hid hN
  have HM := Lib.hid hM
  rw [← hN] at la HA ⊢
  rw [← hM] at lb HB ⊢
  clear hN hM ha hb
  -- the loop
  have HO := Lib.hid (Below.refl w.heap.size w)
  by_cases hNM : N < M
  · go_enter Try.func24, Try.ntmps24
    go_wp2_with fail
    go_loopg [11] M (fun gh s11 wx => ∃ K : Nat, K + gh = M ∧ s11 = .int .i64 (K : Int) ∧ Below w.heap.size w wx ∧ Hid (∀ i, i < K → VecMath.cnt b i ≤ VecMath.cnt a i))
    case atStart => exact ⟨0, by omega, by go_num, HO.out, Lib.hid (fun i hi => by omega)⟩
    case round =>
      obtain ⟨K, hK, rfl, hwb, HC⟩ := hrel
      have HW := Lib.hid hwb
      clear hwb HO
      by_cases hKN : K < M
      · have t1 : decide ((K : Int) < (M : Int)) = true := decide_eq_true (by omega)
        have t1' : decide (K < M) = true := decide_eq_true hKN
        obtain ⟨x, hx⟩ : ∃ x, x = VecMath.cnt a K := ⟨_, rfl⟩
        obtain ⟨y, hy⟩ : ∃ y, y = VecMath.cnt b K := ⟨_, rfl⟩
        have HA1 := HA.out ((K : Int) + 1) wr HW.out (by omega)
        rw [show ((K : Int) + 1) = ((K + 1 : Nat) : Int) by omega, VecMath.at_nat, ← hx, show ((K + 1 : Nat) : Int) = (K : Int) + 1 by omega] at HA1
        have HA2 := Lib.hid HA1
        have HX := Lib.hid hx
        have HY := Lib.hid hy
        have HB1 := fun w1 hw1 => HB.out ((K : Int) + 1) w1 hw1 (by omega)
        rw [show ((K : Int) + 1) = ((K + 1 : Nat) : Int) by omega, VecMath.at_nat, ← hy, show ((K + 1 : Nat) : Int) = (K : Int) + 1 by omega] at HB1
        have HB2 := Lib.hid HB1
        clear hx hy HA1 HB1
        by_cases hlt : x < y
        · have t3 : decide (x < y) = true := decide_eq_true hlt
          have HE := Lib.hid (show VecMath.covers a b = false from by
            rw [← Bool.not_eq_true]
            intro hc
            have := VecMath.covers_iff.1 hc K
            rw [← HX.out, ← HY.out] at this
            omega)
          go_wp2_with fail
          refine HA2.out.mono ?_
          rintro e w3 ⟨rfl, hb3⟩
          replace HW := Lib.hid (HW.out.trans (hb3.mono HW.out.size))
          clear hb3
          go_wp2_with fail
          refine (HB2.out _ HW.out).mono ?_
          rintro e w4 ⟨rfl, hb4⟩
          replace HW := Lib.hid (HW.out.trans (hb4.mono HW.out.size))
          clear hb4
          go_wp2
          go_ret
          exact ⟨by rw [HE.out]; rfl, HW.out⟩
        · have t3 : decide (x < y) = false := decide_eq_false hlt
          have HC2 := Lib.hid (show ∀ i, i < K + 1 → VecMath.cnt b i ≤ VecMath.cnt a i from fun i hi => by
            by_cases h : i < K
            · exact HC.out i h
            · obtain rfl : i = K := by omega
              rw [← HX.out, ← HY.out]
              omega)
          go_wp2_with fail
          refine HA2.out.mono ?_
          rintro e w3 ⟨rfl, hb3⟩
          replace HW := Lib.hid (HW.out.trans (hb3.mono HW.out.size))
          clear hb3
          go_wp2_with fail
          refine (HB2.out _ HW.out).mono ?_
          rintro e w4 ⟨rfl, hb4⟩
          replace HW := Lib.hid (HW.out.trans (hb4.mono HW.out.size))
          clear hb4
          go_wp2
          go_roundg (M - (K + 1))
          case measure => omega
          case rel => exact ⟨K + 1, by omega, by go_num, HW.out, HC2⟩
      · have t1 : decide ((K : Int) < (M : Int)) = false := decide_eq_false (by omega)
        have t1' : decide (K < M) = false := decide_eq_false hKN
        have HE := Lib.hid (show VecMath.covers a b = true from VecMath.covers_iff.2 fun i => by
          by_cases hi : i < K
          · exact HC.out i hi
          · rw [VecMath.cnt_behind (v := a) (by rw [← HN.out]; omega), VecMath.cnt_behind (v := b) (by rw [← HM.out]; omega)]
            exact Int.le_refl _)
        go_wp2
        go_ret
        exact ⟨by rw [HE.out]; rfl, HW.out⟩
  · go_enter Try.func24, Try.ntmps24
    go_wp2_with fail
    go_loopg [11] N (fun gh s11 wx => ∃ K : Nat, K + gh = N ∧ s11 = .int .i64 (K : Int) ∧ Below w.heap.size w wx ∧ Hid (∀ i, i < K → VecMath.cnt b i ≤ VecMath.cnt a i))
    case atStart => exact ⟨0, by omega, by go_num, HO.out, Lib.hid (fun i hi => by omega)⟩
    case round =>
      obtain ⟨K, hK, rfl, hwb, HC⟩ := hrel
      have HW := Lib.hid hwb
      clear hwb HO
      by_cases hKN : K < N
      · have t1 : decide ((K : Int) < (N : Int)) = true := decide_eq_true (by omega)
        have t1' : decide (K < N) = true := decide_eq_true hKN
        obtain ⟨x, hx⟩ : ∃ x, x = VecMath.cnt a K := ⟨_, rfl⟩
        obtain ⟨y, hy⟩ : ∃ y, y = VecMath.cnt b K := ⟨_, rfl⟩
        have HA1 := HA.out ((K : Int) + 1) wr HW.out (by omega)
        rw [show ((K : Int) + 1) = ((K + 1 : Nat) : Int) by omega, VecMath.at_nat, ← hx, show ((K + 1 : Nat) : Int) = (K : Int) + 1 by omega] at HA1
        have HA2 := Lib.hid HA1
        have HX := Lib.hid hx
        have HY := Lib.hid hy
        have HB1 := fun w1 hw1 => HB.out ((K : Int) + 1) w1 hw1 (by omega)
        rw [show ((K : Int) + 1) = ((K + 1 : Nat) : Int) by omega, VecMath.at_nat, ← hy, show ((K + 1 : Nat) : Int) = (K : Int) + 1 by omega] at HB1
        have HB2 := Lib.hid HB1
        clear hx hy HA1 HB1
        by_cases hlt : x < y
        · have t3 : decide (x < y) = true := decide_eq_true hlt
          have HE := Lib.hid (show VecMath.covers a b = false from by
            rw [← Bool.not_eq_true]
            intro hc
            have := VecMath.covers_iff.1 hc K
            rw [← HX.out, ← HY.out] at this
            omega)
          go_wp2_with fail
          refine HA2.out.mono ?_
          rintro e w3 ⟨rfl, hb3⟩
          replace HW := Lib.hid (HW.out.trans (hb3.mono HW.out.size))
          clear hb3
          go_wp2_with fail
          refine (HB2.out _ HW.out).mono ?_
          rintro e w4 ⟨rfl, hb4⟩
          replace HW := Lib.hid (HW.out.trans (hb4.mono HW.out.size))
          clear hb4
          go_wp2
          go_ret
          exact ⟨by rw [HE.out]; rfl, HW.out⟩
        · have t3 : decide (x < y) = false := decide_eq_false hlt
          have HC2 := Lib.hid (show ∀ i, i < K + 1 → VecMath.cnt b i ≤ VecMath.cnt a i from fun i hi => by
            by_cases h : i < K
            · exact HC.out i h
            · obtain rfl : i = K := by omega
              rw [← HX.out, ← HY.out]
              omega)
          go_wp2_with fail
          refine HA2.out.mono ?_
          rintro e w3 ⟨rfl, hb3⟩
          replace HW := Lib.hid (HW.out.trans (hb3.mono HW.out.size))
          clear hb3
          go_wp2_with fail
          refine (HB2.out _ HW.out).mono ?_
          rintro e w4 ⟨rfl, hb4⟩
          replace HW := Lib.hid (HW.out.trans (hb4.mono HW.out.size))
          clear hb4
          go_wp2
          go_roundg (N - (K + 1))
          case measure => omega
          case rel => exact ⟨K + 1, by omega, by go_num, HW.out, HC2⟩
      · have t1 : decide ((K : Int) < (N : Int)) = false := decide_eq_false (by omega)
        have t1' : decide (K < N) = false := decide_eq_false hKN
        have HE := Lib.hid (show VecMath.covers a b = true from VecMath.covers_iff.2 fun i => by
          by_cases hi : i < K
          · exact HC.out i hi
          · rw [VecMath.cnt_behind (v := a) (by rw [← HN.out]; omega), VecMath.cnt_behind (v := b) (by rw [← HM.out]; omega)]
            exact Int.le_refl _)
        go_wp2
        go_ret
        exact ⟨by rw [HE.out]; rfl, HW.out⟩
set_option maxRecDepth 100000 in
set_option maxHeartbeats 4000000 in
theorem relOk : RelOk := by
  intro pa pb ca cb a b w ha hb la lb
  have HA := Lib.hid (coversOk pa pb ca cb a b w ha hb la lb)
  have HB := Lib.hid (fun w1 (hw : Below w.heap.size w w1) => coversOk pb pa cb ca b a w1 (hb.grown hw) (ha.grown hw) lb la)
  unfold VecMath.rel
  obtain ⟨N, hN⟩ : ∃ N, N = a.length := ⟨_, rfl⟩
  obtain ⟨M, hM⟩ : ∃ M, M = b.length := ⟨_, rfl⟩
  rw [← hN, ← hM]
  rw [← hN, ← hM] at HA HB
  obtain ⟨x, hx⟩ : ∃ x, x = VecMath.covers a b := ⟨_, rfl⟩
  obtain ⟨y, hy⟩ : ∃ y, y = VecMath.covers b a := ⟨_, rfl⟩
  rw [← hx, ← hy]
  rw [← hx] at HA
  rw [← hy] at HB
  have HW := Lib.hid (Below.refl w.heap.size w)
  clear hN hM ha hb hx hy
  go_enter Try.func22, Try.ntmps22
  go_wp2_with fail
  refine HA.out.mono ?_
  rintro e w3 ⟨rfl, hb3⟩
  replace HW := Lib.hid (HW.out.trans (hb3.mono HW.out.size))
  clear hb3
  go_wp2_with fail
  refine (HB.out _ HW.out).mono ?_
  rintro e w4 ⟨rfl, hb4⟩
  replace HW := Lib.hid (HW.out.trans (hb4.mono HW.out.size))
  clear hb4
  cases x <;> cases y
  all_goals
    go_wp2
    go_ret
    exact ⟨rfl, HW.out⟩
end Go.Proofs.Ytkdjfeaaojecdaa
