/-
  The contracts of the document's own Covers and Rel of chapter 6. The conditions: the vectors' cells; vectors of fewer than 2^62 counts.
-/
import Derived.Test.YtkdjfeaaojecdaaVecBase
namespace Go.Proofs.Ytkdjfeaaojecdaa
open Go.RowKit

set_option maxRecDepth 100000 in
set_option maxHeartbeats 4000000 in
theorem refCovers (pa pb : Option Addr) (ca cb : Nat) (a b : List Int) (w : World) (ha : Ints w pa a) (hb : Ints w pb b) (la : a.length ≤ 4611686018427387903) (lb : b.length ≤ 4611686018427387903) :
    Calls Try.prog 25 #[.slice pa a.length ca, .slice pb b.length cb] w fun e w' => e = .returned (.bool (VecMath.covers a b)) ∧ w' = w := by
  have HA := Lib.hid (fun r => refAt pa ca a r w ha (by omega))
  have HB := Lib.hid (fun r => refAt pb cb b r w hb (by omega))
  obtain ⟨N, hN⟩ : ∃ N, N = a.length := ⟨_, rfl⟩
  obtain ⟨M, hM⟩ : ∃ M, M = b.length := ⟨_, rfl⟩
  have HN := Lib.hid hN
  have HM := Lib.hid hM
  rw [← hN] at la HA ⊢
  rw [← hM] at lb HB ⊢
  clear hN hM ha hb
  go_enter Try.func25, Try.ntmps25
  go_wp2_with fail
  go_loopg [5] (max N M) (fun gh s5 wx => ∃ K : Nat, K + gh = max N M + 1 ∧ 1 ≤ K ∧ s5 = .int .i64 (K : Int) ∧ wx = w ∧ Hid (∀ i, i + 1 < K → VecMath.cnt b i ≤ VecMath.cnt a i))
  case atStart => exact ⟨1, by omega, by omega, by go_num, rfl, Lib.hid (fun i hi => by omega)⟩
  case round =>
    obtain ⟨K, hK, hK1, rfl, hwx, HC⟩ := hrel
    subst hwx
    have HAq := Lib.hid (show ∀ v : List Int, VecMath.at_ v (K : Int) = VecMath.cnt v (K - 1) from fun v => by
      obtain ⟨q, rfl⟩ : ∃ q, K = q + 1 := ⟨K - 1, by omega⟩
      rw [VecMath.at_nat, Nat.add_sub_cancel])
    obtain ⟨x, hx⟩ : ∃ x, x = VecMath.at_ a (K : Int) := ⟨_, rfl⟩
    obtain ⟨y, hy⟩ : ∃ y, y = VecMath.at_ b (K : Int) := ⟨_, rfl⟩
    have HA1 := HA.out (K : Int)
    have HB1 := HB.out (K : Int)
    rw [← hx] at HA1
    rw [← hy] at HB1
    have HA2 := Lib.hid HA1
    have HB2 := Lib.hid HB1
    have hx2 : x = VecMath.cnt a (K - 1) := by rw [hx]; exact HAq.out a
    have hy2 : y = VecMath.cnt b (K - 1) := by rw [hy]; exact HAq.out b
    have HX := Lib.hid hx2
    have HY := Lib.hid hy2
    clear hx hy HA1 HB1 hx2 hy2
    by_cases hKN : K ≤ N
    · skip
      have t1 : decide ((K : Int) ≤ (N : Int)) = true := decide_eq_true (by omega)
      have t1' : decide (K ≤ N) = true := decide_eq_true hKN
      by_cases hlt : x < y
      · have t3 : decide (x < y) = true := decide_eq_true hlt
        have HE := Lib.hid (show VecMath.covers a b = false from by
          rw [← Bool.not_eq_true]
          intro hc
          have := VecMath.covers_iff.1 hc (K - 1)
          rw [← HX.out, ← HY.out] at this
          omega)
        go_wp2_with (first
          | (go_at_call 12; refine HA2.out.mono ?_; rintro e w3 ⟨rfl, hw3⟩; rw [hw3]; clear hw3 HA2)
          | (go_at_call 12; refine HB2.out.mono ?_; rintro e w3 ⟨rfl, hw3⟩; rw [hw3]; clear hw3))
        go_ret
        exact ⟨by rw [HE.out]; rfl, rfl⟩
      · have t3 : decide (x < y) = false := decide_eq_false hlt
        have HC2 := Lib.hid (show ∀ i, i + 1 < K + 1 → VecMath.cnt b i ≤ VecMath.cnt a i from fun i hi => by
          by_cases h : i + 1 < K
          · exact HC.out i h
          · obtain rfl : i = K - 1 := by omega
            rw [← HX.out, ← HY.out]
            omega)
        go_wp2_with (first
          | (go_at_call 12; refine HA2.out.mono ?_; rintro e w3 ⟨rfl, hw3⟩; rw [hw3]; clear hw3 HA2)
          | (go_at_call 12; refine HB2.out.mono ?_; rintro e w3 ⟨rfl, hw3⟩; rw [hw3]; clear hw3))
        go_roundg (max N M - K)
        case measure => omega
        case rel => exact ⟨K + 1, by omega, by omega, by go_num, rfl, HC2⟩
    · have t1 : decide ((K : Int) ≤ (N : Int)) = false := decide_eq_false (by omega)
      have t1' : decide (K ≤ N) = false := decide_eq_false hKN
      by_cases hKM : K ≤ M
      · skip
        have t2 : decide ((K : Int) ≤ (M : Int)) = true := decide_eq_true (by omega)
        have t2' : decide (K ≤ M) = true := decide_eq_true hKM
        by_cases hlt : x < y
        · have t3 : decide (x < y) = true := decide_eq_true hlt
          have HE := Lib.hid (show VecMath.covers a b = false from by
            rw [← Bool.not_eq_true]
            intro hc
            have := VecMath.covers_iff.1 hc (K - 1)
            rw [← HX.out, ← HY.out] at this
            omega)
          go_wp2_with (first
            | (go_at_call 12; refine HA2.out.mono ?_; rintro e w3 ⟨rfl, hw3⟩; rw [hw3]; clear hw3 HA2)
            | (go_at_call 12; refine HB2.out.mono ?_; rintro e w3 ⟨rfl, hw3⟩; rw [hw3]; clear hw3))
          go_ret
          exact ⟨by rw [HE.out]; rfl, rfl⟩
        · have t3 : decide (x < y) = false := decide_eq_false hlt
          have HC2 := Lib.hid (show ∀ i, i + 1 < K + 1 → VecMath.cnt b i ≤ VecMath.cnt a i from fun i hi => by
            by_cases h : i + 1 < K
            · exact HC.out i h
            · obtain rfl : i = K - 1 := by omega
              rw [← HX.out, ← HY.out]
              omega)
          go_wp2_with (first
            | (go_at_call 12; refine HA2.out.mono ?_; rintro e w3 ⟨rfl, hw3⟩; rw [hw3]; clear hw3 HA2)
            | (go_at_call 12; refine HB2.out.mono ?_; rintro e w3 ⟨rfl, hw3⟩; rw [hw3]; clear hw3))
          go_roundg (max N M - K)
          case measure => omega
          case rel => exact ⟨K + 1, by omega, by omega, by go_num, rfl, HC2⟩
      · have t2 : decide ((K : Int) ≤ (M : Int)) = false := decide_eq_false (by omega)
        have t2' : decide (K ≤ M) = false := decide_eq_false hKM
        have HE := Lib.hid (show VecMath.covers a b = true from VecMath.covers_iff.2 fun i => by
          by_cases hi : i + 1 < K
          · exact HC.out i hi
          · rw [VecMath.cnt_behind (v := a) (by rw [← HN.out]; omega), VecMath.cnt_behind (v := b) (by rw [← HM.out]; omega)]
            exact Int.le_refl _)
        go_wp2
        go_ret
        exact ⟨by rw [HE.out]; rfl, rfl⟩
set_option maxRecDepth 100000 in
set_option maxHeartbeats 4000000 in
theorem refRel (pa pb : Option Addr) (ca cb : Nat) (a b : List Int) (w : World) (ha : Ints w pa a) (hb : Ints w pb b) (la : a.length ≤ 4611686018427387903) (lb : b.length ≤ 4611686018427387903) :
    Calls Try.prog 23 #[.slice pa a.length ca, .slice pb b.length cb] w fun e w' => e = .returned (.int .i64 (VecMath.rel a b)) ∧ w' = w := by
  have HA := Lib.hid (refCovers pa pb ca cb a b w ha hb la lb)
  have HB := Lib.hid (refCovers pb pa cb ca b a w hb ha lb la)
  unfold VecMath.rel
  obtain ⟨N, hN⟩ : ∃ N, N = a.length := ⟨_, rfl⟩
  obtain ⟨M, hM⟩ : ∃ M, M = b.length := ⟨_, rfl⟩
  rw [← hN, ← hM]
  rw [← hN, ← hM] at HA HB
  obtain ⟨x, hx⟩ : ∃ x, x = VecMath.covers a b := ⟨_, rfl⟩
  obtain ⟨y, hy⟩ : ∃ y, y = VecMath.covers b a := ⟨_, rfl⟩
  rw [← hx, ← hy]
  rw [← hx] at HA
  rw [← hy] at HB
  clear hN hM ha hb hx hy
  cases x
  · cases y
    · go_enter Try.func23, Try.ntmps23
      go_wp2_with fail
      refine HA.out.mono ?_
      rintro e w3 ⟨rfl, hw3⟩
      rw [hw3]
      clear hw3 w3
      go_wp2_with fail
      refine HA.out.mono ?_
      rintro e w3 ⟨rfl, hw3⟩
      rw [hw3]
      clear hw3 w3
      go_wp2_with fail
      refine HB.out.mono ?_
      rintro e w3 ⟨rfl, hw3⟩
      rw [hw3]
      clear hw3 w3
      go_wp2_with fail
      go_ret
      exact ⟨rfl, rfl⟩
    · go_enter Try.func23, Try.ntmps23
      go_wp2_with fail
      refine HA.out.mono ?_
      rintro e w3 ⟨rfl, hw3⟩
      rw [hw3]
      clear hw3 w3
      go_wp2_with fail
      refine HA.out.mono ?_
      rintro e w3 ⟨rfl, hw3⟩
      rw [hw3]
      clear hw3 w3
      go_wp2_with fail
      refine HB.out.mono ?_
      rintro e w3 ⟨rfl, hw3⟩
      rw [hw3]
      clear hw3 w3
      go_wp2_with fail
      go_ret
      exact ⟨rfl, rfl⟩
  · cases y
    · go_enter Try.func23, Try.ntmps23
      go_wp2_with fail
      refine HA.out.mono ?_
      rintro e w3 ⟨rfl, hw3⟩
      rw [hw3]
      clear hw3 w3
      go_wp2_with fail
      refine HB.out.mono ?_
      rintro e w3 ⟨rfl, hw3⟩
      rw [hw3]
      clear hw3 w3
      go_wp2_with fail
      refine HA.out.mono ?_
      rintro e w3 ⟨rfl, hw3⟩
      rw [hw3]
      clear hw3 w3
      go_wp2_with fail
      go_ret
      exact ⟨rfl, rfl⟩
    · go_enter Try.func23, Try.ntmps23
      go_wp2_with fail
      refine HA.out.mono ?_
      rintro e w3 ⟨rfl, hw3⟩
      rw [hw3]
      clear hw3 w3
      go_wp2_with fail
      refine HB.out.mono ?_
      rintro e w3 ⟨rfl, hw3⟩
      rw [hw3]
      clear hw3 w3
      go_wp2_with fail
      go_ret
      exact ⟨rfl, rfl⟩
end Go.Proofs.Ytkdjfeaaojecdaa
