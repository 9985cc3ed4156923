/-
  The contract of the document's own RightWrite of chapter 5. The conditions: the vector's cells.
-/
import Derived.Test.YtpmhfoleafjlbaaWireEnc
import Derived.Test.YtpmhfoleafjlbaaRefTrimmed
namespace Go.Proofs.Ytpmhfoleafjlbaa
open Go.RowKit TextNat

theorem inr_false {n a b : Int} : inr n a b = false ↔ n < a ∨ b < n := by rw [← Bool.not_eq_true, inr_iff]; omega
theorem refBetween (n a : Int) (w : World) : Calls Try.prog 44 #[.int .i64 n, .int .i64 a] w fun e w' => e = .returned (.bool (inr n a 1099511627776)) ∧ w' = w := by
  by_cases h1 : a ≤ n
  · by_cases h2 : n ≤ 1099511627776
    · rw [inr_true ⟨h1, h2⟩]
      have t1 : decide (a ≤ n) = true := decide_eq_true h1
      have t2 : decide (n ≤ 1099511627776) = true := decide_eq_true h2
      go_enter Try.func44, Try.ntmps44
      go_wp2
      go_ret
      exact ⟨rfl, rfl⟩
    · have hf : inr n a 1099511627776 = false := by unfold inr; rw [decide_eq_false h2, Bool.and_false]
      rw [hf]
      have t1 : decide (a ≤ n) = true := decide_eq_true h1
      have t2 : decide (n ≤ 1099511627776) = false := decide_eq_false h2
      go_enter Try.func44, Try.ntmps44
      go_wp2
      go_ret
      exact ⟨rfl, rfl⟩
  · have hf : inr n a 1099511627776 = false := by unfold inr; rw [decide_eq_false h1, Bool.false_and]
    rw [hf]
    have t1 : decide (a ≤ n) = false := decide_eq_false h1
    go_enter Try.func44, Try.ntmps44
    go_wp2
    go_ret
    exact ⟨rfl, rfl⟩

set_option maxRecDepth 100000 in
set_option maxHeartbeats 4000000 in
theorem refRightWrite (x : WriteV) (w : World) (hz : Ints w x.dp x.dl) (hl : x.dl.length ≤ 9223372036854775807) :
    Calls Try.prog 21 #[x.val] w fun e w' => e = .returned (.bool x.right) ∧ Below w.heap.size w w' := by
  have HV := Lib.hid (fun w1 (h : Below w.heap.size w w1) => refTrimmed x.dl x.dp x.dc 1099511627776 w1 (hz.grown h) hl)
  have HW := Lib.hid (fun n a w => refBetween n a w)
  obtain ⟨region, number, time, sreg, dp, dl, dc, session, key, value, gone, life⟩ := x
  simp only [WriteV.val] at *
  clear hz hl
  have HIff := Lib.hid (show RightIs ⟨region, number, time, sreg, dp, dl, dc, session, key, value, gone, life⟩ ↔ (1 ≤ region ∧ region ≤ 16 ∧ 1 ≤ number ∧ number ≤ 1099511627776 ∧ 1 ≤ time ∧ time ≤ 1099511627776 ∧ sreg = region ∧ WireMath.trimmed dl 1099511627776 = true ∧ 1 ≤ session.size ∧ session.size ≤ 64 ∧ key.size ≤ 32 ∧ value.size ≤ 128 ∧ (value.size = 0 ∨ gone = false) ∧ 0 ≤ life ∧ life ≤ 1099511627776) from
    ⟨fun h => ⟨h.region.1, h.region.2, h.number.1, h.number.2, h.time.1, h.time.2, h.sreg, h.deps, h.session.1, h.session.2, h.key, h.value, h.gone, h.life.1, h.life.2⟩, fun ⟨h1, h2, h3, h4, h5, h6, h7, h8, h9, h10, h11, h12, h13, h14, h15⟩ => ⟨⟨h1, h2⟩, ⟨h3, h4⟩, ⟨h5, h6⟩, h7, h8, ⟨h9, h10⟩, h11, h12, h13, ⟨h14, h15⟩⟩⟩)
  cases gone with
  | false =>
    go_enter Try.func21, Try.ntmps21
    go_wp2_with (first
      | (go_at_call 44; refine (HW.out _ _ _).mono ?_; rintro e w3 ⟨rfl, rfl⟩)
      | (go_at_call 45; refine (HV.out _ ((Below.refl _ _).alloc (Nat.le_refl _) _)).mono ?_; rintro e w3 ⟨rfl, rfl⟩))
    all_goals
      have hI := HIff.out
      clear HV HW HIff
      go_ret
      refine ⟨?_, (Below.refl _ _).alloc (Nat.le_refl _) _⟩
      show Ending.returned (Value.bool _) = Ending.returned (Value.bool _)
      congr 2
      symm
      (try subst ‹sreg = region›)
      first
        | (rw [Bool.eq_false_iff]; intro h; rw [right_iff, hI] at h; clear hI; obtain ⟨h1, h2, h3, h4, h5, h6, h7, h8, h9, h10, h11, h12, h13, h14, h15⟩ := h; (try simp only [inr_iff, inr_false, Bool.not_eq_true', Bool.not_eq_true] at *); first | omega | (exfalso; exact absurd h8 (by first | assumption | (simp only [Bool.not_eq_true]; assumption))) | (exfalso; exact absurd h8 (by rw [Bool.not_eq_true]; assumption)) | (exfalso; simp_all; done))
        | (rw [right_iff, hI]; clear hI; (try simp only [inr_iff, Bool.not_eq_false'] at *); refine ⟨?_, ?_, ?_, ?_, ?_, ?_, ?_, ?_, ?_, ?_, ?_, ?_, ?_, ?_, ?_⟩ <;> first | assumption | omega | trivial | (left; omega) | (right; rfl) | (right; trivial))
  | true =>
    by_cases hv : value.size = 0
    · have hv1 : decide ((0 : Int) < (value.size : Int)) = false := decide_eq_false (by omega)
      have hv2 : ¬ (0 : Int) < (value.size : Int) := by omega
      have hv3 : decide (0 < value.size) = false := decide_eq_false (by omega)
      go_enter Try.func21, Try.ntmps21
      go_wp2_with (first
        | (go_at_call 44; refine (HW.out _ _ _).mono ?_; rintro e w3 ⟨rfl, rfl⟩)
        | (go_at_call 45; refine (HV.out _ ((Below.refl _ _).alloc (Nat.le_refl _) _)).mono ?_; rintro e w3 ⟨rfl, rfl⟩))
      all_goals
        have hI := HIff.out
        clear HV HW HIff
        go_ret
        refine ⟨?_, (Below.refl _ _).alloc (Nat.le_refl _) _⟩
        show Ending.returned (Value.bool _) = Ending.returned (Value.bool _)
        congr 2
        symm
        (try subst ‹sreg = region›)
        first
          | (rw [Bool.eq_false_iff]; intro h; rw [right_iff, hI] at h; clear hI; obtain ⟨h1, h2, h3, h4, h5, h6, h7, h8, h9, h10, h11, h12, h13, h14, h15⟩ := h; (try simp only [inr_iff, inr_false, Bool.not_eq_true', Bool.not_eq_true] at *); first | omega | (exfalso; exact absurd h8 (by first | assumption | (simp only [Bool.not_eq_true]; assumption))) | (exfalso; exact absurd h8 (by rw [Bool.not_eq_true]; assumption)) | (exfalso; simp_all; done))
          | (rw [right_iff, hI]; clear hI; (try simp only [inr_iff, Bool.not_eq_false'] at *); refine ⟨?_, ?_, ?_, ?_, ?_, ?_, ?_, ?_, ?_, ?_, ?_, ?_, ?_, ?_, ?_⟩ <;> first | assumption | omega | trivial | (left; omega) | (right; rfl) | (right; trivial))
    · have hv1 : decide ((0 : Int) < (value.size : Int)) = true := decide_eq_true (by omega)
      have hv2 : (0 : Int) < (value.size : Int) := by omega
      have hv3 : decide (0 < value.size) = true := decide_eq_true (by omega)
      go_enter Try.func21, Try.ntmps21
      go_wp2_with (first
        | (go_at_call 44; refine (HW.out _ _ _).mono ?_; rintro e w3 ⟨rfl, rfl⟩)
        | (go_at_call 45; refine (HV.out _ ((Below.refl _ _).alloc (Nat.le_refl _) _)).mono ?_; rintro e w3 ⟨rfl, rfl⟩))
      all_goals
        have hI := HIff.out
        clear HV HW HIff
        go_ret
        refine ⟨?_, (Below.refl _ _).alloc (Nat.le_refl _) _⟩
        show Ending.returned (Value.bool _) = Ending.returned (Value.bool _)
        congr 2
        symm
        (try subst ‹sreg = region›)
        first
          | (rw [Bool.eq_false_iff]; intro h; rw [right_iff, hI] at h; clear hI; obtain ⟨h1, h2, h3, h4, h5, h6, h7, h8, h9, h10, h11, h12, h13, h14, h15⟩ := h; (try simp only [inr_iff, inr_false, Bool.not_eq_true', Bool.not_eq_true] at *); first | omega | (exfalso; exact absurd h8 (by first | assumption | (simp only [Bool.not_eq_true]; assumption))) | (exfalso; exact absurd h8 (by rw [Bool.not_eq_true]; assumption)) | (exfalso; simp_all; done))
          | (rw [right_iff, hI]; clear hI; (try simp only [inr_iff, Bool.not_eq_false'] at *); refine ⟨?_, ?_, ?_, ?_, ?_, ?_, ?_, ?_, ?_, ?_, ?_, ?_, ?_, ?_, ?_⟩ <;> first | assumption | omega | trivial | (left; omega) | (right; rfl) | (right; trivial))
end Go.Proofs.Ytpmhfoleafjlbaa
