/-
  The contract of the document's own RightClaims of chapter 5. The conditions: the vector's cells.
-/
import Derived.Test.YtpmhfoleafjlbaaWireEncC
import Derived.Test.YtpmhfoleafjlbaaWireRefRight
namespace Go.Proofs.Ytpmhfoleafjlbaa
open Go.RowKit TextNat

set_option maxRecDepth 100000 in
set_option maxHeartbeats 4000000 in
theorem refRightClaims (x : ClaimsV) (w : World) (hz : Ints w x.cp x.cl) (hl : x.cl.length ≤ 9223372036854775807) :
    Calls Try.prog 28 #[x.val] w fun e w' => e = .returned (.bool x.right) ∧ Below w.heap.size w w' := by
  have HV := Lib.hid (fun w1 (h : Below w.heap.size w w1) => refTrimmed x.cl x.cp x.cc 1099511627776 w1 (hz.grown h) hl)
  have HW := Lib.hid (fun n a w => refBetween n a w)
  obtain ⟨session, user, epoch, issue, key, cp, cl, cc⟩ := x
  simp only [ClaimsV.val] at *
  clear hz hl
  have HIff := Lib.hid (show (ClaimsV.mk session user epoch issue key cp cl cc).right = (inr (session.size : Int) 1 64 && (inr (user.size : Int) 1 32 && (inr epoch 0 1099511627776 && (inr issue 0 1099511627776 && (inr key 0 1099511627776 && WireMath.trimmed cl 1099511627776))))) from rfl)
  go_enter Try.func28, Try.ntmps28
  go_wp2_with (first
    | (go_at_call 44; refine (HW.out _ _ _).mono ?_; rintro e w3 ⟨rfl, rfl⟩)
    | (go_at_call 45; refine (HV.out _ ((Below.refl _ _).alloc (Nat.le_refl _) _)).mono ?_; rintro e w3 ⟨rfl, rfl⟩))
  all_goals
    have hI := HIff.out
    clear HV HW HIff
    go_ret
    refine ⟨?_, (Below.refl _ _).alloc (Nat.le_refl _) _⟩
    show Ending.returned (Value.bool _) = Ending.returned (Value.bool _)
    congr 2
    rw [hI]
    clear hI
    first
      | (rw [inr_true (n := (session.size : Int)) (by omega), inr_true (n := (user.size : Int)) (by omega)]; simp [*]; done)
      | (rw [inr_true (n := (session.size : Int)) (by omega), inr_false.2 (show (user.size : Int) < 1 ∨ (32 : Int) < (user.size : Int) by omega)]; simp; done)
      | (rw [inr_false.2 (show (session.size : Int) < 1 ∨ (64 : Int) < (session.size : Int) by omega)]; simp; done)
end Go.Proofs.Ytpmhfoleafjlbaa
