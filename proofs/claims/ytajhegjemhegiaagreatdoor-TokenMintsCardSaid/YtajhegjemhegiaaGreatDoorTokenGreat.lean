/-
  Chapter 12's helper great. No conditions but those typed.
-/
import Derived.Test.YtajhegjemhegiaaGreatDoorPart21
namespace Go.Proofs.YtajhegjemhegiaaGreatDoor
open Go.RowKit TextNat

def greatC (x : ClaimsV) : Bool := decide (1000 < x.session.size) || decide (1000 < x.user.size) || decide (100 < x.cl.length)
set_option maxRecDepth 100000 in
set_option maxHeartbeats 4000000 in
theorem great_ok (x : ClaimsV) (w : World) : Calls Tryz.prog 10 #[x.val] w fun e w' => e = .returned (.bool (greatC x)) ∧ Below w.heap.size w w' := by
  obtain ⟨se, us, e, i, k, cp, cl, cc⟩ := x
  simp only [ClaimsV.val]
  have e1 : decide ((1000 : Int) < (se.size : Int)) = decide (1000 < se.size) := decide_eq_decide.2 (by omega)
  have e2 : decide ((1000 : Int) < (us.size : Int)) = decide (1000 < us.size) := decide_eq_decide.2 (by omega)
  have e3 : decide ((100 : Int) < (cl.length : Int)) = decide (100 < cl.length) := decide_eq_decide.2 (by omega)
  have HE := Lib.hid (And.intro e1 (And.intro e2 e3))
  clear e1 e2 e3
  go_enter Tryz.func10, Tryz.ntmps10
  go_wp2
  all_goals
    go_ret
    refine ⟨?_, (Below.refl _ _).alloc (Nat.le_refl _) _⟩
    unfold greatC
    rw [← HE.out.1, ← HE.out.2.1, ← HE.out.2.2]
    simp [*]
end Go.Proofs.YtajhegjemhegiaaGreatDoor
