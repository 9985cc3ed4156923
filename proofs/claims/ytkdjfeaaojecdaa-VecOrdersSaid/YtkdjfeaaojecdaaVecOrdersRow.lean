/-
  VecOrders: of any three vectors it returns true and leaves them as they were. No conditions.
-/
import Derived.Test.YtkdjfeaaojecdaaRowBase
import Derived.Test.YtkdjfeaaojecdaaVecOrders
import Derived.Test.YtkdjfeaaojecdaaVecOpen
import Derived.Test.YtkdjfeaaojecdaaVecProg
namespace Go.Proofs.Ytkdjfeaaojecdaa
open Go.ChangeShapes Go.WideShapes Go.RowKit Go.ChangeMaps

set_option maxRecDepth 100000 in
theorem vecOrders_lifted (os : Os) (started : os.Started) (H : Type) (enc : TypeId × Value → H) :
    ReturnsInHanded {} Try.checked os 5 .any (fun w args => Rows.vecOrdersSpec.pre enc Try.prog Try.f5 [] false w args ∧ sizedMet enc Try.prog Try.f5 (OpenSpec.ofChange Rows.vecOrdersSpec) false w args)
      (Rows.vecOrdersSpec.post enc Try.prog Try.f5 false true false false) := by
  refine law_lifted_plain (C := Try.checked) ownNone started (by kernel_rfl) Try.func5 rfl (by kernel_rfl) (by kernel_rfl) rfl Try.underlying4
    (ChangeSpec.witness_at (enc := enc) (C := Try.checked) (os := os) (X := fun w _ => laidMetH Try.prog [] w) false (plainWorld os) #[.slice none 0 0, .slice none 0 0, .slice none 0 0] 8 rfl (by kernel_rfl) (by kernel_rfl) (by kernel_rfl) (by kernel_rfl) (by kernel_rfl) (laidMet_nil _ _)) ?_ ?_
  · intro ds hd
    match ds, hd with
    | [_, _, _], _ => rfl
  intro W base args ds p hval hA
  rw [Try.params5] at hA hval
  obtain ⟨v0, v1, v2, d0, d1, d2, p0, p1, p2, rfl, rfl, rfl, h0, h1, h2⟩ := trodAll_three hA
  obtain ⟨x0, rfl, s0, z0⟩ := open_vec (hval 0 22 v0 rfl rfl) h0
  obtain ⟨x1, rfl, s1, z1⟩ := open_vec (hval 1 22 v1 rfl rfl) h1
  obtain ⟨x2, rfl, s2, z2⟩ := open_vec (hval 2 22 v2 rfl rfl) h2
  exact orders_true x0 x1 x2 W z0 z1 z2 (by have := s0.cap; have := s0.len; unfold maxLen at *; omega) (by have := s1.cap; have := s1.len; unfold maxLen at *; omega) (by have := s2.cap; have := s2.len; unfold maxLen at *; omega) joinOk coversOk relOk

theorem vecOrders_holds : Rows.VecOrdersSaid :=
  OpenClaim.holds_of_wide 5 Try.f5 rfl rfl rfl rfl rfl rfl rfl ⟨rfl, rfl, rfl, rfl, rfl⟩ rfl rfl rfl rfl rfl (by kernel_rfl) Try.func5 (by kernel_rfl)
    (of_decide_eq_true (by kernel_rfl)) (by unfold Func.isWrapper; rw [if_neg (of_decide_eq_false (by kernel_rfl))]; exact ⟨rfl, rfl⟩)
    (fun os started H enc _ => vecOrders_lifted os started H enc)

end Go.Proofs.Ytkdjfeaaojecdaa
