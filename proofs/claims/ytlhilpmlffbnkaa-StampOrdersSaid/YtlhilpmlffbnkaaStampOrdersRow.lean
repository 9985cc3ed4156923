/-
  StampOrders: of any stamps it returns true and leaves them as they were. No conditions.
-/
import Derived.Test.YtlhilpmlffbnkaaRowBase
import Derived.Test.YtlhilpmlffbnkaaStampOrders
import Derived.Test.YtlhilpmlffbnkaaStampOpen
import Derived.Test.YtlhilpmlffbnkaaIntsIn
import Derived.Test.YtlhilpmlffbnkaaStampProg
namespace Go.Proofs.Ytlhilpmlffbnkaa
open Go.ChangeShapes Go.WideShapes Go.RowKit Go.ChangeMaps

set_option maxRecDepth 100000 in
theorem stampOrders_lifted (os : Os) (started : os.Started) (H : Type) (enc : TypeId × Value → H) :
    ReturnsInHanded {} Try.checked os 3 .any (fun w args => Rows.stampOrdersSpec.pre enc Try.prog Try.f3 [] false w args ∧ sizedMet enc Try.prog Try.f3 (OpenSpec.ofChange Rows.stampOrdersSpec) false w args)
      (Rows.stampOrdersSpec.post enc Try.prog Try.f3 false true false false) := by
  refine law_lifted_plain (C := Try.checked) ownNone started (by kernel_rfl) Try.func3 rfl (by kernel_rfl) (by kernel_rfl) rfl Try.underlying4
    (ChangeSpec.witness_at (enc := enc) (C := Try.checked) (os := os) (X := fun w _ => laidMetH Try.prog [] w) false (plainWorld os) #[.slice none 0 0] 8 rfl (by kernel_rfl) (by kernel_rfl) (by kernel_rfl) (by kernel_rfl) (by kernel_rfl) (laidMet_nil _ _)) ?_ ?_
  · intro ds hd
    match ds, hd with
    | [_], _ => rfl
  intro W base args ds p hval hA
  rw [Try.params3] at hA hval
  obtain ⟨v0, d0, rfl, rfl, h0⟩ := trodAll_one hA
  obtain ⟨xs0, pp0, cap0, rfl, c0, m0, I0, b0⟩ := open_stamps (hval 0 22 v0 rfl rfl) h0
  exact orders_true pp0 cap0 xs0 W I0 (by unfold maxLen at m0; omega) c0 lessOk greatestOk newOk nextOk seeOk

theorem stampOrders_holds : Rows.StampOrdersSaid :=
  OpenClaim.holds_of_wide 3 Try.f3 rfl rfl rfl rfl rfl rfl rfl ⟨rfl, rfl, rfl, rfl, rfl⟩ rfl rfl rfl rfl rfl (by kernel_rfl) Try.func3 (by kernel_rfl)
    (of_decide_eq_true (by kernel_rfl)) (by unfold Func.isWrapper; rw [if_neg (of_decide_eq_false (by kernel_rfl))]; exact ⟨rfl, rfl⟩)
    (fun os started H enc _ => stampOrders_lifted os started H enc)

end Go.Proofs.Ytlhilpmlffbnkaa
