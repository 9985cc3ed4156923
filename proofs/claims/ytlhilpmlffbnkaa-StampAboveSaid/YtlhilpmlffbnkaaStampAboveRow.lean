/-
  StampAbove: of any region and stamps it returns true and leaves them as they were. No conditions.
-/
import Derived.Test.YtlhilpmlffbnkaaRowBase
import Derived.Test.YtlhilpmlffbnkaaStampAbove
import Derived.Test.YtlhilpmlffbnkaaStampOpen
import Derived.Test.YtlhilpmlffbnkaaIntsIn
import Derived.Test.YtlhilpmlffbnkaaStampProg
namespace Go.Proofs.Ytlhilpmlffbnkaa
open Go.ChangeShapes Go.WideShapes Go.RowKit Go.ChangeMaps

set_option maxRecDepth 100000 in
theorem stampAbove_lifted (os : Os) (started : os.Started) (H : Type) (enc : TypeId × Value → H) :
    ReturnsInHanded {} Try.checked os 5 .any (fun w args => Rows.stampAboveSpec.pre enc Try.prog Try.f5 [] false w args ∧ sizedMet enc Try.prog Try.f5 (OpenSpec.ofChange Rows.stampAboveSpec) false w args)
      (Rows.stampAboveSpec.post enc Try.prog Try.f5 false true false false) := by
  refine law_lifted_plain (C := Try.checked) ownNone started (by kernel_rfl) Try.func5 rfl (by kernel_rfl) (by kernel_rfl) rfl Try.underlying4
    (ChangeSpec.witness_at (enc := enc) (C := Try.checked) (os := os) (X := fun w _ => laidMetH Try.prog [] w) false (plainWorld os) #[.int .i64 0, .slice none 0 0] 8 rfl (by kernel_rfl) (by kernel_rfl) (by kernel_rfl) (by kernel_rfl) (by kernel_rfl) (laidMet_nil _ _)) ?_ ?_
  · intro ds hd
    match ds, hd with
    | [_, _], _ => rfl
  intro W base args ds p hval hA
  rw [Try.params5] at hA hval
  obtain ⟨v0, v1, d0, d1, p0, p1, rfl, rfl, rfl, h0, h1⟩ := trodAll_two hA
  obtain ⟨n0, rfl, _, _, w0⟩ := open_int Try.underlying3 (hval 0 3 v0 rfl rfl) h0
  obtain ⟨xs1, pp1, cap1, rfl, c1, m1, I1, b1⟩ := open_stamps (hval 1 22 v1 rfl rfl) h1
  exact above_true n0 pp1 cap1 xs1 W I1 b1 (wf_i64 w0) lessOk newOk nextOk seeOk timeOk

theorem stampAbove_holds : Rows.StampAboveSaid :=
  OpenClaim.holds_of_wide 5 Try.f5 rfl rfl rfl rfl rfl rfl rfl ⟨rfl, rfl, rfl, rfl, rfl⟩ rfl rfl rfl rfl rfl (by kernel_rfl) Try.func5 (by kernel_rfl)
    (of_decide_eq_true (by kernel_rfl)) (by unfold Func.isWrapper; rw [if_neg (of_decide_eq_false (by kernel_rfl))]; exact ⟨rfl, rfl⟩)
    (fun os started H enc _ => stampAbove_lifted os started H enc)

end Go.Proofs.Ytlhilpmlffbnkaa
