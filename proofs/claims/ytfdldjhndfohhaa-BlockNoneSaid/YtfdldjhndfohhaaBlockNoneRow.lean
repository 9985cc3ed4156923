/-
  BlockNone: of any operation it returns true and leaves them as they were. No conditions.
-/
import Derived.Test.YtfdldjhndfohhaaRowBase
import Derived.Test.YtfdldjhndfohhaaBlockNone
import Derived.Test.YtfdldjhndfohhaaBlockOpen2
import Derived.Test.YtfdldjhndfohhaaBlockProg
namespace Go.Proofs.Ytfdldjhndfohhaa
open Go.ChangeShapes Go.WideShapes Go.RowKit Go.ChangeMaps BlockMath

set_option maxRecDepth 100000 in
theorem blockNone_lifted (os : Os) (started : os.Started) (H : Type) (enc : TypeId × Value → H) :
    ReturnsInHanded {} Try.checked os 6 .any (fun w args => Rows.blockNoneSpec.pre enc Try.prog Try.f6 [] false w args ∧ sizedMet enc Try.prog Try.f6 (OpenSpec.ofChange Rows.blockNoneSpec) false w args)
      (Rows.blockNoneSpec.post enc Try.prog Try.f6 false true false false) := by
  refine law_lifted_plain (C := Try.checked) ownNone started (by kernel_rfl) Try.func6 rfl (by kernel_rfl) (by kernel_rfl) rfl Try.underlying4
    (ChangeSpec.witness_at (enc := enc) (C := Try.checked) (os := os) (X := fun w _ => laidMetH Try.prog [] w) false (plainWorld os) #[.agg #[.int .i64 0, .string ⟨#[]⟩, .int .i64 0, .int .i64 0]] 8 rfl (by kernel_rfl) (by kernel_rfl) (by kernel_rfl) (by kernel_rfl) (by kernel_rfl) (laidMet_nil _ _)) ?_ ?_
  · intro ds hd
    match ds, hd with
    | [_], _ => rfl
  intro W base args ds p hval hA
  rw [Try.params6] at hA hval
  obtain ⟨v0, d0, rfl, rfl, h0⟩ := trodAll_one hA
  obtain ⟨x, rfl, hr⟩ := open_op (hval 0 33 v0 rfl rfl) h0
  exact none_true newOk appendOk syncOk crashOk lenOk readOk noneOk x.k x.n x.m x.s W hr.2.2.1 hr.2.2.2 hr.2.1

theorem blockNone_holds : Rows.BlockNoneSaid :=
  OpenClaim.holds_of_wide 6 Try.f6 rfl rfl rfl rfl rfl rfl rfl ⟨rfl, rfl, rfl, rfl, rfl⟩ rfl rfl rfl rfl rfl (by kernel_rfl) Try.func6 (by kernel_rfl)
    (of_decide_eq_true (by kernel_rfl)) (by unfold Func.isWrapper; rw [if_neg (of_decide_eq_false (by kernel_rfl))]; exact ⟨rfl, rfl⟩)
    (fun os started H enc _ => blockNone_lifted os started H enc)

end Go.Proofs.Ytfdldjhndfohhaa
