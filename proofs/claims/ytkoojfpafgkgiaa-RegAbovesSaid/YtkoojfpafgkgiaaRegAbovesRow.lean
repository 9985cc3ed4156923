/-
  RegAboves: of any cells it returns true and leaves them as they were. No conditions.
-/
import Derived.Test.YtkoojfpafgkgiaaRowBase
import Derived.Test.YtkoojfpafgkgiaaRegAboves
import Derived.Test.YtkoojfpafgkgiaaRegOpen
import Derived.Test.YtkoojfpafgkgiaaRegWhole
namespace Go.Proofs.Ytkoojfpafgkgiaa
open Go.ChangeShapes Go.WideShapes Go.RowKit Go.ChangeMaps

set_option maxRecDepth 100000 in
theorem regAboves_lifted (os : Os) (started : os.Started) (H : Type) (enc : TypeId × Value → H) :
    ReturnsInHanded {} Try.checked os 3 .any (fun w args => Rows.regAbovesSpec.pre enc Try.prog Try.f3 [] false w args ∧ sizedMet enc Try.prog Try.f3 (OpenSpec.ofChange Rows.regAbovesSpec) false w args)
      (Rows.regAbovesSpec.post enc Try.prog Try.f3 false true false false) := by
  refine law_lifted_plain (C := Try.checked) ownNone started (by kernel_rfl) Try.func3 rfl (by kernel_rfl) (by kernel_rfl) rfl Try.underlying4
    (ChangeSpec.witness_at (enc := enc) (C := Try.checked) (os := os) (X := fun w _ => laidMetH Try.prog [] w) false (plainWorld os) #[.slice none 0 0] 8 rfl (by kernel_rfl) (by kernel_rfl) (by kernel_rfl) (by kernel_rfl) (by kernel_rfl) (laidMet_nil _ _)) ?_ ?_
  · intro ds hd
    match ds, hd with
    | [_], _ => rfl
  intro W base args ds p hval hA
  rw [Try.params3] at hA hval
  obtain ⟨v0, d0, rfl, rfl, h0⟩ := trodAll_one hA
  obtain ⟨xs, pp, cap, rfl, hc, hm, hI⟩ := regs_in (hval 0 22 v0 rfl rfl) h0
  exact aboves_true awakeOk visibleOk aboveOk pp cap xs W hI (by omega)

theorem regAboves_holds : Rows.RegAbovesSaid :=
  OpenClaim.holds_of_wide 3 Try.f3 rfl rfl rfl rfl rfl rfl rfl ⟨rfl, rfl, rfl, rfl, rfl⟩ rfl rfl rfl rfl rfl (by kernel_rfl) Try.func3 (by kernel_rfl)
    (of_decide_eq_true (by kernel_rfl)) (by unfold Func.isWrapper; rw [if_neg (of_decide_eq_false (by kernel_rfl))]; exact ⟨rfl, rfl⟩)
    (fun os started H enc _ => regAboves_lifted os started H enc)

end Go.Proofs.Ytkoojfpafgkgiaa
