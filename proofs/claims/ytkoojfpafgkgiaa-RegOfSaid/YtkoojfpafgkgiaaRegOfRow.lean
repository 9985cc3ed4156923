/-
  RegOf: of any write it returns true and leaves them as they were. No conditions.
-/
import Derived.Test.YtkoojfpafgkgiaaRowBase
import Derived.Test.YtkoojfpafgkgiaaRegOf
import Derived.Test.YtkoojfpafgkgiaaWriteSized
import Derived.Test.YtkoojfpafgkgiaaLawSized
import Derived.Test.YtkoojfpafgkgiaaRegWhole
namespace Go.Proofs.Ytkoojfpafgkgiaa
open Go.ChangeShapes Go.WideShapes Go.RowKit Go.ChangeMaps

set_option maxRecDepth 100000 in
theorem regOf_lifted (os : Os) (started : os.Started) (H : Type) (enc : TypeId × Value → H) :
    ReturnsInHanded {} Try.checked os 6 .any (fun w args => Rows.regOfSpec.pre enc Try.prog Try.f6 [] false w args ∧ sizedMet enc Try.prog Try.f6 (OpenSpec.ofChange Rows.regOfSpec) false w args)
      (Rows.regOfSpec.post enc Try.prog Try.f6 false true false false) := by
  refine law_lifted_sized_plain (C := Try.checked) ownNone started (by kernel_rfl) Try.func6 rfl (by kernel_rfl) (by kernel_rfl) rfl Try.underlying4
    (ChangeSpec.witness_at (enc := enc) (C := Try.checked) (os := os) (X := fun w _ => laidMetH Try.prog [] w) false (plainWorld os) #[.agg #[.int .i64 0, .int .i64 0, .int .i64 0, .int .i64 0, .slice none 0 0, .string ⟨#[]⟩, .string ⟨#[]⟩, .string ⟨#[]⟩, .bool false, .int .i64 0]] 8 rfl (by kernel_rfl) (by kernel_rfl) (by kernel_rfl) (by kernel_rfl) (by kernel_rfl) (laidMet_nil _ _)) ?_ ?_
  · intro ds hd
    match ds, hd with
    | [_], _ => rfl
  intro W base args ds p hval hA hsz
  rw [Try.params6] at hA hval hsz
  obtain ⟨v0, d0, rfl, rfl, h0⟩ := trodAll_one hA
  obtain ⟨x, rfl, hz, _, _, _, _⟩ := open_write (hval 0 41 v0 rfl rfl) h0
  exact of_true awakeOk mergeOk ofOk x W hz (by have := write_sized h0 hsz; omega)

theorem regOf_holds : Rows.RegOfSaid :=
  OpenClaim.holds_of_wide 6 Try.f6 rfl rfl rfl rfl rfl rfl rfl ⟨rfl, rfl, rfl, rfl, rfl⟩ rfl rfl rfl rfl rfl (by kernel_rfl) Try.func6 (by kernel_rfl)
    (of_decide_eq_true (by kernel_rfl)) (by unfold Func.isWrapper; rw [if_neg (of_decide_eq_false (by kernel_rfl))]; exact ⟨rfl, rfl⟩)
    (fun os started H enc _ => regOf_lifted os started H enc)

end Go.Proofs.Ytkoojfpafgkgiaa
