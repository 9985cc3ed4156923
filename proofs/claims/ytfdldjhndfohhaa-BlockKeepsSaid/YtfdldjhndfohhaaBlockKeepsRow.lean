/-
  BlockKeeps: of any script and loss it returns true and leaves them as they were. No conditions.
-/
import Derived.Test.YtfdldjhndfohhaaRowBase
import Derived.Test.YtfdldjhndfohhaaBlockKeeps
import Derived.Test.YtfdldjhndfohhaaBlockOpen2
import Derived.Test.YtfdldjhndfohhaaBlockProg
namespace Go.Proofs.Ytfdldjhndfohhaa
open Go.ChangeShapes Go.WideShapes Go.RowKit Go.ChangeMaps BlockMath

set_option maxRecDepth 100000 in
theorem blockKeeps_lifted (os : Os) (started : os.Started) (H : Type) (enc : TypeId × Value → H) :
    ReturnsInHanded {} Try.checked os 3 .any (fun w args => Rows.blockKeepsSpec.pre enc Try.prog Try.f3 [] false w args ∧ sizedMet enc Try.prog Try.f3 (OpenSpec.ofChange Rows.blockKeepsSpec) false w args)
      (Rows.blockKeepsSpec.post enc Try.prog Try.f3 false true false false) := by
  refine law_lifted_plain (C := Try.checked) ownNone started (by kernel_rfl) Try.func3 rfl (by kernel_rfl) (by kernel_rfl) rfl Try.underlying4
    (ChangeSpec.witness_at (enc := enc) (C := Try.checked) (os := os) (X := fun w _ => laidMetH Try.prog [] w) false (plainWorld os) #[.slice none 0 0, .agg #[.string ⟨#[]⟩, .int .i64 0, .string ⟨#[]⟩]] 8 rfl (by kernel_rfl) (by kernel_rfl) (by kernel_rfl) (by kernel_rfl) (by kernel_rfl) (laidMet_nil _ _)) ?_ ?_
  · intro ds hd
    match ds, hd with
    | [_, _], _ => rfl
  intro W base args ds p hval hA
  rw [Try.params3] at hA hval
  obtain ⟨v0, v1, d0, d1, p0, p1, rfl, rfl, rfl, h0, h1⟩ := trodAll_two hA
  obtain ⟨xs, pp, cap, rfl, hc, hl, hI, hs⟩ := open_ops (hval 0 22 v0 rfl rfl) h0
  obtain ⟨l, k, m, rfl, hl2, hk, hm⟩ := open_loss (hval 1 24 v1 rfl rfl) h1
  exact keeps_true newOk appendOk syncOk crashOk lenOk readOk cutOk safeOk pp cap xs l m k W hk hl2 hm hI hs

theorem blockKeeps_holds : Rows.BlockKeepsSaid :=
  OpenClaim.holds_of_wide 3 Try.f3 rfl rfl rfl rfl rfl rfl rfl ⟨rfl, rfl, rfl, rfl, rfl⟩ rfl rfl rfl rfl rfl (by kernel_rfl) Try.func3 (by kernel_rfl)
    (of_decide_eq_true (by kernel_rfl)) (by unfold Func.isWrapper; rw [if_neg (of_decide_eq_false (by kernel_rfl))]; exact ⟨rfl, rfl⟩)
    (fun os started H enc _ => blockKeeps_lifted os started H enc)

end Go.Proofs.Ytfdldjhndfohhaa
