/-
  BlockFull: of any room and texts it returns true and leaves them as they were. No conditions.
-/
import Derived.Test.YtfdldjhndfohhaaRowBase
import Derived.Test.YtfdldjhndfohhaaBlockFull
import Derived.Test.YtfdldjhndfohhaaBlockOpen2
import Derived.Test.YtfdldjhndfohhaaBlockProg
namespace Go.Proofs.Ytfdldjhndfohhaa
open Go.ChangeShapes Go.WideShapes Go.RowKit Go.ChangeMaps BlockMath

set_option maxRecDepth 100000 in
theorem blockFull_lifted (os : Os) (started : os.Started) (H : Type) (enc : TypeId × Value → H) :
    ReturnsInHanded {} Try.checked os 5 .any (fun w args => Rows.blockFullSpec.pre enc Try.prog Try.f5 [] false w args ∧ sizedMet enc Try.prog Try.f5 (OpenSpec.ofChange Rows.blockFullSpec) false w args)
      (Rows.blockFullSpec.post enc Try.prog Try.f5 false true false false) := by
  refine law_lifted_plain (C := Try.checked) ownNone started (by kernel_rfl) Try.func5 rfl (by kernel_rfl) (by kernel_rfl) rfl Try.underlying4
    (ChangeSpec.witness_at (enc := enc) (C := Try.checked) (os := os) (X := fun w _ => laidMetH Try.prog [] w) false (plainWorld os) #[.int .u16 0, .string ⟨#[]⟩, .string ⟨#[]⟩] 8 rfl (by kernel_rfl) (by kernel_rfl) (by kernel_rfl) (by kernel_rfl) (by kernel_rfl) (laidMet_nil _ _)) ?_ ?_
  · intro ds hd
    match ds, hd with
    | [_, _, _], _ => rfl
  intro W base args ds p hval hA
  rw [Try.params5] at hA hval
  obtain ⟨v0, v1, v2, d0, d1, d2, p0, p1, p2, rfl, rfl, rfl, h0, h1, h2⟩ := trodAll_three hA
  obtain ⟨n0, rfl, _, _, w0⟩ := open_int Try.underlying49 (hval 0 49 v0 rfl rfl) h0
  obtain ⟨s1, rfl, rfl, rfl, ws1⟩ := open_string Try.underlying9 (hval 1 9 v1 rfl rfl) h1
  obtain ⟨s2, rfl, rfl, rfl, ws2⟩ := open_string Try.underlying9 (hval 2 9 v2 rfl rfl) h2
  obtain ⟨g0, g1⟩ := wf_u16 w0
  obtain ⟨q, rfl⟩ : ∃ q : Nat, n0 = (q : Int) := ⟨n0.toNat, by omega⟩
  exact full_true newOk appendOk syncOk crashOk lenOk readOk q s1 s2 W (by omega) (small ws1) (small ws2)

theorem blockFull_holds : Rows.BlockFullSaid :=
  OpenClaim.holds_of_wide 5 Try.f5 rfl rfl rfl rfl rfl rfl rfl ⟨rfl, rfl, rfl, rfl, rfl⟩ rfl rfl rfl rfl rfl (by kernel_rfl) Try.func5 (by kernel_rfl)
    (of_decide_eq_true (by kernel_rfl)) (by unfold Func.isWrapper; rw [if_neg (of_decide_eq_false (by kernel_rfl))]; exact ⟨rfl, rfl⟩)
    (fun os started H enc _ => blockFull_lifted os started H enc)

end Go.Proofs.Ytfdldjhndfohhaa
