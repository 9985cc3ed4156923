/-
  BlockFuses: of any texts, fuse and text it returns true and leaves them as they were. No conditions.
-/
import Derived.Test.YtfdldjhndfohhaaRowBase
import Derived.Test.YtfdldjhndfohhaaBlockFuses
import Derived.Test.YtfdldjhndfohhaaBlockOpen2
import Derived.Test.YtfdldjhndfohhaaBlockProg
namespace Go.Proofs.Ytfdldjhndfohhaa
open Go.ChangeShapes Go.WideShapes Go.RowKit Go.ChangeMaps BlockMath

set_option maxRecDepth 100000 in
theorem blockFuses_lifted (os : Os) (started : os.Started) (H : Type) (enc : TypeId × Value → H) :
    ReturnsInHanded {} Try.checked os 4 .any (fun w args => Rows.blockFusesSpec.pre enc Try.prog Try.f4 [] false w args ∧ sizedMet enc Try.prog Try.f4 (OpenSpec.ofChange Rows.blockFusesSpec) false w args)
      (Rows.blockFusesSpec.post enc Try.prog Try.f4 false true false false) := by
  refine law_lifted_plain (C := Try.checked) ownNone started (by kernel_rfl) Try.func4 rfl (by kernel_rfl) (by kernel_rfl) rfl Try.underlying4
    (ChangeSpec.witness_at (enc := enc) (C := Try.checked) (os := os) (X := fun w _ => laidMetH Try.prog [] w) false (plainWorld os) #[.slice none 0 0, .int .u8 0, .string ⟨#[]⟩] 8 rfl (by kernel_rfl) (by kernel_rfl) (by kernel_rfl) (by kernel_rfl) (by kernel_rfl) (laidMet_nil _ _)) ?_ ?_
  · intro ds hd
    match ds, hd with
    | [_, _, _], _ => rfl
  intro W base args ds p hval hA
  rw [Try.params4] at hA hval
  obtain ⟨v0, v1, v2, d0, d1, d2, p0, p1, p2, rfl, rfl, rfl, h0, h1, h2⟩ := trodAll_three hA
  obtain ⟨xs, pp, cap, rfl, hc, hl, hI, hs⟩ := open_texts (hval 0 43 v0 rfl rfl) h0
  obtain ⟨n1, rfl, _, _, w1⟩ := open_int Try.underlying5 (hval 1 5 v1 rfl rfl) h1
  obtain ⟨s2, rfl, rfl, rfl, ws2⟩ := open_string Try.underlying9 (hval 2 9 v2 rfl rfl) h2
  obtain ⟨g0, g1⟩ := wf_u8 w1
  obtain ⟨q, rfl⟩ : ∃ q : Nat, n1 = (q : Int) := ⟨n1.toNat, by omega⟩
  exact fuses_true newOk appendOk syncOk crashOk lenOk readOk fuseOk downOk cutOk rotOk pp cap xs q s2 W (by omega) (small ws2) hI hl hc hs

theorem blockFuses_holds : Rows.BlockFusesSaid :=
  OpenClaim.holds_of_wide 4 Try.f4 rfl rfl rfl rfl rfl rfl rfl ⟨rfl, rfl, rfl, rfl, rfl⟩ rfl rfl rfl rfl rfl (by kernel_rfl) Try.func4 (by kernel_rfl)
    (of_decide_eq_true (by kernel_rfl)) (by unfold Func.isWrapper; rw [if_neg (of_decide_eq_false (by kernel_rfl))]; exact ⟨rfl, rfl⟩)
    (fun os started H enc _ => blockFuses_lifted os started H enc)

end Go.Proofs.Ytfdldjhndfohhaa
