/-
  TokenUnlike' card, proved: for all that it is given TokenUnlike returns true and leaves it as it was. The variable that it lists is tied to the program's text.
-/
import Derived.Test.YtajhegjemhegiaaDoorPart04
import Derived.Test.YtajhegjemhegiaaDoorPart05
import Derived.Test.YtajhegjemhegiaaDoorTokenUnlike
import Derived.Test.YtajhegjemhegiaaDoorPart22
import Derived.Test.YtajhegjemhegiaaDoorPart23
import Derived.Test.YtajhegjemhegiaaDoorTokenWhole
import Derived.Test.YtajhegjemhegiaaDoorTie
import Derived.Test.YtajhegjemhegiaaDoorCards
import Derived.SevenTiedAt
import Derived.ChangeMaps5
namespace Go.Proofs.YtajhegjemhegiaaDoor
open Go.ChangeShapes Go.WideShapes Go.RowKit Go.ChangeMaps

set_option maxRecDepth 100000 in
theorem tokenUnlike_lifted (os : Os) (started : os.Started) (H : Type) (enc : TypeId × Value → H) :
    ReturnsInHanded {} Tryd.checked os 7 .any (fun w args => (Rows.tokenUnlikeSpec.pre enc Tryd.prog Tryd.f7 [] false w args ∧ laidMetH Tryd.prog laidList w) ∧ sizedMet enc Tryd.prog Tryd.f7 (OpenSpec.ofChange Rows.tokenUnlikeSpec) false w args)
      (Rows.tokenUnlikeSpec.post enc Tryd.prog Tryd.f7 false true false false) := by
  refine law_lifted (C := Tryd.checked) (L := laidList) (fun _ _ hh h => h.of_heap hh) ownNone started (by kernel_rfl) Tryd.func7 rfl (by kernel_rfl) (by kernel_rfl) rfl Tryd.underlying4
    (ChangeSpec.witness_at (enc := enc) (C := Tryd.checked) (os := os) (X := fun w _ => laidMetH Tryd.prog laidList w) false (laidWorld os) #[.agg #[.string ⟨#[]⟩, .string ⟨#[]⟩, .int .i64 0, .int .i64 0, .int .i64 0, .slice none 0 0], .agg #[.string ⟨#[]⟩, .string ⟨#[]⟩, .int .i64 0, .int .i64 0, .int .i64 0, .slice none 0 0], .int .u16 0] 8 rfl (by kernel_rfl) (by kernel_rfl) (by kernel_rfl) (by kernel_rfl) (by kernel_rfl) (laidWorld_met os _)) ?_ ?_
  · intro ds hd
    match ds, hd with
    | [_, _, _], _ => rfl
  intro W base args ds p hval hA hL
  rw [Tryd.params7] at hA hval
  obtain ⟨v0, v1, v2, d0, d1, d2, p0, p1, p2, rfl, rfl, rfl, h0, h1, h2⟩ := trodAll_three hA
  obtain ⟨x0, rfl, zx0, sx0⟩ := claims_in (hval 0 31 v0 rfl rfl) h0
  obtain ⟨x1, rfl, zx1, sx1⟩ := claims_in (hval 1 31 v1 rfl rfl) h1
  obtain ⟨n2, rfl, _, _, w2⟩ := open_int Tryd.underlying37 (hval 2 37 v2 rfl rfl) h2
  have g2 := wf_u16b w2
  exact unlike_true rnewOk mintOk readTOk x0 x1 n2 W (parts_of_laid hL) zx0 zx1 ⟨sx0, sx0.vec⟩ ⟨sx1, sx1.vec⟩ ⟨g2.1, by omega⟩

theorem tokenUnlike_said : Rows.TokenUnlikeSaid :=
  OpenClaim.holds_of_wide 7 Tryd.f7 rfl rfl rfl rfl rfl rfl rfl ⟨rfl, rfl, rfl, rfl, rfl⟩ rfl rfl rfl rfl rfl (by kernel_rfl) Tryd.func7 (by kernel_rfl)
    (of_decide_eq_true (by kernel_rfl)) (by unfold Func.isWrapper; rw [if_neg (of_decide_eq_false (by kernel_rfl))]; exact ⟨rfl, rfl⟩)
    (fun os started H enc _ => tokenUnlike_lifted os started H enc)

theorem tokenUnlike_card_holds : Rows.TokenUnlikeCardSaid :=
  Claim7.holds_tied_plain_at .later [] [.data] true (true, "699746965d771886f0c832aad98bb593d8f079e0b6b94378cd66cb1867cdaeae") true
    tokenUnlike_said (fun _ h => by cases h) (by kernel_rfl) (fun _ h => by cases h) tokenUnlike_row_tie rfl ⟨rfl, rfl⟩ (by kernel_rfl) rfl
    (fun f fn hf hfn => by
      obtain rfl : f = 7 := Option.some.inj ((show Tryd.prog.funcNamed "sojourn/sojournlaw12.TokenUnlike" = some 7 by kernel_rfl).symm.trans hf) |>.symm
      obtain rfl : fn = Tryd.f7 := (Option.some.inj (Tryd.func7.symm.trans hfn)).symm
      exact ⟨by kernel_rfl, fun j t ht => no_stand_in (P := Tryd.prog) Tryd.f7.params (by kernel_rfl) j t ht⟩)
    (by kernel_rfl)
end Go.Proofs.YtajhegjemhegiaaDoor
