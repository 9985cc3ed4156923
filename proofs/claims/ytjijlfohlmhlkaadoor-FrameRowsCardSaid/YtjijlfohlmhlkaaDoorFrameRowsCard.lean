/-
  FrameRows' card, proved: for all that it is given FrameRows returns true and leaves it as it was. The variables that it lists are tied to the program's text.
-/
import Derived.Test.YtjijlfohlmhlkaaDoorFrameLaid
import Derived.Test.YtjijlfohlmhlkaaDoorLawRow
import Derived.Test.YtjijlfohlmhlkaaDoorFrameRows
import Derived.Test.YtjijlfohlmhlkaaDoorFrameOpen
import Derived.Test.YtjijlfohlmhlkaaDoorFrameWhole
import Derived.Test.YtjijlfohlmhlkaaDoorTie
import Derived.Test.YtjijlfohlmhlkaaDoorCards
import Derived.SevenTiedAt
import Derived.ChangeMaps5
namespace Go.Proofs.YtjijlfohlmhlkaaDoor
open Go.ChangeShapes Go.WideShapes Go.RowKit Go.ChangeMaps

set_option maxRecDepth 100000 in
theorem frameRows_lifted (os : Os) (started : os.Started) (H : Type) (enc : TypeId × Value → H) :
    ReturnsInHanded {} Tryd.checked os 8 .any (fun w args => (Rows.frameRowsSpec.pre enc Tryd.prog Tryd.f8 [] false w args ∧ laidMetH Tryd.prog laidList3 w) ∧ sizedMet enc Tryd.prog Tryd.f8 (OpenSpec.ofChange Rows.frameRowsSpec) false w args)
      (Rows.frameRowsSpec.post enc Tryd.prog Tryd.f8 false true false false) := by
  refine law_lifted (C := Tryd.checked) (L := laidList3) (fun _ _ hh h => h.of_heap hh) ownNone started (by kernel_rfl) Tryd.func8 rfl (by kernel_rfl) (by kernel_rfl) rfl Tryd.underlying4
    (ChangeSpec.witness_at (enc := enc) (C := Tryd.checked) (os := os) (X := fun w _ => laidMetH Tryd.prog laidList3 w) false (laidWorld3 os) #[.slice none 0 0] 8 rfl (by kernel_rfl) (by kernel_rfl) (by kernel_rfl) (by kernel_rfl) (by kernel_rfl) (laidWorld3_met os _)) ?_ ?_
  · intro ds hd
    match ds, hd with
    | [_], _ => rfl
  intro W base args ds p hval hA hL
  rw [Tryd.params8] at hA hval
  obtain ⟨v0, d0, rfl, rfl, h0⟩ := trodAll_one hA
  obtain ⟨xs, pp, cap, rfl, hc, hl, hI, hs⟩ := open_texts (hval 0 40 v0 rfl rfl) h0
  exact rows_true sealOk openOk findOk pp cap xs W (tables_of_laid3 hL) (handle_of_laid3 hL) hI hl hs

theorem frameRows_said : Rows.FrameRowsSaid :=
  OpenClaim.holds_of_wide 8 Tryd.f8 rfl rfl rfl rfl rfl rfl rfl ⟨rfl, rfl, rfl, rfl, rfl⟩ rfl rfl rfl rfl rfl (by kernel_rfl) Tryd.func8 (by kernel_rfl)
    (of_decide_eq_true (by kernel_rfl)) (by unfold Func.isWrapper; rw [if_neg (of_decide_eq_false (by kernel_rfl))]; exact ⟨rfl, rfl⟩)
    (fun os started H enc _ => frameRows_lifted os started H enc)

theorem frameRows_card_holds : Rows.FrameRowsCardSaid :=
  Claim7.holds_tied_plain_at .later [] [.data, .data, .handle] true (true, "96247971d7b8752593417dcdf9fb640e6ec8746cd76b1e18ed17d320374f21a7") true
    frameRows_said (fun _ h => by cases h) (by kernel_rfl) (fun _ h => by cases h) frameRows_row_tie rfl ⟨rfl, rfl⟩ (by kernel_rfl) rfl
    (fun f fn hf hfn => by
      obtain rfl : f = 8 := Option.some.inj ((show Tryd.prog.funcNamed "sojourn/sojournlaw09.FrameRows" = some 8 by kernel_rfl).symm.trans hf) |>.symm
      obtain rfl : fn = Tryd.f8 := (Option.some.inj (Tryd.func8.symm.trans hfn)).symm
      exact ⟨by kernel_rfl, fun j t ht => no_stand_in (P := Tryd.prog) Tryd.f8.params (by kernel_rfl) j t ht⟩)
    (by kernel_rfl)
end Go.Proofs.YtjijlfohlmhlkaaDoor
