/-
  FrameLost' card, proved: for all that it is given FrameLost returns true and leaves it as it was. The variables that it lists are tied to the program's text.
-/
import Derived.Test.YtjijlfohlmhlkaaDoorFrameLaid
import Derived.Test.YtjijlfohlmhlkaaDoorLawRow
import Derived.Test.YtjijlfohlmhlkaaDoorFrameLost
import Derived.Test.YtjijlfohlmhlkaaDoorFrameOpen
import Derived.Test.YtjijlfohlmhlkaaDoorFrameWhole
import Derived.Test.YtjijlfohlmhlkaaDoorTie
import Derived.Test.YtjijlfohlmhlkaaDoorCards
import Derived.SevenTiedAt
import Derived.ChangeMaps5
namespace Go.Proofs.YtjijlfohlmhlkaaDoor
open Go.ChangeShapes Go.WideShapes Go.RowKit Go.ChangeMaps

set_option maxRecDepth 100000 in
theorem frameLost_lifted (os : Os) (started : os.Started) (H : Type) (enc : TypeId × Value → H) :
    ReturnsInHanded {} Tryd.checked os 6 .any (fun w args => (Rows.frameLostSpec.pre enc Tryd.prog Tryd.f6 [] false w args ∧ laidMetH Tryd.prog laidList w) ∧ sizedMet enc Tryd.prog Tryd.f6 (OpenSpec.ofChange Rows.frameLostSpec) false w args)
      (Rows.frameLostSpec.post enc Tryd.prog Tryd.f6 false true false false) := by
  refine law_lifted (C := Tryd.checked) (L := laidList) (fun _ _ hh h => h.of_heap hh) ownNone started (by kernel_rfl) Tryd.func6 rfl (by kernel_rfl) (by kernel_rfl) rfl Tryd.underlying4
    (ChangeSpec.witness_at (enc := enc) (C := Tryd.checked) (os := os) (X := fun w _ => laidMetH Tryd.prog laidList w) false (laidWorld os) #[.string ⟨#[]⟩, .string ⟨#[]⟩, .string ⟨#[]⟩] 8 rfl (by kernel_rfl) (by kernel_rfl) (by kernel_rfl) (by kernel_rfl) (by kernel_rfl) (laidWorld_met os _)) ?_ ?_
  · intro ds hd
    match ds, hd with
    | [_, _, _], _ => rfl
  intro W base args ds p hval hA hL
  rw [Tryd.params6] at hA hval
  obtain ⟨v0, v1, v2, d0, d1, d2, p0, p1, p2, rfl, rfl, rfl, h0, h1, h2⟩ := trodAll_three hA
  obtain ⟨s0, rfl, rfl, rfl, ws0⟩ := open_string Tryd.underlying9 (hval 0 9 v0 rfl rfl) h0
  obtain ⟨s1, rfl, rfl, rfl, ws1⟩ := open_string Tryd.underlying9 (hval 1 9 v1 rfl rfl) h1
  obtain ⟨s2, rfl, rfl, rfl, ws2⟩ := open_string Tryd.underlying9 (hval 2 9 v2 rfl rfl) h2
  exact lost_true sealOk openOk s0 s1 s2 W (tables_of_laid hL) (small ws0) (small ws1) (small ws2)

theorem frameLost_said : Rows.FrameLostSaid :=
  OpenClaim.holds_of_wide 6 Tryd.f6 rfl rfl rfl rfl rfl rfl rfl ⟨rfl, rfl, rfl, rfl, rfl⟩ rfl rfl rfl rfl rfl (by kernel_rfl) Tryd.func6 (by kernel_rfl)
    (of_decide_eq_true (by kernel_rfl)) (by unfold Func.isWrapper; rw [if_neg (of_decide_eq_false (by kernel_rfl))]; exact ⟨rfl, rfl⟩)
    (fun os started H enc _ => frameLost_lifted os started H enc)

theorem frameLost_card_holds : Rows.FrameLostCardSaid :=
  Claim7.holds_tied_plain_at .later [] [.data, .data] true (true, "96247971d7b8752593417dcdf9fb640e6ec8746cd76b1e18ed17d320374f21a7") true
    frameLost_said (fun _ h => by cases h) (by kernel_rfl) (fun _ h => by cases h) frameLost_row_tie rfl ⟨rfl, rfl⟩ (by kernel_rfl) rfl
    (fun f fn hf hfn => by
      obtain rfl : f = 6 := Option.some.inj ((show Tryd.prog.funcNamed "sojourn/sojournlaw09.FrameLost" = some 6 by kernel_rfl).symm.trans hf) |>.symm
      obtain rfl : fn = Tryd.f6 := (Option.some.inj (Tryd.func6.symm.trans hfn)).symm
      exact ⟨by kernel_rfl, fun j t ht => no_stand_in (P := Tryd.prog) Tryd.f6.params (by kernel_rfl) j t ht⟩)
    (by kernel_rfl)
end Go.Proofs.YtjijlfohlmhlkaaDoor
