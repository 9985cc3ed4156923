/-
  StoreMakes' card, proved: for all that it is given StoreMakes returns true and leaves it as it was. The variable errors.errorType is tied to the program's text.
-/
import Derived.Test.YtgbhfhnbmgkaoaaGreatDoorPart01
import Derived.Test.YtgbhfhnbmgkaoaaGreatDoorStoreMakesLaw
import Derived.Test.YtgbhfhnbmgkaoaaGreatDoorPart19
import Derived.Test.YtgbhfhnbmgkaoaaGreatDoorStoreWhole
import Derived.Test.YtgbhfhnbmgkaoaaGreatDoorTie
import Derived.Test.YtgbhfhnbmgkaoaaGreatDoorCards
import Derived.SevenTiedAt
import Derived.ChangeMaps5
namespace Go.Proofs.YtgbhfhnbmgkaoaaGreatDoor
open Go.ChangeShapes Go.WideShapes Go.RowKit Go.ChangeMaps

set_option maxRecDepth 100000 in
theorem storeMakes_lifted (os : Os) (started : os.Started) (H : Type) (enc : TypeId × Value → H) :
    ReturnsInHanded {} Tryz.checked os 3 .any (fun w args => (Rows.storeMakesSpec.pre enc Tryz.prog Tryz.f3 [] false w args ∧ laidMetH Tryz.prog laidList w) ∧ sizedMet enc Tryz.prog Tryz.f3 (OpenSpec.ofChange Rows.storeMakesSpec) false w args)
      (Rows.storeMakesSpec.post enc Tryz.prog Tryz.f3 false true false false) := by
  refine law_lifted (C := Tryz.checked) (L := laidList) (fun _ _ hh h => h.of_heap hh) ownNone started (by kernel_rfl) Tryz.func3 rfl (by kernel_rfl) (by kernel_rfl) rfl Tryz.underlying4
    (ChangeSpec.witness_at (enc := enc) (C := Tryz.checked) (os := os) (X := fun w _ => laidMetH Tryz.prog laidList w) false (laidWorld os) #[.slice none 0 0, .agg #[.int .i64 0, .int .i64 0, .int .i64 0, .int .i64 0, .slice none 0 0, .string ⟨#[]⟩, .string ⟨#[]⟩, .string ⟨#[]⟩, .bool false, .int .i64 0]] 8 rfl (by kernel_rfl) (by kernel_rfl) (by kernel_rfl) (by kernel_rfl) (by kernel_rfl) (laidWorld_met os _)) ?_ ?_
  · intro ds hd
    match ds, hd with
    | [_, _], _ => rfl
  intro W base args ds p hval hA hL
  rw [Tryz.params3] at hA hval
  obtain ⟨v0, v1, d0, d1, p0, p1, rfl, rfl, rfl, h0, h1⟩ := trodAll_two hA
  obtain ⟨xs, pp, cap, rfl, hc, hm, hI⟩ := rows_in16 (hval 0 22 v0 rfl rfl) h0
  obtain ⟨y, rfl, hz, _, _, _, _⟩ := open_write (hval 1 28 v1 rfl rfl) h1
  exact makes_true sto16 store16 of16 pp cap xs y W hI hc hm hz (handle_of_laid hL)

theorem storeMakes_said : Rows.StoreMakesSaid :=
  OpenClaim.holds_of_wide 3 Tryz.f3 rfl rfl rfl rfl rfl rfl rfl ⟨rfl, rfl, rfl, rfl, rfl⟩ rfl rfl rfl rfl rfl (by kernel_rfl) Tryz.func3 (by kernel_rfl)
    (of_decide_eq_true (by kernel_rfl)) (by unfold Func.isWrapper; rw [if_neg (of_decide_eq_false (by kernel_rfl))]; exact ⟨rfl, rfl⟩)
    (fun os started H enc _ => storeMakes_lifted os started H enc)

theorem storeMakes_card_holds : Rows.StoreMakesCardSaid :=
  Claim7.holds_tied_plain_at .later [] [.handle] true (true, "86e28a76068afcd498bbaa53ef2dfc0bbcb0c4e5905f795e51349e866bd876ca") true
    storeMakes_said (fun _ h => by cases h) (by kernel_rfl) (fun _ h => by cases h) storeMakes_row_tie rfl ⟨rfl, rfl⟩ (by kernel_rfl) rfl
    (fun f fn hf hfn => by
      obtain rfl : f = 3 := Option.some.inj ((show Tryz.prog.funcNamed "sojourn/sojournlaw16.StoreMakes" = some 3 by kernel_rfl).symm.trans hf) |>.symm
      obtain rfl : fn = Tryz.f3 := (Option.some.inj (Tryz.func3.symm.trans hfn)).symm
      exact ⟨by kernel_rfl, fun j t ht => no_stand_in (P := Tryz.prog) Tryz.f3.params (by kernel_rfl) j t ht⟩)
    (by kernel_rfl)
end Go.Proofs.YtgbhfhnbmgkaoaaGreatDoor
