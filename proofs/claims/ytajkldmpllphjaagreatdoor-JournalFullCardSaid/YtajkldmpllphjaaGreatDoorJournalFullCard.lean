/-
  JournalFull' card, proved: for all that it is given JournalFull returns true and leaves it as it was. The variables that it lists are tied to the program's text.
-/
import Derived.Test.YtajkldmpllphjaaGreatDoorPart01
import Derived.Test.YtajkldmpllphjaaGreatDoorJournalFull
import Derived.Test.YtajkldmpllphjaaGreatDoorJournalOpen
import Derived.Test.YtajkldmpllphjaaGreatDoorJournalWhole
import Derived.Test.YtajkldmpllphjaaGreatDoorTie
import Derived.Test.YtajkldmpllphjaaGreatDoorCards
import Derived.SevenTiedAt
import Derived.ChangeMaps5
namespace Go.Proofs.YtajkldmpllphjaaGreatDoor
open Go.ChangeShapes Go.WideShapes Go.RowKit Go.ChangeMaps

set_option maxRecDepth 100000 in
theorem journalFull_lifted (os : Os) (started : os.Started) (H : Type) (enc : TypeId × Value → H) :
    ReturnsInHanded {} Tryz.checked os 5 .any (fun w args => (Rows.journalFullSpec.pre enc Tryz.prog Tryz.f5 [] false w args ∧ laidMetH Tryz.prog laidList w) ∧ sizedMet enc Tryz.prog Tryz.f5 (OpenSpec.ofChange Rows.journalFullSpec) false w args)
      (Rows.journalFullSpec.post enc Tryz.prog Tryz.f5 false true false false) := by
  refine law_lifted (C := Tryz.checked) (L := laidList) (fun _ _ hh h => h.of_heap hh) ownNone started (by kernel_rfl) Tryz.func5 rfl (by kernel_rfl) (by kernel_rfl) rfl Tryz.underlying4
    (ChangeSpec.witness_at (enc := enc) (C := Tryz.checked) (os := os) (X := fun w _ => laidMetH Tryz.prog laidList w) false (laidWorld os) #[.int .u16 0, .slice none 0 0] 8 rfl (by kernel_rfl) (by kernel_rfl) (by kernel_rfl) (by kernel_rfl) (by kernel_rfl) (laidWorld_met os _)) ?_ ?_
  · intro ds hd
    match ds, hd with
    | [_, _], _ => rfl
  intro W base args ds p hval hA hL
  rw [Tryz.params5] at hA hval
  obtain ⟨v0, v1, d0, d1, p0, p1, rfl, rfl, rfl, h0, h1⟩ := trodAll_two hA
  obtain ⟨n0, rfl, _, _, w0⟩ := open_int Tryz.underlying54 (hval 0 54 v0 rfl rfl) h0
  obtain ⟨g0, g1⟩ := wf_ten16 w0
  obtain ⟨q, rfl⟩ : ∃ q : Nat, n0 = (q : Int) := ⟨n0.toNat, by omega⟩
  obtain ⟨xs, pp, cap, rfl, hl, hI, hC, hN⟩ := open_script (hval 1 22 v1 rfl rfl) h1
  exact full_true owns newOk crashOk openedOk putOk genOk startOk sizeOk q pp cap xs W (tables_of_laid hL) (by omega) hI hC hN hl

theorem journalFull_said : Rows.JournalFullSaid :=
  OpenClaim.holds_of_wide 5 Tryz.f5 rfl rfl rfl rfl rfl rfl rfl ⟨rfl, rfl, rfl, rfl, rfl⟩ rfl rfl rfl rfl rfl (by kernel_rfl) Tryz.func5 (by kernel_rfl)
    (of_decide_eq_true (by kernel_rfl)) (by unfold Func.isWrapper; rw [if_neg (of_decide_eq_false (by kernel_rfl))]; exact ⟨rfl, rfl⟩)
    (fun os started H enc _ => journalFull_lifted os started H enc)

theorem journalFull_card_holds : Rows.JournalFullCardSaid :=
  Claim7.holds_tied_plain_at .later [] [.data, .data] true (true, "766910571e5166be96cdd502deb28da3306f3931758fa93fb544adb409aa8f2b") true
    journalFull_said (fun _ h => by cases h) (by kernel_rfl) (fun _ h => by cases h) journalFull_row_tie rfl ⟨rfl, rfl⟩ (by kernel_rfl) rfl
    (fun f fn hf hfn => by
      obtain rfl : f = 5 := Option.some.inj ((show Tryz.prog.funcNamed "sojourn/sojournlaw10.JournalFull" = some 5 by kernel_rfl).symm.trans hf) |>.symm
      obtain rfl : fn = Tryz.f5 := (Option.some.inj (Tryz.func5.symm.trans hfn)).symm
      exact ⟨by kernel_rfl, fun j t ht => no_stand_in (P := Tryz.prog) Tryz.f5.params (by kernel_rfl) j t ht⟩)
    (by kernel_rfl)
end Go.Proofs.YtajkldmpllphjaaGreatDoor
