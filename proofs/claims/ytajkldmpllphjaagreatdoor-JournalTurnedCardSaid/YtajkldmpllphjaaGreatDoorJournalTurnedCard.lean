/-
  JournalTurned' card, proved: for all that it is given JournalTurned returns true and leaves it as it was. The variables that it lists are tied to the program's text.
-/
import Derived.Test.YtajkldmpllphjaaGreatDoorPart01
import Derived.Test.YtajkldmpllphjaaGreatDoorJournalRefSeal
import Derived.Test.YtajkldmpllphjaaGreatDoorJournalOpen
import Derived.Test.YtajkldmpllphjaaGreatDoorJournalWhole
import Derived.Test.YtajkldmpllphjaaGreatDoorTie
import Derived.Test.YtajkldmpllphjaaGreatDoorCards
import Derived.SevenTiedAt
import Derived.ChangeMaps5
namespace Go.Proofs.YtajkldmpllphjaaGreatDoor
open Go.ChangeShapes Go.WideShapes Go.RowKit Go.ChangeMaps

set_option maxRecDepth 100000 in
theorem journalTurned_lifted (os : Os) (started : os.Started) (H : Type) (enc : TypeId × Value → H) :
    ReturnsInHanded {} Tryz.checked os 4 .any (fun w args => (Rows.journalTurnedSpec.pre enc Tryz.prog Tryz.f4 [] false w args ∧ laidMetH Tryz.prog laidList w) ∧ sizedMet enc Tryz.prog Tryz.f4 (OpenSpec.ofChange Rows.journalTurnedSpec) false w args)
      (Rows.journalTurnedSpec.post enc Tryz.prog Tryz.f4 false true false false) := by
  refine law_lifted (C := Tryz.checked) (L := laidList) (fun _ _ hh h => h.of_heap hh) ownNone started (by kernel_rfl) Tryz.func4 rfl (by kernel_rfl) (by kernel_rfl) rfl Tryz.underlying4
    (ChangeSpec.witness_at (enc := enc) (C := Tryz.checked) (os := os) (X := fun w _ => laidMetH Tryz.prog laidList w) false (laidWorld os) #[.slice none 0 0, .int .i64 0, .int .u8 0] 8 rfl (by kernel_rfl) (by kernel_rfl) (by kernel_rfl) (by kernel_rfl) (by kernel_rfl) (laidWorld_met os _)) ?_ ?_
  · intro ds hd
    match ds, hd with
    | [_, _, _], _ => rfl
  intro W base args ds p hval hA hL
  rw [Tryz.params4] at hA hval
  obtain ⟨v0, v1, v2, d0, d1, d2, p0, p1, p2, rfl, rfl, rfl, h0, h1, h2⟩ := trodAll_three hA
  obtain ⟨xs, pp, cap, rfl, hl, hI, hC, hN⟩ := open_script (hval 0 22 v0 rfl rfl) h0
  obtain ⟨n1, rfl, _, _, w1⟩ := open_int Tryz.underlying3 (hval 1 3 v1 rfl rfl) h1
  obtain ⟨n2, rfl, _, _, w2⟩ := open_int Tryz.underlying5 (hval 2 5 v2 rfl rfl) h2
  obtain ⟨g0, g1⟩ := wf_u8 w2
  obtain ⟨q, rfl⟩ : ∃ q : Nat, n2 = (q : Int) := ⟨n2.toNat, by omega⟩
  exact turned_true owns newOk crashOk openedOk putOk genOk startOk sizeOk lenOk rotOk refSealOk pp cap xs n1 q W (tables_of_laid hL) (wf_i64 w1) (by omega) hI hC hl

theorem journalTurned_said : Rows.JournalTurnedSaid :=
  OpenClaim.holds_of_wide 4 Tryz.f4 rfl rfl rfl rfl rfl rfl rfl ⟨rfl, rfl, rfl, rfl, rfl⟩ rfl rfl rfl rfl rfl (by kernel_rfl) Tryz.func4 (by kernel_rfl)
    (of_decide_eq_true (by kernel_rfl)) (by unfold Func.isWrapper; rw [if_neg (of_decide_eq_false (by kernel_rfl))]; exact ⟨rfl, rfl⟩)
    (fun os started H enc _ => journalTurned_lifted os started H enc)

theorem journalTurned_card_holds : Rows.JournalTurnedCardSaid :=
  Claim7.holds_tied_plain_at .later [] [.data, .data] true (true, "766910571e5166be96cdd502deb28da3306f3931758fa93fb544adb409aa8f2b") true
    journalTurned_said (fun _ h => by cases h) (by kernel_rfl) (fun _ h => by cases h) journalTurned_row_tie rfl ⟨rfl, rfl⟩ (by kernel_rfl) rfl
    (fun f fn hf hfn => by
      obtain rfl : f = 4 := Option.some.inj ((show Tryz.prog.funcNamed "sojourn/sojournlaw10.JournalTurned" = some 4 by kernel_rfl).symm.trans hf) |>.symm
      obtain rfl : fn = Tryz.f4 := (Option.some.inj (Tryz.func4.symm.trans hfn)).symm
      exact ⟨by kernel_rfl, fun j t ht => no_stand_in (P := Tryz.prog) Tryz.f4.params (by kernel_rfl) j t ht⟩)
    (by kernel_rfl)
end Go.Proofs.YtajkldmpllphjaaGreatDoor
