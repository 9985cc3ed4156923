/-
  TokenMints' card, proved: for all that it is given TokenMints returns true and leaves it as it was. The variable that it lists is tied to the program's text.
-/
import Derived.Test.YtajhegjemhegiaaGreatDoorPart04
import Derived.Test.YtajhegjemhegiaaGreatDoorPart05
import Derived.Test.YtajhegjemhegiaaGreatDoorTokenMints
import Derived.Test.YtajhegjemhegiaaGreatDoorPart28
import Derived.Test.YtajhegjemhegiaaGreatDoorPart29
import Derived.Test.YtajhegjemhegiaaGreatDoorPart34
import Derived.Test.YtajhegjemhegiaaGreatDoorTie
import Derived.Test.YtajhegjemhegiaaGreatDoorCards
import Derived.SevenTiedAt
import Derived.ChangeMaps5
namespace Go.Proofs.YtajhegjemhegiaaGreatDoor
open Go.ChangeShapes Go.WideShapes Go.RowKit Go.ChangeMaps

set_option maxRecDepth 100000 in
theorem tokenMints_lifted (os : Os) (started : os.Started) (H : Type) (enc : TypeId × Value → H) :
    ReturnsInHanded {} Tryz.checked os 3 .any (fun w args => (Rows.tokenMintsSpec.pre enc Tryz.prog Tryz.f3 [] false w args ∧ laidMetH Tryz.prog laidList w) ∧ sizedMet enc Tryz.prog Tryz.f3 (OpenSpec.ofChange Rows.tokenMintsSpec) false w args)
      (Rows.tokenMintsSpec.post enc Tryz.prog Tryz.f3 false true false false) := by
  refine law_lifted (C := Tryz.checked) (L := laidList) (fun _ _ hh h => h.of_heap hh) ownNone started (by kernel_rfl) Tryz.func3 rfl (by kernel_rfl) (by kernel_rfl) rfl Tryz.underlying4
    (ChangeSpec.witness_at (enc := enc) (C := Tryz.checked) (os := os) (X := fun w _ => laidMetH Tryz.prog laidList w) false (laidWorld os) #[.int .i64 0, .agg #[.string ⟨#[]⟩, .string ⟨#[]⟩, .int .i64 0, .int .i64 0, .int .i64 0, .slice none 0 0]] 8 rfl (by kernel_rfl) (by kernel_rfl) (by kernel_rfl) (by kernel_rfl) (by kernel_rfl) (laidWorld_met os _)) ?_ ?_
  · intro ds hd
    match ds, hd with
    | [_, _], _ => rfl
  intro W base args ds p hval hA hL
  rw [Tryz.params3] at hA hval
  obtain ⟨v0, v1, d0, d1, p0, p1, rfl, rfl, rfl, h0, h1⟩ := trodAll_two hA
  obtain ⟨n0, rfl, _, _, w0⟩ := open_int Tryz.underlying3 (hval 0 3 v0 rfl rfl) h0
  obtain ⟨x1, rfl, zx1, sx1⟩ := claims_in (hval 1 25 v1 rfl rfl) h1
  exact mints_true rnewOk mintOk readTOk tnoneOk x1 n0 W (parts_of_laid hL) zx1 ⟨sx1, sx1.vec⟩ (wf_i64 w0)

theorem tokenMints_said : Rows.TokenMintsSaid :=
  OpenClaim.holds_of_wide 3 Tryz.f3 rfl rfl rfl rfl rfl rfl rfl ⟨rfl, rfl, rfl, rfl, rfl⟩ rfl rfl rfl rfl rfl (by kernel_rfl) Tryz.func3 (by kernel_rfl)
    (of_decide_eq_true (by kernel_rfl)) (by unfold Func.isWrapper; rw [if_neg (of_decide_eq_false (by kernel_rfl))]; exact ⟨rfl, rfl⟩)
    (fun os started H enc _ => tokenMints_lifted os started H enc)

theorem tokenMints_card_holds : Rows.TokenMintsCardSaid :=
  Claim7.holds_tied_plain_at .later [] [.data] true (true, "d39c9e3ad784b7b7750e96754dc5447adbd1c63e9a2a7ff932c33533eb8cb5b1") true
    tokenMints_said (fun _ h => by cases h) (by kernel_rfl) (fun _ h => by cases h) tokenMints_row_tie rfl ⟨rfl, rfl⟩ (by kernel_rfl) rfl
    (fun f fn hf hfn => by
      obtain rfl : f = 3 := Option.some.inj ((show Tryz.prog.funcNamed "sojourn/sojournlaw12.TokenMints" = some 3 by kernel_rfl).symm.trans hf) |>.symm
      obtain rfl : fn = Tryz.f3 := (Option.some.inj (Tryz.func3.symm.trans hfn)).symm
      exact ⟨by kernel_rfl, fun j t ht => no_stand_in (P := Tryz.prog) Tryz.f3.params (by kernel_rfl) j t ht⟩)
    (by kernel_rfl)
end Go.Proofs.YtajhegjemhegiaaGreatDoor
