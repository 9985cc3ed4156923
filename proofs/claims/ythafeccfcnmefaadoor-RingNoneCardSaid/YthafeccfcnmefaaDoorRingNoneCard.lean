/-
  RingNone' card, proved: for all that it is given RingNone returns true and leaves it as it was. The variable that it lists is tied to the program's text.
-/
import Derived.Test.YthafeccfcnmefaaDoorMacLaid
import Derived.Test.YthafeccfcnmefaaDoorLawRow
import Derived.Test.YthafeccfcnmefaaDoorRingNone
import Derived.Test.YthafeccfcnmefaaDoorRowBase
import Derived.Test.YthafeccfcnmefaaDoorRingWhole
import Derived.Test.YthafeccfcnmefaaDoorTie
import Derived.Test.YthafeccfcnmefaaDoorCards
import Derived.SevenTiedAt
import Derived.ChangeMaps5
namespace Go.Proofs.YthafeccfcnmefaaDoor
open Go.ChangeShapes Go.WideShapes Go.RowKit Go.ChangeMaps

set_option maxRecDepth 100000 in
theorem ringNone_lifted (os : Os) (started : os.Started) (H : Type) (enc : TypeId × Value → H) :
    ReturnsInHanded {} Tryd.checked os 5 .any (fun w args => (Rows.ringNoneSpec.pre enc Tryd.prog Tryd.f5 [] false w args ∧ laidMetH Tryd.prog laidList w) ∧ sizedMet enc Tryd.prog Tryd.f5 (OpenSpec.ofChange Rows.ringNoneSpec) false w args)
      (Rows.ringNoneSpec.post enc Tryd.prog Tryd.f5 false true false false) := by
  refine law_lifted (C := Tryd.checked) (L := laidList) (fun _ _ hh h => h.of_heap hh) ownNone started (by kernel_rfl) Tryd.func5 rfl (by kernel_rfl) (by kernel_rfl) rfl Tryd.underlying4
    (ChangeSpec.witness_at (enc := enc) (C := Tryd.checked) (os := os) (X := fun w _ => laidMetH Tryd.prog laidList w) false (laidWorld os) #[.int .i64 0] 8 rfl (by kernel_rfl) (by kernel_rfl) (by kernel_rfl) (by kernel_rfl) (by kernel_rfl) (laidWorld_met os _)) ?_ ?_
  · intro ds hd
    match ds, hd with
    | [_], _ => rfl
  intro W base args ds p hval hA hL
  rw [Tryd.params5] at hA hval
  obtain ⟨v0, d0, rfl, rfl, h0⟩ := trodAll_one hA
  obtain ⟨n0, rfl, _, _, w0⟩ := open_int Tryd.underlying3 (hval 0 3 v0 rfl rfl) h0
  exact none_true rnewOk keyOk aliveOk rnoneOk n0 W (parts_of_laid hL) (wf_i64 w0)

theorem ringNone_said : Rows.RingNoneSaid :=
  OpenClaim.holds_of_wide 5 Tryd.f5 rfl rfl rfl rfl rfl rfl rfl ⟨rfl, rfl, rfl, rfl, rfl⟩ rfl rfl rfl rfl rfl (by kernel_rfl) Tryd.func5 (by kernel_rfl)
    (of_decide_eq_true (by kernel_rfl)) (by unfold Func.isWrapper; rw [if_neg (of_decide_eq_false (by kernel_rfl))]; exact ⟨rfl, rfl⟩)
    (fun os started H enc _ => ringNone_lifted os started H enc)

theorem ringNone_card_holds : Rows.RingNoneCardSaid :=
  Claim7.holds_tied_plain_at .later [] [.data] true (true, "8ff6f8d8aa4885c73b7ff8362babd616e18f6f96c151418fc101a3a56924f0ec") true
    ringNone_said (fun _ h => by cases h) (by kernel_rfl) (fun _ h => by cases h) ringNone_row_tie rfl ⟨rfl, rfl⟩ (by kernel_rfl) rfl
    (fun f fn hf hfn => by
      obtain rfl : f = 5 := Option.some.inj ((show Tryd.prog.funcNamed "sojourn/sojournlaw11.RingNone" = some 5 by kernel_rfl).symm.trans hf) |>.symm
      obtain rfl : fn = Tryd.f5 := (Option.some.inj (Tryd.func5.symm.trans hfn)).symm
      exact ⟨by kernel_rfl, fun j t ht => no_stand_in (P := Tryd.prog) Tryd.f5.params (by kernel_rfl) j t ht⟩)
    (by kernel_rfl)
end Go.Proofs.YthafeccfcnmefaaDoor
