/-
  RingRetires' card, proved: for all that it is given RingRetires returns true and leaves it as it was. The variable that it lists is tied to the program's text.
-/
import Derived.Test.YthafeccfcnmefaaDoorMacLaid
import Derived.Test.YthafeccfcnmefaaDoorLawRow
import Derived.Test.YthafeccfcnmefaaDoorRingOpen
import Derived.Test.YthafeccfcnmefaaDoorRingWhole
import Derived.Test.YthafeccfcnmefaaDoorTie
import Derived.Test.YthafeccfcnmefaaDoorCards
import Derived.SevenTiedAt
import Derived.ChangeMaps5
namespace Go.Proofs.YthafeccfcnmefaaDoor
open Go.ChangeShapes Go.WideShapes Go.RowKit Go.ChangeMaps

set_option maxRecDepth 100000 in
theorem ringRetires_lifted (os : Os) (started : os.Started) (H : Type) (enc : TypeId × Value → H) :
    ReturnsInHanded {} Tryd.checked os 4 .any (fun w args => (Rows.ringRetiresSpec.pre enc Tryd.prog Tryd.f4 [] false w args ∧ laidMetH Tryd.prog laidList w) ∧ sizedMet enc Tryd.prog Tryd.f4 (OpenSpec.ofChange Rows.ringRetiresSpec) false w args)
      (Rows.ringRetiresSpec.post enc Tryd.prog Tryd.f4 false true false false) := by
  refine law_lifted (C := Tryd.checked) (L := laidList) (fun _ _ hh h => h.of_heap hh) ownNone started (by kernel_rfl) Tryd.func4 rfl (by kernel_rfl) (by kernel_rfl) rfl Tryd.underlying4
    (ChangeSpec.witness_at (enc := enc) (C := Tryd.checked) (os := os) (X := fun w _ => laidMetH Tryd.prog laidList w) false (laidWorld os) #[.int .i64 0, .int .i64 0, .slice none 0 0] 8 rfl (by kernel_rfl) (by kernel_rfl) (by kernel_rfl) (by kernel_rfl) (by kernel_rfl) (laidWorld_met os _)) ?_ ?_
  · intro ds hd
    match ds, hd with
    | [_, _, _], _ => rfl
  intro W base args ds p hval hA hL
  rw [Tryd.params4] at hA hval
  obtain ⟨v0, v1, v2, d0, d1, d2, p0, p1, p2, rfl, rfl, rfl, h0, h1, h2⟩ := trodAll_three hA
  obtain ⟨n0, rfl, _, _, w0⟩ := open_int Tryd.underlying3 (hval 0 3 v0 rfl rfl) h0
  obtain ⟨n1, rfl, _, _, w1⟩ := open_int Tryd.underlying3 (hval 1 3 v1 rfl rfl) h1
  obtain ⟨zs, pp, cap, rfl, hl, hI⟩ := ints_in (hval 2 40 v2 rfl rfl) h2
  exact retires_true rnewOk keyOk aliveOk currentOk raiseOk n0 n1 pp cap zs W (parts_of_laid hL) (wf_i64 w0) (wf_i64 w1) hI (small_len hl)

theorem ringRetires_said : Rows.RingRetiresSaid :=
  OpenClaim.holds_of_wide 4 Tryd.f4 rfl rfl rfl rfl rfl rfl rfl ⟨rfl, rfl, rfl, rfl, rfl⟩ rfl rfl rfl rfl rfl (by kernel_rfl) Tryd.func4 (by kernel_rfl)
    (of_decide_eq_true (by kernel_rfl)) (by unfold Func.isWrapper; rw [if_neg (of_decide_eq_false (by kernel_rfl))]; exact ⟨rfl, rfl⟩)
    (fun os started H enc _ => ringRetires_lifted os started H enc)

theorem ringRetires_card_holds : Rows.RingRetiresCardSaid :=
  Claim7.holds_tied_plain_at .later [] [.data] true (true, "8ff6f8d8aa4885c73b7ff8362babd616e18f6f96c151418fc101a3a56924f0ec") true
    ringRetires_said (fun _ h => by cases h) (by kernel_rfl) (fun _ h => by cases h) ringRetires_row_tie rfl ⟨rfl, rfl⟩ (by kernel_rfl) rfl
    (fun f fn hf hfn => by
      obtain rfl : f = 4 := Option.some.inj ((show Tryd.prog.funcNamed "sojourn/sojournlaw11.RingRetires" = some 4 by kernel_rfl).symm.trans hf) |>.symm
      obtain rfl : fn = Tryd.f4 := (Option.some.inj (Tryd.func4.symm.trans hfn)).symm
      exact ⟨by kernel_rfl, fun j t ht => no_stand_in (P := Tryd.prog) Tryd.f4.params (by kernel_rfl) j t ht⟩)
    (by kernel_rfl)
end Go.Proofs.YthafeccfcnmefaaDoor
