/-
  BlockPlays' card, proved: for any room and script BlockPlays returns true and leaves them as they were. The variable errors.errorType is tied to the program's text.
-/
import Derived.Test.YtfdldjhndfohhaaDoorLaid
import Derived.Test.YtfdldjhndfohhaaDoorLawRow
import Derived.Test.YtfdldjhndfohhaaDoorBlockPlays
import Derived.Test.YtfdldjhndfohhaaDoorBlockOpen
import Derived.Test.YtfdldjhndfohhaaDoorBlockProg
import Derived.Test.YtfdldjhndfohhaaDoorTie
import Derived.Test.YtfdldjhndfohhaaDoorCards
import Derived.SevenTiedAt
import Derived.ChangeMaps5
namespace Go.Proofs.YtfdldjhndfohhaaDoor
open Go.ChangeShapes Go.WideShapes Go.RowKit Go.ChangeMaps BlockMath

set_option maxRecDepth 100000 in
theorem blockPlays_lifted (os : Os) (started : os.Started) (H : Type) (enc : TypeId × Value → H) :
    ReturnsInHanded {} Tryd.checked os 3 .any (fun w args => (Rows.blockPlaysSpec.pre enc Tryd.prog Tryd.f3 [] false w args ∧ laidMetH Tryd.prog laidList w) ∧ sizedMet enc Tryd.prog Tryd.f3 (OpenSpec.ofChange Rows.blockPlaysSpec) false w args)
      (Rows.blockPlaysSpec.post enc Tryd.prog Tryd.f3 false true false false) := by
  refine law_lifted (C := Tryd.checked) (L := laidList) (fun _ _ hh h => h.of_heap hh) ownNone started (by kernel_rfl) Tryd.func3 rfl (by kernel_rfl) (by kernel_rfl) rfl Tryd.underlying4
    (ChangeSpec.witness_at (enc := enc) (C := Tryd.checked) (os := os) (X := fun w _ => laidMetH Tryd.prog laidList w) false (laidWorld os) #[.int .i64 0, .slice none 0 0] 8 rfl (by kernel_rfl) (by kernel_rfl) (by kernel_rfl) (by kernel_rfl) (by kernel_rfl) (laidWorld_met os _)) ?_ ?_
  · intro ds hd
    match ds, hd with
    | [_, _], _ => rfl
  intro W base args ds p hval hA hL
  rw [Tryd.params3] at hA hval
  obtain ⟨v0, v1, d0, d1, p0, p1, rfl, rfl, rfl, h0, h1⟩ := trodAll_two hA
  obtain ⟨n0, rfl, _, _, w0⟩ := open_int Tryd.underlying3 (hval 0 3 v0 rfl rfl) h0
  obtain ⟨xs, pp, cap, rfl, hc, hl, hI, hs⟩ := open_ops (hval 1 22 v1 rfl rfl) h1
  exact plays_true newOk appendOk syncOk crashOk lenOk readOk cutOk roomOk fuseOk rotOk safeOk downOk pp cap xs n0 W (wf_i64 w0) hI hs (handle_of_laid hL)

theorem blockPlays_said : Rows.BlockPlaysSaid :=
  OpenClaim.holds_of_wide 3 Tryd.f3 rfl rfl rfl rfl rfl rfl rfl ⟨rfl, rfl, rfl, rfl, rfl⟩ rfl rfl rfl rfl rfl (by kernel_rfl) Tryd.func3 (by kernel_rfl)
    (of_decide_eq_true (by kernel_rfl)) (by unfold Func.isWrapper; rw [if_neg (of_decide_eq_false (by kernel_rfl))]; exact ⟨rfl, rfl⟩)
    (fun os started H enc _ => blockPlays_lifted os started H enc)

theorem blockPlays_card_holds : Rows.BlockPlaysCardSaid :=
  Claim7.holds_tied_plain_at .later [] [.handle] true (true, "64e5ae654f766aac03c1c2274daa302d1778a63b31ad9c699d45e6538002e298") true
    blockPlays_said (fun _ h => by cases h) (by kernel_rfl) (fun _ h => by cases h) blockPlays_row_tie rfl ⟨rfl, rfl⟩ (by kernel_rfl) rfl
    (fun f fn hf hfn => by
      obtain rfl : f = 3 := Option.some.inj ((show Tryd.prog.funcNamed "sojourn/sojournlaw08.BlockPlays" = some 3 by kernel_rfl).symm.trans hf) |>.symm
      obtain rfl : fn = Tryd.f3 := (Option.some.inj (Tryd.func3.symm.trans hfn)).symm
      exact ⟨by kernel_rfl, fun j t ht => no_stand_in (P := Tryd.prog) Tryd.f3.params (by kernel_rfl) j t ht⟩)
    (by kernel_rfl)
end Go.Proofs.YtfdldjhndfohhaaDoor
