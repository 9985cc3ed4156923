/-
  CrcSteps' card, proved: for every slice of bytes, every uint32 and every two bytes CrcSteps returns true and leaves them as they were. crc's two tables are tied to the program's text.
-/
import Derived.Test.YtldimmpdjcgbeaaDoorCrcLaid
import Derived.Test.YtldimmpdjcgbeaaDoorLawRow
import Derived.Test.YtldimmpdjcgbeaaDoorCrcSteps
import Derived.Test.YtldimmpdjcgbeaaDoorTie
import Derived.Test.YtldimmpdjcgbeaaDoorCards
import Derived.SevenTiedAt
namespace Go.Proofs.YtldimmpdjcgbeaaDoor
open Go.ChangeShapes Go.WideShapes Go.RowKit Go.ChangeMaps CrcMath

set_option maxRecDepth 100000 in
theorem crcSteps_lifted (os : Os) (started : os.Started) (H : Type) (enc : TypeId × Value → H) :
    ReturnsInHanded {} Tryd.checked os 4 .any (fun w args => (Rows.crcStepsSpec.pre enc Tryd.prog Tryd.f4 [] false w args ∧ laidMetH Tryd.prog laidList w) ∧ sizedMet enc Tryd.prog Tryd.f4 (OpenSpec.ofChange Rows.crcStepsSpec) false w args)
      (Rows.crcStepsSpec.post enc Tryd.prog Tryd.f4 false true false false) := by
  refine law_lifted (C := Tryd.checked) (L := laidList) (fun _ _ hh h => h.of_heap hh) ownNone started (by kernel_rfl) Tryd.func4 rfl (by kernel_rfl) (by kernel_rfl) rfl Tryd.underlying4
    (ChangeSpec.witness_at (enc := enc) (C := Tryd.checked) (os := os) (X := fun w _ => laidMetH Tryd.prog laidList w) false (laidWorld os) #[.slice none 0 0, .int .u32 0, .agg #[.int .u8 0, .int .u8 0]] 8 rfl (by kernel_rfl) (by kernel_rfl) (by kernel_rfl) (by kernel_rfl) (by kernel_rfl) (laidWorld_met os _)) ?_ ?_
  · intro ds hd
    match ds, hd with
    | [_, _, _], _ => rfl
  intro W base args ds p hval hA hL
  rw [Tryd.params4] at hA hval
  obtain ⟨v0, v1, v2, d0, d1, d2, p0, p1, p2, rfl, rfl, rfl, h0, h1, h2⟩ := trodAll_three hA
  obtain ⟨zs, pp, cap, rfl, hlc, hcm, hz⟩ := open_bytes Tryd.underlying22 Tryd.underlying5 (by kernel_rfl) (hval 0 22 v0 rfl rfl) h0
  obtain ⟨s, rfl, rfl, rfl, ws⟩ := open_int Tryd.underlying24 (hval 1 24 v1 rfl rfl) h1
  obtain ⟨xs, hx, rfl, rfl, rfl, wx⟩ := open_array Tryd.underlying27 Tryd.underlying5 (by kernel_rfl) (by kernel_rfl) (hval 2 27 v2 rfl rfl) h2
  obtain ⟨x, y, rfl⟩ : ∃ x y, xs = [x, y] := by
    match xs, hx with
    | [x, y], _ => exact ⟨x, y, rfl⟩
  have hs := wf_u32 ws
  have hx := wf_u8 (wx x (by simp))
  have hy := wf_u8 (wx y (by simp))
  obtain ⟨s, rfl⟩ := Int.eq_ofNat_of_zero_le hs.1
  obtain ⟨x, rfl⟩ := Int.eq_ofNat_of_zero_le hx.1
  obtain ⟨y, rfl⟩ := Int.eq_ofNat_of_zero_le hy.1
  exact steps_walk zs pp cap s x y W (by omega) hz (by omega) (by omega) (by omega) (tables_of_laid hL)

theorem crcSteps_said : Rows.CrcStepsSaid :=
  OpenClaim.holds_of_wide 4 Tryd.f4 rfl rfl rfl rfl rfl rfl rfl ⟨rfl, rfl, rfl, rfl, rfl⟩ rfl rfl rfl rfl rfl (by kernel_rfl) Tryd.func4 (by kernel_rfl)
    (of_decide_eq_true (by kernel_rfl)) (by unfold Func.isWrapper; rw [if_neg (of_decide_eq_false (by kernel_rfl))]; exact ⟨rfl, rfl⟩)
    (fun os started H enc _ => crcSteps_lifted os started H enc)

theorem crcSteps_card_holds : Rows.CrcStepsCardSaid :=
  Claim7.holds_tied_plain_at .later [] [.data, .data] true (true, "e4f8f04e674d7104200f32727eeb7738de5eabe964a32175f307d47dc91a5bf7") false
    crcSteps_said (fun _ h => by cases h) (by kernel_rfl) (fun _ h => by cases h) crcSteps_row_tie rfl ⟨rfl, rfl⟩ (by kernel_rfl) rfl
    (fun f fn hf hfn => by
      obtain rfl : f = 4 := Option.some.inj ((show Tryd.prog.funcNamed "sojourn/sojournlaw02.CrcSteps" = some 4 by kernel_rfl).symm.trans hf) |>.symm
      obtain rfl : fn = Tryd.f4 := (Option.some.inj (Tryd.func4.symm.trans hfn)).symm
      exact ⟨by kernel_rfl, fun j t ht => no_stand_in (P := Tryd.prog) Tryd.f4.params (by kernel_rfl) j t ht⟩)
    (by kernel_rfl)
end Go.Proofs.YtldimmpdjcgbeaaDoor
