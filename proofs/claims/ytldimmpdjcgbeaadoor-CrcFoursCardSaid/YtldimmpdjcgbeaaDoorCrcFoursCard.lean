/-
  CrcFours' card, proved: for every uint32 and every four bytes CrcFours returns true and leaves them as they were. crc's two tables are tied to the program's text.
-/
import Derived.Test.YtldimmpdjcgbeaaDoorCrcLaid
import Derived.Test.YtldimmpdjcgbeaaDoorLawRow
import Derived.Test.YtldimmpdjcgbeaaDoorCrcFours
import Derived.Test.YtldimmpdjcgbeaaDoorTie
import Derived.Test.YtldimmpdjcgbeaaDoorCards
import Derived.SevenTiedAt
namespace Go.Proofs.YtldimmpdjcgbeaaDoor
open Go.ChangeShapes Go.WideShapes Go.RowKit Go.ChangeMaps CrcMath

set_option maxRecDepth 100000 in
theorem crcFours_lifted (os : Os) (started : os.Started) (H : Type) (enc : TypeId × Value → H) :
    ReturnsInHanded {} Tryd.checked os 6 .any (fun w args => (Rows.crcFoursSpec.pre enc Tryd.prog Tryd.f6 [] false w args ∧ laidMetH Tryd.prog laidList w) ∧ sizedMet enc Tryd.prog Tryd.f6 (OpenSpec.ofChange Rows.crcFoursSpec) false w args)
      (Rows.crcFoursSpec.post enc Tryd.prog Tryd.f6 false true false false) := by
  refine law_lifted (C := Tryd.checked) (L := laidList) (fun _ _ hh h => h.of_heap hh) ownNone started (by kernel_rfl) Tryd.func6 rfl (by kernel_rfl) (by kernel_rfl) rfl Tryd.underlying4
    (ChangeSpec.witness_at (enc := enc) (C := Tryd.checked) (os := os) (X := fun w _ => laidMetH Tryd.prog laidList w) false (laidWorld os) #[.int .u32 0, .agg #[.int .u8 0, .int .u8 0, .int .u8 0, .int .u8 0]] 8 rfl (by kernel_rfl) (by kernel_rfl) (by kernel_rfl) (by kernel_rfl) (by kernel_rfl) (laidWorld_met os _)) ?_ ?_
  · intro ds hd
    match ds, hd with
    | [_, _], _ => rfl
  intro W base args ds p hval hA hL
  rw [Tryd.params6] at hA hval
  obtain ⟨v0, v1, d0, d1, p0, p1, rfl, rfl, rfl, h0, h1⟩ := trodAll_two hA
  obtain ⟨s, rfl, rfl, rfl, ws⟩ := open_int Tryd.underlying24 (hval 0 24 v0 rfl rfl) h0
  obtain ⟨xs, hx, rfl, rfl, rfl, wx⟩ := open_array Tryd.underlying31 Tryd.underlying5 (by kernel_rfl) (by kernel_rfl) (hval 1 31 v1 rfl rfl) h1
  obtain ⟨x0, x1, x2, x3, rfl⟩ : ∃ x0 x1 x2 x3, xs = [x0, x1, x2, x3] := by
    match xs, hx with
    | [x0, x1, x2, x3], _ => exact ⟨x0, x1, x2, x3, rfl⟩
  have hs := wf_u32 ws
  have g0 := wf_u8 (wx x0 (by simp))
  have g1 := wf_u8 (wx x1 (by simp))
  have g2 := wf_u8 (wx x2 (by simp))
  have g3 := wf_u8 (wx x3 (by simp))
  obtain ⟨s, rfl⟩ := Int.eq_ofNat_of_zero_le hs.1
  obtain ⟨x0, rfl⟩ := Int.eq_ofNat_of_zero_le g0.1
  obtain ⟨x1, rfl⟩ := Int.eq_ofNat_of_zero_le g1.1
  obtain ⟨x2, rfl⟩ := Int.eq_ofNat_of_zero_le g2.1
  obtain ⟨x3, rfl⟩ := Int.eq_ofNat_of_zero_le g3.1
  exact fours_walk s (s % 256) (s / 256 % 256) (s / 65536 % 256) (s / 16777216 % 256) x0 x1 x2 x3 _ W (by omega) (by omega) (by omega) (by omega) (by unfold ofFour; omega) (by omega) (by omega) (by omega) (by omega) rfl (tables_of_laid hL)

theorem crcFours_said : Rows.CrcFoursSaid :=
  OpenClaim.holds_of_wide 6 Tryd.f6 rfl rfl rfl rfl rfl rfl rfl ⟨rfl, rfl, rfl, rfl, rfl⟩ rfl rfl rfl rfl rfl (by kernel_rfl) Tryd.func6 (by kernel_rfl)
    (of_decide_eq_true (by kernel_rfl)) (by unfold Func.isWrapper; rw [if_neg (of_decide_eq_false (by kernel_rfl))]; exact ⟨rfl, rfl⟩)
    (fun os started H enc _ => crcFours_lifted os started H enc)

theorem crcFours_card_holds : Rows.CrcFoursCardSaid :=
  Claim7.holds_tied_plain_at .later [] [.data, .data] true (true, "e4f8f04e674d7104200f32727eeb7738de5eabe964a32175f307d47dc91a5bf7") false
    crcFours_said (fun _ h => by cases h) (by kernel_rfl) (fun _ h => by cases h) crcFours_row_tie rfl ⟨rfl, rfl⟩ (by kernel_rfl) rfl
    (fun f fn hf hfn => by
      obtain rfl : f = 6 := Option.some.inj ((show Tryd.prog.funcNamed "sojourn/sojournlaw02.CrcFours" = some 6 by kernel_rfl).symm.trans hf) |>.symm
      obtain rfl : fn = Tryd.f6 := (Option.some.inj (Tryd.func6.symm.trans hfn)).symm
      exact ⟨by kernel_rfl, fun j t ht => no_stand_in (P := Tryd.prog) Tryd.f6.params (by kernel_rfl) j t ht⟩)
    (by kernel_rfl)
end Go.Proofs.YtldimmpdjcgbeaaDoor
