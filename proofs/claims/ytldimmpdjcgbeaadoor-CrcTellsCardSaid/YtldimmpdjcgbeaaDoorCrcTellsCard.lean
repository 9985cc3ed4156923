/-
  CrcTells' card, proved: for every slice of bytes, every int and every byte CrcTells returns true and leaves them as they were. crc's two tables are tied to the program's text.
-/
import Derived.Test.YtldimmpdjcgbeaaDoorCrcLaid
import Derived.Test.YtldimmpdjcgbeaaDoorLawRow
import Derived.Test.YtldimmpdjcgbeaaDoorCrcTells
import Derived.Test.YtldimmpdjcgbeaaDoorTie
import Derived.Test.YtldimmpdjcgbeaaDoorCards
import Derived.SevenTiedAt
namespace Go.Proofs.YtldimmpdjcgbeaaDoor
open Go.ChangeShapes Go.WideShapes Go.RowKit Go.ChangeMaps CrcMath

set_option maxRecDepth 100000 in
theorem crcTells_lifted (os : Os) (started : os.Started) (H : Type) (enc : TypeId × Value → H) :
    ReturnsInHanded {} Tryd.checked os 5 .any (fun w args => (Rows.crcTellsSpec.pre enc Tryd.prog Tryd.f5 [] false w args ∧ laidMetH Tryd.prog laidList w) ∧ sizedMet enc Tryd.prog Tryd.f5 (OpenSpec.ofChange Rows.crcTellsSpec) false w args)
      (Rows.crcTellsSpec.post enc Tryd.prog Tryd.f5 false true false false) := by
  refine law_lifted (C := Tryd.checked) (L := laidList) (fun _ _ hh h => h.of_heap hh) ownNone started (by kernel_rfl) Tryd.func5 rfl (by kernel_rfl) (by kernel_rfl) rfl Tryd.underlying4
    (ChangeSpec.witness_at (enc := enc) (C := Tryd.checked) (os := os) (X := fun w _ => laidMetH Tryd.prog laidList w) false (laidWorld os) #[.slice none 0 0, .int .i64 0, .int .u8 0] 8 rfl (by kernel_rfl) (by kernel_rfl) (by kernel_rfl) (by kernel_rfl) (by kernel_rfl) (laidWorld_met os _)) ?_ ?_
  · intro ds hd
    match ds, hd with
    | [_, _, _], _ => rfl
  intro W base args ds p hval hA hL
  rw [Tryd.params5] at hA hval
  obtain ⟨v0, v1, v2, d0, d1, d2, p0, p1, p2, rfl, rfl, rfl, h0, h1, h2⟩ := trodAll_three hA
  obtain ⟨zs, pp, cap, rfl, hlc, hcm, hz⟩ := open_bytes Tryd.underlying22 Tryd.underlying5 (by kernel_rfl) (hval 0 22 v0 rfl rfl) h0
  obtain ⟨a, rfl, rfl, rfl, wa⟩ := open_int Tryd.underlying3 (hval 1 3 v1 rfl rfl) h1
  obtain ⟨k, rfl, rfl, rfl, wk⟩ := open_int Tryd.underlying5 (hval 2 5 v2 rfl rfl) h2
  have ha := wf_i64 wa
  have hk := wf_u8 wk
  obtain ⟨k, rfl⟩ := Int.eq_ofNat_of_zero_le hk.1
  by_cases hout : 100000 < zs.length ∨ a < 0 ∨ (zs.length : Int) ≤ a
  · exact tells_out zs pp cap k a W (by omega) ha hout (tables_of_laid hL)
  · obtain ⟨i, rfl⟩ := Int.eq_ofNat_of_zero_le (show 0 ≤ a by omega)
    exact tells_in zs pp cap k i W (by omega) (by omega) (by omega) hz (tables_of_laid hL)

theorem crcTells_said : Rows.CrcTellsSaid :=
  OpenClaim.holds_of_wide 5 Tryd.f5 rfl rfl rfl rfl rfl rfl rfl ⟨rfl, rfl, rfl, rfl, rfl⟩ rfl rfl rfl rfl rfl (by kernel_rfl) Tryd.func5 (by kernel_rfl)
    (of_decide_eq_true (by kernel_rfl)) (by unfold Func.isWrapper; rw [if_neg (of_decide_eq_false (by kernel_rfl))]; exact ⟨rfl, rfl⟩)
    (fun os started H enc _ => crcTells_lifted os started H enc)

theorem crcTells_card_holds : Rows.CrcTellsCardSaid :=
  Claim7.holds_tied_plain_at .later [] [.data, .data] true (true, "e4f8f04e674d7104200f32727eeb7738de5eabe964a32175f307d47dc91a5bf7") false
    crcTells_said (fun _ h => by cases h) (by kernel_rfl) (fun _ h => by cases h) crcTells_row_tie rfl ⟨rfl, rfl⟩ (by kernel_rfl) rfl
    (fun f fn hf hfn => by
      obtain rfl : f = 5 := Option.some.inj ((show Tryd.prog.funcNamed "sojourn/sojournlaw02.CrcTells" = some 5 by kernel_rfl).symm.trans hf) |>.symm
      obtain rfl : fn = Tryd.f5 := (Option.some.inj (Tryd.func5.symm.trans hfn)).symm
      exact ⟨by kernel_rfl, fun j t ht => no_stand_in (P := Tryd.prog) Tryd.f5.params (by kernel_rfl) j t ht⟩)
    (by kernel_rfl)
end Go.Proofs.YtldimmpdjcgbeaaDoor
