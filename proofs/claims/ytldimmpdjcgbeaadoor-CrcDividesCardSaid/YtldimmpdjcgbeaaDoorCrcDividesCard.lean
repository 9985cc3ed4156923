/-
  CrcDivides' card, proved: for every slice of bytes CrcDivides returns true and leaves it as it was. crc's two tables are tied to the program's text.
-/
import Derived.Test.YtldimmpdjcgbeaaDoorCrcLaid
import Derived.Test.YtldimmpdjcgbeaaDoorLawRow
import Derived.Test.YtldimmpdjcgbeaaDoorCrcDivides
import Derived.Test.YtldimmpdjcgbeaaDoorTie
import Derived.Test.YtldimmpdjcgbeaaDoorCards
import Derived.SevenTiedAt
namespace Go.Proofs.YtldimmpdjcgbeaaDoor
open Go.ChangeShapes Go.WideShapes Go.RowKit Go.ChangeMaps CrcMath

set_option maxRecDepth 100000 in
theorem crcDivides_lifted (os : Os) (started : os.Started) (H : Type) (enc : TypeId × Value → H) :
    ReturnsInHanded {} Tryd.checked os 3 .any (fun w args => (Rows.crcDividesSpec.pre enc Tryd.prog Tryd.f3 [] false w args ∧ laidMetH Tryd.prog laidList w) ∧ sizedMet enc Tryd.prog Tryd.f3 (OpenSpec.ofChange Rows.crcDividesSpec) false w args)
      (Rows.crcDividesSpec.post enc Tryd.prog Tryd.f3 false true false false) := by
  refine law_lifted (C := Tryd.checked) (L := laidList) (fun _ _ hh h => h.of_heap hh) ownNone started (by kernel_rfl) Tryd.func3 rfl (by kernel_rfl) (by kernel_rfl) rfl Tryd.underlying4
    (ChangeSpec.witness_at (enc := enc) (C := Tryd.checked) (os := os) (X := fun w _ => laidMetH Tryd.prog laidList w) false (laidWorld os) #[.slice none 0 0] 8 rfl (by kernel_rfl) (by kernel_rfl) (by kernel_rfl) (by kernel_rfl) (by kernel_rfl) (laidWorld_met os _)) ?_ ?_
  · intro ds hd
    match ds, hd with
    | [_], _ => rfl
  intro W base args ds p hval hA hL
  rw [Tryd.params3] at hA hval
  obtain ⟨v0, d0, rfl, rfl, h0⟩ := trodAll_one hA
  obtain ⟨zs, pp, cap, rfl, hlc, hcm, hz⟩ := open_bytes Tryd.underlying22 Tryd.underlying5 (by kernel_rfl) (hval 0 22 v0 rfl rfl) h0
  exact divides_walk zs pp cap W (by omega) hz (tables_of_laid hL)

theorem crcDivides_said : Rows.CrcDividesSaid :=
  OpenClaim.holds_of_wide 3 Tryd.f3 rfl rfl rfl rfl rfl rfl rfl ⟨rfl, rfl, rfl, rfl, rfl⟩ rfl rfl rfl rfl rfl (by kernel_rfl) Tryd.func3 (by kernel_rfl)
    (of_decide_eq_true (by kernel_rfl)) (by unfold Func.isWrapper; rw [if_neg (of_decide_eq_false (by kernel_rfl))]; exact ⟨rfl, rfl⟩)
    (fun os started H enc _ => crcDivides_lifted os started H enc)

theorem crcDivides_card_holds : Rows.CrcDividesCardSaid :=
  Claim7.holds_tied_plain_at .later [] [.data, .data] true (true, "e4f8f04e674d7104200f32727eeb7738de5eabe964a32175f307d47dc91a5bf7") false
    crcDivides_said (fun _ h => by cases h) (by kernel_rfl) (fun _ h => by cases h) crcDivides_row_tie rfl ⟨rfl, rfl⟩ (by kernel_rfl) rfl
    (fun f fn hf hfn => by
      obtain rfl : f = 3 := Option.some.inj ((show Tryd.prog.funcNamed "sojourn/sojournlaw02.CrcDivides" = some 3 by kernel_rfl).symm.trans hf) |>.symm
      obtain rfl : fn = Tryd.f3 := (Option.some.inj (Tryd.func3.symm.trans hfn)).symm
      exact ⟨by kernel_rfl, fun j t ht => no_stand_in (P := Tryd.prog) Tryd.f3.params (by kernel_rfl) j t ht⟩)
    (by kernel_rfl)
end Go.Proofs.YtldimmpdjcgbeaaDoor
