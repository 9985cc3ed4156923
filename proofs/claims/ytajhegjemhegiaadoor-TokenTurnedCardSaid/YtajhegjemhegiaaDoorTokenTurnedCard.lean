/-
  TokenTurned' card, proved: for all that it is given TokenTurned returns true and leaves it as it was. The variable that it lists is tied to the program's text.
-/
import Derived.Test.YtajhegjemhegiaaDoorPart04
import Derived.Test.YtajhegjemhegiaaDoorPart05
import Derived.Test.YtajhegjemhegiaaDoorPart31
import Derived.Test.YtajhegjemhegiaaDoorPart22
import Derived.Test.YtajhegjemhegiaaDoorPart23
import Derived.Test.YtajhegjemhegiaaDoorTokenWhole
import Derived.Test.YtajhegjemhegiaaDoorTie
import Derived.Test.YtajhegjemhegiaaDoorCards
import Derived.SevenTiedAt
import Derived.ChangeMaps5
namespace Go.Proofs.YtajhegjemhegiaaDoor
open Go.ChangeShapes Go.WideShapes Go.RowKit Go.ChangeMaps

set_option maxRecDepth 100000 in
theorem tokenTurned_lifted (os : Os) (started : os.Started) (H : Type) (enc : TypeId × Value → H) :
    ReturnsInHanded {} Tryd.checked os 5 .any (fun w args => (Rows.tokenTurnedSpec.pre enc Tryd.prog Tryd.f5 [] false w args ∧ laidMetH Tryd.prog laidList w) ∧ sizedMet enc Tryd.prog Tryd.f5 (OpenSpec.ofChange Rows.tokenTurnedSpec) false w args)
      (Rows.tokenTurnedSpec.post enc Tryd.prog Tryd.f5 false true false false) := by
  refine law_lifted (C := Tryd.checked) (L := laidList) (fun _ _ hh h => h.of_heap hh) ownNone started (by kernel_rfl) Tryd.func5 rfl (by kernel_rfl) (by kernel_rfl) rfl Tryd.underlying4
    (ChangeSpec.witness_at (enc := enc) (C := Tryd.checked) (os := os) (X := fun w _ => laidMetH Tryd.prog laidList w) false (laidWorld os) #[.agg #[.string ⟨#[]⟩, .string ⟨#[]⟩, .int .i64 0, .int .i64 0, .int .i64 0, .slice none 0 0], .int .i64 0, .int .u8 0] 8 rfl (by kernel_rfl) (by kernel_rfl) (by kernel_rfl) (by kernel_rfl) (by kernel_rfl) (laidWorld_met os _)) ?_ ?_
  · intro ds hd
    match ds, hd with
    | [_, _, _], _ => rfl
  intro W base args ds p hval hA hL
  rw [Tryd.params5] at hA hval
  obtain ⟨v0, v1, v2, d0, d1, d2, p0, p1, p2, rfl, rfl, rfl, h0, h1, h2⟩ := trodAll_three hA
  obtain ⟨x0, rfl, zx0, sx0⟩ := claims_in (hval 0 31 v0 rfl rfl) h0
  obtain ⟨n1, rfl, _, _, w1⟩ := open_int Tryd.underlying3 (hval 1 3 v1 rfl rfl) h1
  obtain ⟨n2, rfl, _, _, w2⟩ := open_int Tryd.underlying5 (hval 2 5 v2 rfl rfl) h2
  obtain ⟨g0, g1⟩ := wf_u8 w2
  obtain ⟨q, rfl⟩ : ∃ q : Nat, n2 = (q : Int) := ⟨n2.toNat, by omega⟩
  exact turned_true rnewOk mintOk readTOk x0 n1 q W (parts_of_laid hL) zx0 ⟨sx0, sx0.vec⟩ (wf_i64 w1) (by omega)

theorem tokenTurned_said : Rows.TokenTurnedSaid :=
  OpenClaim.holds_of_wide 5 Tryd.f5 rfl rfl rfl rfl rfl rfl rfl ⟨rfl, rfl, rfl, rfl, rfl⟩ rfl rfl rfl rfl rfl (by kernel_rfl) Tryd.func5 (by kernel_rfl)
    (of_decide_eq_true (by kernel_rfl)) (by unfold Func.isWrapper; rw [if_neg (of_decide_eq_false (by kernel_rfl))]; exact ⟨rfl, rfl⟩)
    (fun os started H enc _ => tokenTurned_lifted os started H enc)

theorem tokenTurned_card_holds : Rows.TokenTurnedCardSaid :=
  Claim7.holds_tied_plain_at .later [] [.data] true (true, "699746965d771886f0c832aad98bb593d8f079e0b6b94378cd66cb1867cdaeae") true
    tokenTurned_said (fun _ h => by cases h) (by kernel_rfl) (fun _ h => by cases h) tokenTurned_row_tie rfl ⟨rfl, rfl⟩ (by kernel_rfl) rfl
    (fun f fn hf hfn => by
      obtain rfl : f = 5 := Option.some.inj ((show Tryd.prog.funcNamed "sojourn/sojournlaw12.TokenTurned" = some 5 by kernel_rfl).symm.trans hf) |>.symm
      obtain rfl : fn = Tryd.f5 := (Option.some.inj (Tryd.func5.symm.trans hfn)).symm
      exact ⟨by kernel_rfl, fun j t ht => no_stand_in (P := Tryd.prog) Tryd.f5.params (by kernel_rfl) j t ht⟩)
    (by kernel_rfl)
end Go.Proofs.YtajhegjemhegiaaDoor
