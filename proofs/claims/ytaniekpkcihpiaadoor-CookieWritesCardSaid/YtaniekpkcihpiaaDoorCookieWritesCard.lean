/-
  CookieWrites' card, proved: for all that it is given CookieWrites returns true and leaves it as it was. The variable errors.errorType is tied to the program's text.
-/
import Derived.Test.YtaniekpkcihpiaaDoorPart01
import Derived.Test.YtaniekpkcihpiaaDoorCookieWrites
import Derived.Test.YtaniekpkcihpiaaDoorPart16
import Derived.Test.YtaniekpkcihpiaaDoorPart25
import Derived.Test.YtaniekpkcihpiaaDoorTie
import Derived.Test.YtaniekpkcihpiaaDoorCards
import Derived.SevenTiedAt
import Derived.ChangeMaps5
namespace Go.Proofs.YtaniekpkcihpiaaDoor
open Go.ChangeShapes Go.WideShapes Go.RowKit Go.ChangeMaps

set_option maxRecDepth 100000 in
theorem cookieWrites_lifted (os : Os) (started : os.Started) (H : Type) (enc : TypeId × Value → H) :
    ReturnsInHanded {} Tryd.checked os 4 .any (fun w args => (Rows.cookieWritesSpec.pre enc Tryd.prog Tryd.f4 [] false w args ∧ laidMetH Tryd.prog laidList w) ∧ sizedMet enc Tryd.prog Tryd.f4 (OpenSpec.ofChange Rows.cookieWritesSpec) false w args)
      (Rows.cookieWritesSpec.post enc Tryd.prog Tryd.f4 false true false false) := by
  refine law_lifted (C := Tryd.checked) (L := laidList) (fun _ _ hh h => h.of_heap hh) ownNone started (by kernel_rfl) Tryd.func4 rfl (by kernel_rfl) (by kernel_rfl) rfl Tryd.underlying4
    (ChangeSpec.witness_at (enc := enc) (C := Tryd.checked) (os := os) (X := fun w _ => laidMetH Tryd.prog laidList w) false (laidWorld os) #[.slice none 0 0] 8 rfl (by kernel_rfl) (by kernel_rfl) (by kernel_rfl) (by kernel_rfl) (by kernel_rfl) (laidWorld_met os _)) ?_ ?_
  · intro ds hd
    match ds, hd with
    | [_], _ => rfl
  intro W base args ds p hval hA hL
  rw [Tryd.params4] at hA hval
  obtain ⟨v0, d0, rfl, rfl, h0⟩ := trodAll_one hA
  obtain ⟨xs, pp, cap, rfl, hc, hm, hI⟩ := pairs_in (hval 0 23 v0 rfl rfl) h0
  exact writes_true parseOk writeOk pp cap xs W hI hc hm (handle_of_laid hL)

theorem cookieWrites_said : Rows.CookieWritesSaid :=
  OpenClaim.holds_of_wide 4 Tryd.f4 rfl rfl rfl rfl rfl rfl rfl ⟨rfl, rfl, rfl, rfl, rfl⟩ rfl rfl rfl rfl rfl (by kernel_rfl) Tryd.func4 (by kernel_rfl)
    (of_decide_eq_true (by kernel_rfl)) (by unfold Func.isWrapper; rw [if_neg (of_decide_eq_false (by kernel_rfl))]; exact ⟨rfl, rfl⟩)
    (fun os started H enc _ => cookieWrites_lifted os started H enc)

theorem cookieWrites_card_holds : Rows.CookieWritesCardSaid :=
  Claim7.holds_tied_plain_at .later [] [.handle] true (true, "1f90e5b5296fa73f27175e96ca80c800e4729802b7d847c5cc3b8b4e4f866c5e") true
    cookieWrites_said (fun _ h => by cases h) (by kernel_rfl) (fun _ h => by cases h) cookieWrites_row_tie rfl ⟨rfl, rfl⟩ (by kernel_rfl) rfl
    (fun f fn hf hfn => by
      obtain rfl : f = 4 := Option.some.inj ((show Tryd.prog.funcNamed "sojourn/sojournlaw13.CookieWrites" = some 4 by kernel_rfl).symm.trans hf) |>.symm
      obtain rfl : fn = Tryd.f4 := (Option.some.inj (Tryd.func4.symm.trans hfn)).symm
      exact ⟨by kernel_rfl, fun j t ht => no_stand_in (P := Tryd.prog) Tryd.f4.params (by kernel_rfl) j t ht⟩)
    (by kernel_rfl)
end Go.Proofs.YtaniekpkcihpiaaDoor
