/-
  CookieParses' card, proved: for all that it is given CookieParses returns true and leaves it as it was. The variable errors.errorType is tied to the program's text.
-/
import Derived.Test.YtaniekpkcihpiaaDoorPart01
import Derived.Test.YtaniekpkcihpiaaDoorPart14
import Derived.Test.YtaniekpkcihpiaaDoorPart16
import Derived.Test.YtaniekpkcihpiaaDoorPart25
import Derived.Test.YtaniekpkcihpiaaDoorTie
import Derived.Test.YtaniekpkcihpiaaDoorCards
import Derived.SevenTiedAt
import Derived.ChangeMaps5
namespace Go.Proofs.YtaniekpkcihpiaaDoor
open Go.ChangeShapes Go.WideShapes Go.RowKit Go.ChangeMaps

set_option maxRecDepth 100000 in
theorem cookieParses_lifted (os : Os) (started : os.Started) (H : Type) (enc : TypeId × Value → H) :
    ReturnsInHanded {} Tryd.checked os 3 .any (fun w args => (Rows.cookieParsesSpec.pre enc Tryd.prog Tryd.f3 [] false w args ∧ laidMetH Tryd.prog laidList w) ∧ sizedMet enc Tryd.prog Tryd.f3 (OpenSpec.ofChange Rows.cookieParsesSpec) false w args)
      (Rows.cookieParsesSpec.post enc Tryd.prog Tryd.f3 false true false false) := by
  refine law_lifted (C := Tryd.checked) (L := laidList) (fun _ _ hh h => h.of_heap hh) ownNone started (by kernel_rfl) Tryd.func3 rfl (by kernel_rfl) (by kernel_rfl) rfl Tryd.underlying4
    (ChangeSpec.witness_at (enc := enc) (C := Tryd.checked) (os := os) (X := fun w _ => laidMetH Tryd.prog laidList w) false (laidWorld os) #[.string ⟨#[]⟩] 8 rfl (by kernel_rfl) (by kernel_rfl) (by kernel_rfl) (by kernel_rfl) (by kernel_rfl) (laidWorld_met os _)) ?_ ?_
  · intro ds hd
    match ds, hd with
    | [_], _ => rfl
  intro W base args ds p hval hA hL
  rw [Tryd.params3] at hA hval
  obtain ⟨v0, d0, rfl, rfl, h0⟩ := trodAll_one hA
  obtain ⟨s0, rfl, rfl, rfl, ws0⟩ := open_string Tryd.underlying9 (hval 0 9 v0 rfl rfl) h0
  exact parses_true parseOk writeOk s0 W (handle_of_laid hL)

theorem cookieParses_said : Rows.CookieParsesSaid :=
  OpenClaim.holds_of_wide 3 Tryd.f3 rfl rfl rfl rfl rfl rfl rfl ⟨rfl, rfl, rfl, rfl, rfl⟩ rfl rfl rfl rfl rfl (by kernel_rfl) Tryd.func3 (by kernel_rfl)
    (of_decide_eq_true (by kernel_rfl)) (by unfold Func.isWrapper; rw [if_neg (of_decide_eq_false (by kernel_rfl))]; exact ⟨rfl, rfl⟩)
    (fun os started H enc _ => cookieParses_lifted os started H enc)

theorem cookieParses_card_holds : Rows.CookieParsesCardSaid :=
  Claim7.holds_tied_plain_at .later [] [.handle] true (true, "1f90e5b5296fa73f27175e96ca80c800e4729802b7d847c5cc3b8b4e4f866c5e") true
    cookieParses_said (fun _ h => by cases h) (by kernel_rfl) (fun _ h => by cases h) cookieParses_row_tie rfl ⟨rfl, rfl⟩ (by kernel_rfl) rfl
    (fun f fn hf hfn => by
      obtain rfl : f = 3 := Option.some.inj ((show Tryd.prog.funcNamed "sojourn/sojournlaw13.CookieParses" = some 3 by kernel_rfl).symm.trans hf) |>.symm
      obtain rfl : fn = Tryd.f3 := (Option.some.inj (Tryd.func3.symm.trans hfn)).symm
      exact ⟨by kernel_rfl, fun j t ht => no_stand_in (P := Tryd.prog) Tryd.f3.params (by kernel_rfl) j t ht⟩)
    (by kernel_rfl)
end Go.Proofs.YtaniekpkcihpiaaDoor
