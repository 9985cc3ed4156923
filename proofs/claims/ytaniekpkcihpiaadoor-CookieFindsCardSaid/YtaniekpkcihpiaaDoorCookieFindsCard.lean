/-
  CookieFinds' card, proved: for all that it is given CookieFinds returns true and leaves it as it was. The variable errors.errorType is tied to the program's text.
-/
import Derived.Test.YtaniekpkcihpiaaDoorPart01
import Derived.Test.YtaniekpkcihpiaaDoorCookieFinds
import Derived.Test.YtaniekpkcihpiaaDoorPart16
import Derived.Test.YtaniekpkcihpiaaDoorPart25
import Derived.Test.YtaniekpkcihpiaaDoorTie
import Derived.Test.YtaniekpkcihpiaaDoorCards
import Derived.SevenTiedAt
import Derived.ChangeMaps5
namespace Go.Proofs.YtaniekpkcihpiaaDoor
open Go.ChangeShapes Go.WideShapes Go.RowKit Go.ChangeMaps

set_option maxRecDepth 100000 in
theorem cookieFinds_lifted (os : Os) (started : os.Started) (H : Type) (enc : TypeId × Value → H) :
    ReturnsInHanded {} Tryd.checked os 5 .any (fun w args => (Rows.cookieFindsSpec.pre enc Tryd.prog Tryd.f5 [] false w args ∧ laidMetH Tryd.prog laidList w) ∧ sizedMet enc Tryd.prog Tryd.f5 (OpenSpec.ofChange Rows.cookieFindsSpec) false w args)
      (Rows.cookieFindsSpec.post enc Tryd.prog Tryd.f5 false true false false) := by
  refine law_lifted (C := Tryd.checked) (L := laidList) (fun _ _ hh h => h.of_heap hh) ownNone started (by kernel_rfl) Tryd.func5 rfl (by kernel_rfl) (by kernel_rfl) rfl Tryd.underlying4
    (ChangeSpec.witness_at (enc := enc) (C := Tryd.checked) (os := os) (X := fun w _ => laidMetH Tryd.prog laidList w) false (laidWorld os) #[.string ⟨#[]⟩, .string ⟨#[]⟩] 8 rfl (by kernel_rfl) (by kernel_rfl) (by kernel_rfl) (by kernel_rfl) (by kernel_rfl) (laidWorld_met os _)) ?_ ?_
  · intro ds hd
    match ds, hd with
    | [_, _], _ => rfl
  intro W base args ds p hval hA hL
  rw [Tryd.params5] at hA hval
  obtain ⟨v0, v1, d0, d1, p0, p1, rfl, rfl, rfl, h0, h1⟩ := trodAll_two hA
  obtain ⟨s0, rfl, rfl, rfl, ws0⟩ := open_string Tryd.underlying9 (hval 0 9 v0 rfl rfl) h0
  obtain ⟨s1, rfl, rfl, rfl, ws1⟩ := open_string Tryd.underlying9 (hval 1 9 v1 rfl rfl) h1
  exact finds_true parseOk findOk s0 s1 W (handle_of_laid hL)

theorem cookieFinds_said : Rows.CookieFindsSaid :=
  OpenClaim.holds_of_wide 5 Tryd.f5 rfl rfl rfl rfl rfl rfl rfl ⟨rfl, rfl, rfl, rfl, rfl⟩ rfl rfl rfl rfl rfl (by kernel_rfl) Tryd.func5 (by kernel_rfl)
    (of_decide_eq_true (by kernel_rfl)) (by unfold Func.isWrapper; rw [if_neg (of_decide_eq_false (by kernel_rfl))]; exact ⟨rfl, rfl⟩)
    (fun os started H enc _ => cookieFinds_lifted os started H enc)

theorem cookieFinds_card_holds : Rows.CookieFindsCardSaid :=
  Claim7.holds_tied_plain_at .later [] [.handle] true (true, "1f90e5b5296fa73f27175e96ca80c800e4729802b7d847c5cc3b8b4e4f866c5e") true
    cookieFinds_said (fun _ h => by cases h) (by kernel_rfl) (fun _ h => by cases h) cookieFinds_row_tie rfl ⟨rfl, rfl⟩ (by kernel_rfl) rfl
    (fun f fn hf hfn => by
      obtain rfl : f = 5 := Option.some.inj ((show Tryd.prog.funcNamed "sojourn/sojournlaw13.CookieFinds" = some 5 by kernel_rfl).symm.trans hf) |>.symm
      obtain rfl : fn = Tryd.f5 := (Option.some.inj (Tryd.func5.symm.trans hfn)).symm
      exact ⟨by kernel_rfl, fun j t ht => no_stand_in (P := Tryd.prog) Tryd.f5.params (by kernel_rfl) j t ht⟩)
    (by kernel_rfl)
end Go.Proofs.YtaniekpkcihpiaaDoor
