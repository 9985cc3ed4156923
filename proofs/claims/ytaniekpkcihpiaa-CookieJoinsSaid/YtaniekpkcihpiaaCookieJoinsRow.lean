/-
  CookieJoins: of any two texts it returns true and leaves them as they were. No conditions.
-/
import Derived.Test.YtaniekpkcihpiaaRowBase
import Derived.Test.YtaniekpkcihpiaaCookieJoins
import Derived.Test.YtaniekpkcihpiaaCookieOpen
import Derived.Test.YtaniekpkcihpiaaCookieWhole
namespace Go.Proofs.Ytaniekpkcihpiaa
open Go.ChangeShapes Go.WideShapes Go.RowKit Go.ChangeMaps

set_option maxRecDepth 100000 in
theorem cookieJoins_lifted (os : Os) (started : os.Started) (H : Type) (enc : TypeId × Value → H) :
    ReturnsInHanded {} Try.checked os 4 .any (fun w args => Rows.cookieJoinsSpec.pre enc Try.prog Try.f4 [] false w args ∧ sizedMet enc Try.prog Try.f4 (OpenSpec.ofChange Rows.cookieJoinsSpec) false w args)
      (Rows.cookieJoinsSpec.post enc Try.prog Try.f4 false true false false) := by
  refine law_lifted_plain (C := Try.checked) ownNone started (by kernel_rfl) Try.func4 rfl (by kernel_rfl) (by kernel_rfl) rfl Try.underlying4
    (ChangeSpec.witness_at (enc := enc) (C := Try.checked) (os := os) (X := fun w _ => laidMetH Try.prog [] w) false (plainWorld os) #[.string ⟨#[]⟩, .string ⟨#[]⟩] 8 rfl (by kernel_rfl) (by kernel_rfl) (by kernel_rfl) (by kernel_rfl) (by kernel_rfl) (laidMet_nil _ _)) ?_ ?_
  · intro ds hd
    match ds, hd with
    | [_, _], _ => rfl
  intro W base args ds p hval hA
  rw [Try.params4] at hA hval
  obtain ⟨v0, v1, d0, d1, p0, p1, rfl, rfl, rfl, h0, h1⟩ := trodAll_two hA
  obtain ⟨s0, rfl, rfl, rfl, ws0⟩ := open_string Try.underlying9 (hval 0 9 v0 rfl rfl) h0
  obtain ⟨s1, rfl, rfl, rfl, ws1⟩ := open_string Try.underlying9 (hval 1 9 v1 rfl rfl) h1
  exact joins_true parseOk s0 s1 W

theorem cookieJoins_holds : Rows.CookieJoinsSaid :=
  OpenClaim.holds_of_wide 4 Try.f4 rfl rfl rfl rfl rfl rfl rfl ⟨rfl, rfl, rfl, rfl, rfl⟩ rfl rfl rfl rfl rfl (by kernel_rfl) Try.func4 (by kernel_rfl)
    (of_decide_eq_true (by kernel_rfl)) (by unfold Func.isWrapper; rw [if_neg (of_decide_eq_false (by kernel_rfl))]; exact ⟨rfl, rfl⟩)
    (fun os started H enc _ => cookieJoins_lifted os started H enc)

end Go.Proofs.Ytaniekpkcihpiaa
