/-
  TextLetters and TextJoins: for every text, or every two texts, they return true and leave what came in as it was. No conditions.
-/
import Derived.Test.YtfophdombipemaaRowBase
import Derived.Test.YtfophdombipemaaTextLetters
import Derived.Test.YtfophdombipemaaTextJoins
import Derived.Test.YtfophdombipemaaTextDecode
import Derived.Test.YtfophdombipemaaTextTests
namespace Go.Proofs.Ytfophdombipemaa
open Go.ChangeShapes Go.WideShapes Go.RowKit Go.ChangeMaps

section
variable (hE : EncOk) (hD : DecOk) (hO : OctetsOk) (hT : TokenOk)
include hE hD hO hT
set_option maxRecDepth 100000 in
theorem textLetters_lifted (os : Os) (started : os.Started) (H : Type) (enc : TypeId × Value → H) :
    ReturnsInHanded {} Try.checked os 3 .any (fun w args => Rows.textLettersSpec.pre enc Try.prog Try.f3 [] false w args ∧ sizedMet enc Try.prog Try.f3 (OpenSpec.ofChange Rows.textLettersSpec) false w args)
      (Rows.textLettersSpec.post enc Try.prog Try.f3 false true false false) := by
  refine law_lifted_plain (C := Try.checked) ownNone started (by kernel_rfl) Try.func3 rfl (by kernel_rfl) (by kernel_rfl) rfl Try.underlying4
    (ChangeSpec.witness_at (enc := enc) (C := Try.checked) (os := os) (X := fun w _ => laidMetH Try.prog [] w) false (plainWorld os) #[.string ⟨#[]⟩] 8 rfl (by kernel_rfl) (by kernel_rfl) (by kernel_rfl) (by kernel_rfl) (by kernel_rfl) (laidMet_nil _ _)) ?_ ?_
  · intro ds hd
    match ds, hd with
    | [_], _ => rfl
  intro W base args ds p hval hA
  rw [Try.params3] at hA hval
  obtain ⟨v0, d0, rfl, rfl, h0⟩ := trodAll_one hA
  obtain ⟨s, rfl, rfl, rfl, ws⟩ := open_string Try.underlying9 (hval 0 9 v0 rfl rfl) h0
  exact letters_true s W hE hD hO hT (small_text ws)

theorem textLetters_said : Rows.TextLettersSaid :=
  OpenClaim.holds_of_wide 3 Try.f3 rfl rfl rfl rfl rfl rfl rfl ⟨rfl, rfl, rfl, rfl, rfl⟩ rfl rfl rfl rfl rfl (by kernel_rfl) Try.func3 (by kernel_rfl)
    (of_decide_eq_true (by kernel_rfl)) (by unfold Func.isWrapper; rw [if_neg (of_decide_eq_false (by kernel_rfl))]; exact ⟨rfl, rfl⟩)
    (fun os started H enc _ => textLetters_lifted hE hD hO hT os started H enc)
end

section
variable (hE : EncOk) (hD : DecOk) (hO : OctetsOk) (hT : TokenOk)
include hE hD hO hT
set_option maxRecDepth 100000 in
theorem textJoins_lifted (os : Os) (started : os.Started) (H : Type) (enc : TypeId × Value → H) :
    ReturnsInHanded {} Try.checked os 4 .any (fun w args => Rows.textJoinsSpec.pre enc Try.prog Try.f4 [] false w args ∧ sizedMet enc Try.prog Try.f4 (OpenSpec.ofChange Rows.textJoinsSpec) false w args)
      (Rows.textJoinsSpec.post enc Try.prog Try.f4 false true false false) := by
  refine law_lifted_plain (C := Try.checked) ownNone started (by kernel_rfl) Try.func4 rfl (by kernel_rfl) (by kernel_rfl) rfl Try.underlying4
    (ChangeSpec.witness_at (enc := enc) (C := Try.checked) (os := os) (X := fun w _ => laidMetH Try.prog [] w) false (plainWorld os) #[.string ⟨#[]⟩, .string ⟨#[]⟩] 8 rfl (by kernel_rfl) (by kernel_rfl) (by kernel_rfl) (by kernel_rfl) (by kernel_rfl) (laidMet_nil _ _)) ?_ ?_
  · intro ds hd
    match ds, hd with
    | [_, _], _ => rfl
  intro W base args ds p hval hA
  rw [Try.params4] at hA hval
  obtain ⟨v0, v1, d0, d1, p0, p1, rfl, rfl, rfl, h0, h1⟩ := trodAll_two hA
  obtain ⟨s, rfl, rfl, rfl, ws⟩ := open_string Try.underlying9 (hval 0 9 v0 rfl rfl) h0
  obtain ⟨t, rfl, rfl, rfl, wt⟩ := open_string Try.underlying9 (hval 1 9 v1 rfl rfl) h1
  exact joins_true s t W hE hD hO hT (small_text ws) (small_text wt)

theorem textJoins_said : Rows.TextJoinsSaid :=
  OpenClaim.holds_of_wide 4 Try.f4 rfl rfl rfl rfl rfl rfl rfl ⟨rfl, rfl, rfl, rfl, rfl⟩ rfl rfl rfl rfl rfl (by kernel_rfl) Try.func4 (by kernel_rfl)
    (of_decide_eq_true (by kernel_rfl)) (by unfold Func.isWrapper; rw [if_neg (of_decide_eq_false (by kernel_rfl))]; exact ⟨rfl, rfl⟩)
    (fun os started H enc _ => textJoins_lifted hE hD hO hT os started H enc)
end

theorem textLetters_holds : Rows.TextLettersSaid := textLetters_said encOk decOk octetsOk tokenOk
theorem textJoins_holds : Rows.TextJoinsSaid := textJoins_said encOk decOk octetsOk tokenOk
end Go.Proofs.Ytfophdombipemaa
