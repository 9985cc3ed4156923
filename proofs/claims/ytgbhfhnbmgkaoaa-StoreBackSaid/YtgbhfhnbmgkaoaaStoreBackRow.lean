/-
  StoreBack: of any writes it returns true and leaves them as they were. No conditions.
-/
import Derived.Test.YtgbhfhnbmgkaoaaPart01
import Derived.Test.YtgbhfhnbmgkaoaaStoreBackLaw
import Derived.Test.YtgbhfhnbmgkaoaaPart19
import Derived.Test.YtgbhfhnbmgkaoaaStoreWhole
namespace Go.Proofs.Ytgbhfhnbmgkaoaa
open Go.ChangeShapes Go.WideShapes Go.RowKit Go.ChangeMaps

set_option maxRecDepth 100000 in
theorem storeBack_lifted (os : Os) (started : os.Started) (H : Type) (enc : TypeId × Value → H) :
    ReturnsInHanded {} Try.checked os 8 .any (fun w args => Rows.storeBackSpec.pre enc Try.prog Try.f8 [] false w args ∧ sizedMet enc Try.prog Try.f8 (OpenSpec.ofChange Rows.storeBackSpec) false w args)
      (Rows.storeBackSpec.post enc Try.prog Try.f8 false true false false) := by
  refine law_lifted_plain (C := Try.checked) ownNone started (by kernel_rfl) Try.func8 rfl (by kernel_rfl) (by kernel_rfl) rfl Try.underlying4
    (ChangeSpec.witness_at (enc := enc) (C := Try.checked) (os := os) (X := fun w _ => laidMetH Try.prog [] w) false (plainWorld os) #[.slice none 0 0, .slice none 0 0] 8 rfl (by kernel_rfl) (by kernel_rfl) (by kernel_rfl) (by kernel_rfl) (by kernel_rfl) (laidMet_nil _ _)) ?_ ?_
  · intro ds hd
    match ds, hd with
    | [_, _], _ => rfl
  intro W base args ds p hval hA
  rw [Try.params8] at hA hval
  obtain ⟨v0, v1, d0, d1, p0, p1, rfl, rfl, rfl, h0, h1⟩ := trodAll_two hA
  obtain ⟨l0, pp0, cap0, rfl, hc0, hm0, hI0⟩ := writes_in16 (hval 0 22 v0 rfl rfl) h0
  obtain ⟨l1, pp1, cap1, rfl, hc1, hm1, hI1⟩ := writes_in16 (hval 1 22 v1 rfl rfl) h1
  exact back_true sto16 store16 of16 pp0 pp1 cap0 cap1 l0 l1 W hI0 (by omega) hI1 (by omega)

theorem storeBack_holds : Rows.StoreBackSaid :=
  OpenClaim.holds_of_wide 8 Try.f8 rfl rfl rfl rfl rfl rfl rfl ⟨rfl, rfl, rfl, rfl, rfl⟩ rfl rfl rfl rfl rfl (by kernel_rfl) Try.func8 (by kernel_rfl)
    (of_decide_eq_true (by kernel_rfl)) (by unfold Func.isWrapper; rw [if_neg (of_decide_eq_false (by kernel_rfl))]; exact ⟨rfl, rfl⟩)
    (fun os started H enc _ => storeBack_lifted os started H enc)

end Go.Proofs.Ytgbhfhnbmgkaoaa
