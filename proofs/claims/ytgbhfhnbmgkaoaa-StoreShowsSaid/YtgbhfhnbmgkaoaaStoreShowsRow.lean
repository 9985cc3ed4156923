/-
  StoreShows: of any writes it returns true and leaves them as they were. No conditions.
-/
import Derived.Test.YtgbhfhnbmgkaoaaPart01
import Derived.Test.YtgbhfhnbmgkaoaaStoreShowsLaw
import Derived.Test.YtgbhfhnbmgkaoaaPart19
import Derived.Test.YtgbhfhnbmgkaoaaStoreWhole
namespace Go.Proofs.Ytgbhfhnbmgkaoaa
open Go.ChangeShapes Go.WideShapes Go.RowKit Go.ChangeMaps

set_option maxRecDepth 100000 in
theorem storeShows_lifted (os : Os) (started : os.Started) (H : Type) (enc : TypeId × Value → H) :
    ReturnsInHanded {} Try.checked os 6 .any (fun w args => Rows.storeShowsSpec.pre enc Try.prog Try.f6 [] false w args ∧ sizedMet enc Try.prog Try.f6 (OpenSpec.ofChange Rows.storeShowsSpec) false w args)
      (Rows.storeShowsSpec.post enc Try.prog Try.f6 false true false false) := by
  refine law_lifted_plain (C := Try.checked) ownNone started (by kernel_rfl) Try.func6 rfl (by kernel_rfl) (by kernel_rfl) rfl Try.underlying4
    (ChangeSpec.witness_at (enc := enc) (C := Try.checked) (os := os) (X := fun w _ => laidMetH Try.prog [] w) false (plainWorld os) #[.slice none 0 0] 8 rfl (by kernel_rfl) (by kernel_rfl) (by kernel_rfl) (by kernel_rfl) (by kernel_rfl) (laidMet_nil _ _)) ?_ ?_
  · intro ds hd
    match ds, hd with
    | [_], _ => rfl
  intro W base args ds p hval hA
  rw [Try.params6] at hA hval
  obtain ⟨v0, d0, rfl, rfl, h0⟩ := trodAll_one hA
  obtain ⟨l0, pp0, cap0, rfl, hc0, hm0, hI0⟩ := writes_in16 (hval 0 22 v0 rfl rfl) h0
  exact shows_true sto16 store16 pp0 cap0 l0 W hI0 (by omega)

theorem storeShows_holds : Rows.StoreShowsSaid :=
  OpenClaim.holds_of_wide 6 Try.f6 rfl rfl rfl rfl rfl rfl rfl ⟨rfl, rfl, rfl, rfl, rfl⟩ rfl rfl rfl rfl rfl (by kernel_rfl) Try.func6 (by kernel_rfl)
    (of_decide_eq_true (by kernel_rfl)) (by unfold Func.isWrapper; rw [if_neg (of_decide_eq_false (by kernel_rfl))]; exact ⟨rfl, rfl⟩)
    (fun os started H enc _ => storeShows_lifted os started H enc)

end Go.Proofs.Ytgbhfhnbmgkaoaa
