/-
  StoreSweeps: of any writes and floor it returns true and leaves them as they were. No conditions.
-/
import Derived.Test.YtgbhfhnbmgkaoaaPart01
import Derived.Test.YtgbhfhnbmgkaoaaStoreSweepsLaw
import Derived.Test.YtgbhfhnbmgkaoaaPart19
import Derived.Test.YtgbhfhnbmgkaoaaStoreWhole
namespace Go.Proofs.Ytgbhfhnbmgkaoaa
open Go.ChangeShapes Go.WideShapes Go.RowKit Go.ChangeMaps

set_option maxRecDepth 100000 in
theorem storeSweeps_lifted (os : Os) (started : os.Started) (H : Type) (enc : TypeId × Value → H) :
    ReturnsInHanded {} Try.checked os 5 .any (fun w args => Rows.storeSweepsSpec.pre enc Try.prog Try.f5 [] false w args ∧ sizedMet enc Try.prog Try.f5 (OpenSpec.ofChange Rows.storeSweepsSpec) false w args)
      (Rows.storeSweepsSpec.post enc Try.prog Try.f5 false true false false) := by
  refine law_lifted_plain (C := Try.checked) ownNone started (by kernel_rfl) Try.func5 rfl (by kernel_rfl) (by kernel_rfl) rfl Try.underlying4
    (ChangeSpec.witness_at (enc := enc) (C := Try.checked) (os := os) (X := fun w _ => laidMetH Try.prog [] w) false (plainWorld os) #[.slice none 0 0, .slice none 0 0, .int .i64 0] 8 rfl (by kernel_rfl) (by kernel_rfl) (by kernel_rfl) (by kernel_rfl) (by kernel_rfl) (laidMet_nil _ _)) ?_ ?_
  · intro ds hd
    match ds, hd with
    | [_, _, _], _ => rfl
  intro W base args ds p hval hA
  rw [Try.params5] at hA hval
  obtain ⟨v0, v1, v2, d0, d1, d2, p0, p1, p2, rfl, rfl, rfl, h0, h1, h2⟩ := trodAll_three hA
  obtain ⟨l0, pp0, cap0, rfl, hc0, hm0, hI0⟩ := writes_in16 (hval 0 22 v0 rfl rfl) h0
  obtain ⟨l1, pp1, cap1, rfl, hc1, hm1, hI1⟩ := writes_in16 (hval 1 22 v1 rfl rfl) h1
  obtain ⟨n2, rfl, _, _, w2⟩ := open_int Try.underlying3 (hval 2 3 v2 rfl rfl) h2
  exact sweeps_true sto16 store16 sweep16 pp0 pp1 cap0 cap1 l0 l1 n2 W hI0 (by omega) hI1 (by omega)

theorem storeSweeps_holds : Rows.StoreSweepsSaid :=
  OpenClaim.holds_of_wide 5 Try.f5 rfl rfl rfl rfl rfl rfl rfl ⟨rfl, rfl, rfl, rfl, rfl⟩ rfl rfl rfl rfl rfl (by kernel_rfl) Try.func5 (by kernel_rfl)
    (of_decide_eq_true (by kernel_rfl)) (by unfold Func.isWrapper; rw [if_neg (of_decide_eq_false (by kernel_rfl))]; exact ⟨rfl, rfl⟩)
    (fun os started H enc _ => storeSweeps_lifted os started H enc)

end Go.Proofs.Ytgbhfhnbmgkaoaa
