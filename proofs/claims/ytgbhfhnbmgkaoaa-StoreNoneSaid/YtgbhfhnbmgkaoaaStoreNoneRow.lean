/-
  StoreNone: of any write and floor it returns true and leaves them as they were. No conditions.
-/
import Derived.Test.YtgbhfhnbmgkaoaaPart01
import Derived.Test.YtgbhfhnbmgkaoaaStoreNone
import Derived.Test.YtgbhfhnbmgkaoaaPart24
import Derived.Test.YtgbhfhnbmgkaoaaPart19
import Derived.Test.YtgbhfhnbmgkaoaaStoreWhole
namespace Go.Proofs.Ytgbhfhnbmgkaoaa
open Go.ChangeShapes Go.WideShapes Go.RowKit Go.ChangeMaps

set_option maxRecDepth 100000 in
theorem storeNone_lifted (os : Os) (started : os.Started) (H : Type) (enc : TypeId × Value → H) :
    ReturnsInHanded {} Try.checked os 7 .any (fun w args => Rows.storeNoneSpec.pre enc Try.prog Try.f7 [] false w args ∧ sizedMet enc Try.prog Try.f7 (OpenSpec.ofChange Rows.storeNoneSpec) false w args)
      (Rows.storeNoneSpec.post enc Try.prog Try.f7 false true false false) := by
  refine law_lifted_sized_plain (C := Try.checked) ownNone started (by kernel_rfl) Try.func7 rfl (by kernel_rfl) (by kernel_rfl) rfl Try.underlying4
    (ChangeSpec.witness_at (enc := enc) (C := Try.checked) (os := os) (X := fun w _ => laidMetH Try.prog [] w) false (plainWorld os) #[.agg #[.int .i64 0, .int .i64 0, .int .i64 0, .int .i64 0, .slice none 0 0, .string ⟨#[]⟩, .string ⟨#[]⟩, .string ⟨#[]⟩, .bool false, .int .i64 0], .int .i64 0] 8 rfl (by kernel_rfl) (by kernel_rfl) (by kernel_rfl) (by kernel_rfl) (by kernel_rfl) (laidMet_nil _ _)) ?_ ?_
  · intro ds hd
    match ds, hd with
    | [_, _], _ => rfl
  intro W base args ds p hval hA hsz
  rw [Try.params7] at hA hval hsz
  obtain ⟨v0, v1, d0, d1, p0, p1, rfl, rfl, rfl, h0, h1⟩ := trodAll_two hA
  obtain ⟨x, rfl, hz, _, _, _, _⟩ := open_write (hval 0 36 v0 rfl rfl) h0
  obtain ⟨n1, rfl, _, _, w1⟩ := open_int Try.underlying3 (hval 1 3 v1 rfl rfl) h1
  exact none16 sto16 store16 none16Ok x n1 W hz (by have := session_sized h0 hsz (j := 0) rfl rfl; omega)

theorem storeNone_holds : Rows.StoreNoneSaid :=
  OpenClaim.holds_of_wide 7 Try.f7 rfl rfl rfl rfl rfl rfl rfl ⟨rfl, rfl, rfl, rfl, rfl⟩ rfl rfl rfl rfl rfl (by kernel_rfl) Try.func7 (by kernel_rfl)
    (of_decide_eq_true (by kernel_rfl)) (by unfold Func.isWrapper; rw [if_neg (of_decide_eq_false (by kernel_rfl))]; exact ⟨rfl, rfl⟩)
    (fun os started H enc _ => storeNone_lifted os started H enc)

end Go.Proofs.Ytgbhfhnbmgkaoaa
