/-
  The contracts of first and Trail where there is no error: nothing is found. No conditions.
-/
import Derived.Test.YtmbjcgmcjackfaaDoorEnds
namespace Go.Proofs.YtmbjcgmcjackfaaDoor
open Go.RowKit Go.Extern.Stop Go.Stop Go.Extern

theorem through_null (pb : Nat) (n : Int) (w : World) (hw : Walk pb 30 n w) :
    Calls Tryd.prog 27 #[.pointer (some ⟨pb, 0, none⟩), .nilIface, .int .i64 0] w fun e w' => Thru pb 30 w e true w' := by
  go_enter Tryd.func27, Tryd.ntmps27
  go_wp2
  refine wp_loop_rounds 1 ?_
  rw [rounds_succ]
  go_wp2
  go_ret
  exact ⟨rfl, ⟨_, hw⟩, But.refl _ _⟩

theorem ends_null (w : World) :
    Calls Tryd.prog 19 #[.nilIface, .func (.func 30) #[] #[]] w fun e w' => e = .returned (.bool true) ∧ Below w.heap.size w w' :=
  ends_any 30 true _ w fun w0 _ hW => through_null w.heap.size _ w0 hW

theorem As_null (t : Value) (w : World) : Calls Tryd.prog 29 #[.nilIface, t] w fun e w' => e = .returned (.bool false) ∧ w' = w := by
  go_enter Tryd.func29, Tryd.ntmps29
  go_wp2
  go_ret
  exact ⟨rfl, rfl⟩

theorem as_null (t : Value) (w : World) : Calls Tryd.prog 21 #[.nilIface, t] w fun e w' => e = .returned (.bool false) ∧ Below w.heap.size w w' := by
  have h3 := hmf
  go_enter_defers Tryd.func21, Tryd.ntmps21
  go_wp2_with (go_at_call 29; refine (As_null t _).mono ?_; rintro e w3 ⟨rfl, rfl⟩)
  refine leaves_cons (f := 28) (args := #[.pointer (some ⟨w.heap.size, 0, none⟩)]) (by simp) (by simp [go_sem]) ?_
  refine (idle28 ⟨w.heap.size, 0, none⟩ _).mono ?_
  rintro e u' w'' ⟨rfl, rfl, rfl⟩
  simp [Leaves, settle, results, Tryd.results21, go_sem]
  go_grown

theorem first_null (w : World) :
    Calls Tryd.prog 22 #[.nilIface] w fun e w' => e = .returned (.tuple #[.pointer none, .bool false]) ∧ Below w.heap.size w w' := by
  have hB : Below w.heap.size w (w.alloc (.cells #[.pointer none] 42)) := (Below.refl _ _).alloc (Nat.le_refl _) _
  go_enter Tryd.func22, Tryd.ntmps22
  go_wp2_with (go_at_call 19; refine (ends_null _).mono ?_; rintro e w1 ⟨rfl, hb1⟩)
  go_wp2_with (go_at_call 21; refine (as_null _ _).mono ?_; rintro e w2 ⟨rfl, hb2⟩)
  go_ret2
  exact ⟨rfl, hB.trans ((hb1.trans (hb2.mono hb1.size)).mono hB.size)⟩

theorem trail_none (w : World) :
    Calls Tryd.prog 9 #[.nilIface] w fun e w' => e = .returned (.slice none 0 0) ∧ Below w.heap.size w w' := by
  go_enter Tryd.func9, Tryd.ntmps9
  go_wp2
  refine wp_loop_rounds 1 ?_
  rw [rounds_succ]
  go_wp2_with (go_at_call 22; refine (first_null _).mono ?_; rintro e w2 ⟨rfl, hb2⟩)
  go_ret
  exact ⟨rfl, hb2⟩
end Go.Proofs.YtmbjcgmcjackfaaDoor
