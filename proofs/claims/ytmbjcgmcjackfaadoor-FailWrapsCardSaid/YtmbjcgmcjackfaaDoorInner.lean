/-
  The contracts of inner (what an error wraps) and of the deferred functions, where nothing panics.
-/
import Derived.Test.YtmbjcgmcjackfaaDoorBase
import Derived.Defers
import Derived.Recover
import Derived.RegionTactic
import Derived.ChangeAlike
import Derived.Laws.Pointers
namespace Go.Proofs.YtmbjcgmcjackfaaDoor
open Go.RowKit Go.Extern.Stop Go.Stop Go.Extern

theorem idle36 (p : Addr) (w : World) :
    CallsD Tryd.prog 36 #[.pointer (some p)] .returning w fun e u' w' => e = .returned (.tuple #[]) ∧ u' = .returning ∧ w' = w := by
  refine callsD_of_wpS Tryd.func36 rfl fun c₀ cs hu => ?_
  apply wpS_seq
  apply wpS_region
  simp [wpOpsS, go_sem, recoverD, hu, Tryd.ntmps36, Exit.thenS]
  refine wpS_cond (t := false) (by simp [Act.eval, Array.replicate]) ?_
  simp only [Bool.false_eq_true, if_false]
  refine wpS_of_wp (wp_skip ?_)
  cases c₀
  simp_all [bodyPostS, results, Tryd.results36]

theorem idle28 (p : Addr) (w : World) :
    CallsD Tryd.prog 28 #[.pointer (some p)] .returning w fun e u' w' => e = .returned (.tuple #[]) ∧ u' = .returning ∧ w' = w := by
  refine callsD_of_wpS Tryd.func28 rfl fun c₀ cs hu => ?_
  apply wpS_seq
  apply wpS_region
  simp [wpOpsS, go_sem, recoverD, hu, Tryd.ntmps28, Exit.thenS]
  refine wpS_cond (t := false) (by simp [Act.eval, Array.replicate]) ?_
  simp only [Bool.false_eq_true, if_false]
  refine wpS_of_wp (wp_skip ?_)
  cases c₀
  simp_all [bodyPostS, results, Tryd.results28]

theorem ta35_73 (v : Value) (w : World) : (Instr.typeAssert (.iface 35 v) 25 73 true).run Tryd.prog w = .ok (.tuple #[.nilIface, .bool false]) w :=
  run_typeAssert_lacksB Tryd.underlying73 (by kernel_rfl) (by kernel_rfl) v 25 w
theorem ta35_74 (v : Value) (w : World) : (Instr.typeAssert (.iface 35 v) 25 74 true).run Tryd.prog w = .ok (.tuple #[.nilIface, .bool false]) w :=
  run_typeAssert_lacksB Tryd.underlying74 (by kernel_rfl) (by kernel_rfl) v 25 w
theorem ta42_73 (v : Value) (w : World) : (Instr.typeAssert (.iface 42 v) 25 73 true).run Tryd.prog w = .ok (.tuple #[.iface 42 v, .bool true]) w :=
  run_typeAssert_hasB Tryd.underlying73 (by kernel_rfl) v 25 w
theorem ta60_73 (v : Value) (w : World) : (Instr.typeAssert (.iface 60 v) 25 73 true).run Tryd.prog w = .ok (.tuple #[.nilIface, .bool false]) w :=
  run_typeAssert_lacksB Tryd.underlying73 (by kernel_rfl) (by kernel_rfl) v 25 w
theorem ta60_74 (v : Value) (w : World) : (Instr.typeAssert (.iface 60 v) 25 74 true).run Tryd.prog w = .ok (.tuple #[.iface 60 v, .bool true]) w :=
  run_typeAssert_hasB Tryd.underlying74 (by kernel_rfl) v 25 w
theorem hmf (fn : Fn) (first cap : Array Value) (w : World) : (Instr.makeFunc fn first cap).run Tryd.prog w = .ok (.func fn first cap) w := rfl

theorem inner_code (c : Int) (w : World) :
    Calls Tryd.prog 31 #[.iface 35 (.int .i64 c)] w fun e w' => e = .returned (.slice none 0 0) ∧ Below w.heap.size w w' := by
  have h1 := ta35_73
  have h2 := ta35_74
  have h3 := hmf
  go_enter_defers Tryd.func31, Tryd.ntmps31
  go_wp2
  refine leaves_cons (f := 36) (args := #[.pointer (some ⟨w.heap.size, 0, none⟩)]) (by simp) (by simp [go_sem]) ?_
  refine (idle36 ⟨w.heap.size, 0, none⟩ _).mono ?_
  rintro e u' w'' ⟨rfl, rfl, rfl⟩
  simp [Leaves, settle, results, Tryd.results31, go_sem]
  go_grown

theorem inner_place_some (b : Nat) (T : TypeId) (x : Value) (w : World) (hb : w.cell? ⟨b, 2, none⟩ = some (.iface T x)) :
    Calls Tryd.prog 31 #[.iface 42 (.pointer (some ⟨b, 0, none⟩))] w fun e w' => e = .returned (.slice (some ⟨w.heap.size + 1, 0, none⟩) 1 1) ∧ w'.cell? ⟨w.heap.size + 1, 0, none⟩ = some (.iface T x) ∧ w'.heap.size = w.heap.size + 2 ∧ Below w.heap.size w w' := by
  have h1 := ta42_73
  have h3 := hmf
  have hlt : b < w.heap.size := by
    rcases Nat.lt_or_ge b w.heap.size with h | h
    · exact h
    · simp [World.cell?, Array.getElem?_eq_none h] at hb
  go_enter_defers Tryd.func31, Tryd.ntmps31
  go_wp2
  refine leaves_cons (f := 36) (args := #[.pointer (some ⟨w.heap.size, 0, none⟩)]) (by simp) (by simp [go_sem]) ?_
  refine (idle36 ⟨w.heap.size, 0, none⟩ _).mono ?_
  rintro e u' w'' ⟨rfl, rfl, rfl⟩
  simp [Leaves, settle, results, Tryd.results31, go_sem]
  go_grown

theorem inner_place_none (b : Nat) (w : World) (hb : w.cell? ⟨b, 2, none⟩ = some Value.nilIface) :
    Calls Tryd.prog 31 #[.iface 42 (.pointer (some ⟨b, 0, none⟩))] w fun e w' => e = .returned (.slice (some ⟨w.heap.size + 1, 0, none⟩) 1 1) ∧ w'.cell? ⟨w.heap.size + 1, 0, none⟩ = some Value.nilIface ∧ w'.heap.size = w.heap.size + 2 ∧ Below w.heap.size w w' := by
  have h1 := ta42_73
  have h3 := hmf
  have hlt : b < w.heap.size := by
    rcases Nat.lt_or_ge b w.heap.size with h | h
    · exact h
    · simp [World.cell?, Array.getElem?_eq_none h] at hb
  go_enter_defers Tryd.func31, Tryd.ntmps31
  go_wp2
  refine leaves_cons (f := 36) (args := #[.pointer (some ⟨w.heap.size, 0, none⟩)]) (by simp) (by simp [go_sem]) ?_
  refine (idle36 ⟨w.heap.size, 0, none⟩ _).mono ?_
  rintro e u' w'' ⟨rfl, rfl, rfl⟩
  simp [Leaves, settle, results, Tryd.results31, go_sem]
  go_grown


theorem pair_unwrap (b : Nat) (T U : TypeId) (x y : Value) (w : World) (h0 : w.cell? ⟨b, 0, none⟩ = some (.iface T x)) (hb : w.cell? ⟨b, 1, none⟩ = some (.iface U y)) :
    Calls Tryd.prog 59 #[.pointer (some ⟨b, 0, none⟩)] w fun e w' => e = .returned (.slice (some ⟨w.heap.size, 0, none⟩) 2 2) ∧ w' = (w.alloc (.cells #[.iface T x, .iface U y] 25)).drew := by
  go_enter Tryd.func59, Tryd.ntmps59
  go_wp2
  go_region
  all_goals (go_wp2; go_ret; exact ⟨rfl, rfl⟩)

theorem inner_pair (b : Nat) (T U : TypeId) (x y : Value) (w : World) (h0 : w.cell? ⟨b, 0, none⟩ = some (.iface T x)) (hb : w.cell? ⟨b, 1, none⟩ = some (.iface U y)) :
    Calls Tryd.prog 31 #[.iface 60 (.pointer (some ⟨b, 0, none⟩))] w fun e w' => e = .returned (.slice (some ⟨w.heap.size + 1, 0, none⟩) 2 2) ∧ w'.cell? ⟨w.heap.size + 1, 0, none⟩ = some (.iface T x) ∧ w'.cell? ⟨w.heap.size + 1, 1, none⟩ = some (.iface U y) ∧ w'.heap.size = w.heap.size + 2 ∧ Below w.heap.size w w' := by
  have h1 := ta60_73
  have h2 := ta60_74
  have h3 := hmf
  have hlt : b < w.heap.size := by
    rcases Nat.lt_or_ge b w.heap.size with h | h
    · exact h
    · simp [World.cell?, Array.getElem?_eq_none h] at hb
  have g0 : (w.alloc (.cells #[.slice none 0 0] 75)).cell? ⟨b, 0, none⟩ = some (.iface T x) := by rw [World.cell?_alloc_lt _ _ ⟨b, 0, none⟩ hlt]; exact h0
  have g1 : (w.alloc (.cells #[.slice none 0 0] 75)).cell? ⟨b, 1, none⟩ = some (.iface U y) := by rw [World.cell?_alloc_lt _ _ ⟨b, 1, none⟩ hlt]; exact hb
  go_enter_defers Tryd.func31, Tryd.ntmps31
  go_wp2_with (go_at_call 59; refine (pair_unwrap b T U x y _ g0 g1).mono ?_; rintro e w' ⟨rfl, rfl⟩)
  refine leaves_cons (f := 36) (args := #[.pointer (some ⟨w.heap.size, 0, none⟩)]) (by simp) (by simp [go_sem]) ?_
  refine (idle36 ⟨w.heap.size, 0, none⟩ _).mono ?_
  rintro e u' w'' ⟨rfl, rfl, rfl⟩
  simp [Leaves, settle, results, Tryd.results31, go_sem]
  go_grown
end Go.Proofs.YtmbjcgmcjackfaaDoor
