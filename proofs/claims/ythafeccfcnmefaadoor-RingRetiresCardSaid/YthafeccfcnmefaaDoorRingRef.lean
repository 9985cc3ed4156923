/-
  The document's own two functions of chapter 11. No conditions but those typed.
-/
import Derived.Test.YthafeccfcnmefaaDoorRingAwake
namespace Go.Proofs.YthafeccfcnmefaaDoor
open Go.RowKit TextNat

set_option maxRecDepth 100000 in
theorem ref_right (m : ByteArray) (c : Int) (w : World) (hm : m.size ≤ 9223372036854775807) : Calls Tryd.prog 8 #[.string m, .int .i64 c] w fun e w' => e = .returned (.bool (rightB m c)) ∧ w' = w := by
  obtain ⟨k, hk⟩ : ∃ k, k = m.size := ⟨_, rfl⟩
  have e1 : (m.size : Int) = (k : Int) := by omega
  have HQ := Lib.hid (show rightB m c = (decide ((0 : Int) < (k : Int)) && decide ((k : Int) < 65) && decide (0 ≤ c) && decide (c ≤ 1099511627776)) by
    unfold rightB
    rw [← hk]
    rw [Bool.eq_iff_iff]
    simp only [Bool.and_eq_true, decide_eq_true_eq]
    omega)
  have p1 : decide ((0 : Int) < (k : Int)) = decide (0 < k) := by simp
  have p2 : decide ((k : Int) < 65) = decide (k < 65) := decide_eq_decide.2 (by omega)
  rw [p1, p2] at HQ
  clear hk hm p1 p2
  cases q1 : decide (0 < k) <;> cases q2 : decide (k < 65) <;> cases q3 : decide (0 ≤ c) <;> cases q4 : decide (c ≤ 1099511627776)
  all_goals
    have r1 : decide ((0 : Int) < (k : Int)) = decide (0 < k) := by simp
    have r2 : decide ((k : Int) < 65) = decide (k < 65) := decide_eq_decide.2 (by omega)
    rw [q1] at r1
    rw [q2] at r2
    rw [q1, q2, q3, q4] at HQ
    go_enter Tryd.func8, Tryd.ntmps8
    go_wp2
    go_ret
    exact ⟨by rw [HQ.out]; rfl, rfl⟩
set_option maxRecDepth 100000 in
theorem ref_alive (c n : Int) (w : World) (hc : 0 ≤ c ∧ c ≤ 1099511627776) : Calls Tryd.prog 12 #[.int .i64 c, .int .i64 n] w fun e w' => e = .returned (.bool (aliveB c n)) ∧ w' = w := by
  have k1 : IntKind.i64.wrap (c - 2) = c - 2 := by rw [IntKind.wrap_i64]; omega
  clear hc
  unfold aliveB
  cases q1 : decide (0 ≤ n) <;> cases q2 : decide (n ≤ 1099511627776) <;> cases q3 : decide (c - 2 ≤ n)
  all_goals
    go_enter Tryd.func12, Tryd.ntmps12
    go_wp2
    go_ret
    exact ⟨rfl, rfl⟩
end Go.Proofs.YthafeccfcnmefaaDoor
