/-
  The contracts of the small functions of the document's own answer of chapter 3: rotr, Number, constants. The conditions: numbers within their kinds; at most eight bytes.
-/
import Derived.Test.YthafeccfcnmefaaDoorProg
import Derived.Test.YthafeccfcnmefaaDoorShaMath
import Derived.Laws.BitsAllLaws
import Derived.WalkKit
import Derived.Handy
import Derived.Outline
import Derived.Lib.Hide
import Derived.OwnWalk
import Derived.Deep.LoopGhost
namespace Go.Proofs.YthafeccfcnmefaaDoor
open Go.RowKit

/-- A word turned to the right. -/
def rot (x : Int) (n : Nat) : Int := bits .or .u32 (x / 2 ^ n) (x * 2 ^ (32 - n) % 4294967296)

theorem rotr_any (x : Int) (n : Nat) (w : World) (hn : n ≤ 32) :
    Calls Tryd.prog 32 #[.int .u32 x, .int .u64 (n : Int)] w fun e w' => e = .returned (.int .u32 (rot x n)) ∧ w' = w := by
  have h2 : (n : Int) ≤ 32 := by omega
  go_enter Tryd.func32, Tryd.ntmps32
  go_wp2
  go_ret
  exact ⟨rfl, rfl⟩

theorem make4 (w : World) : (Instr.makeSlice 51 (.int .i64 4) (.int .i64 4)).run Tryd.prog w = .ok (.slice (some ⟨w.heap.size, 0, none⟩) 4 4) (w.alloc (.cells #[.int .u8 0, .int .u8 0, .int .u8 0, .int .u8 0] 5)) := by kernel_rfl
theorem make8 (w : World) : (Instr.makeSlice 51 (.int .i64 8) (.int .i64 8)).run Tryd.prog w = .ok (.slice (some ⟨w.heap.size, 0, none⟩) 8 8) (w.alloc (.cells #[.int .u8 0, .int .u8 0, .int .u8 0, .int .u8 0, .int .u8 0, .int .u8 0, .int .u8 0, .int .u8 0] 5)) := by kernel_rfl

theorem number_four (n : Int) (w : World) (h0 : 0 ≤ n) (h1 : n ≤ 18446744073709551615) :
    Calls Tryd.prog 22 #[.int .u64 n, .int .i64 4] w fun e w' => e = .returned (.slice (some ⟨w.heap.size, 0, none⟩) 4 4) ∧ w' = w.alloc (.cells #[.int .u8 (n / 256 / 256 / 256 % 256), .int .u8 (n / 256 / 256 % 256), .int .u8 (n / 256 % 256), .int .u8 (n % 256)] 5) := by
  have hm := make4
  have q1 : 0 ≤ n / 256 ∧ n / 256 ≤ 18446744073709551615 := by omega
  have q2 : 0 ≤ n / 256 / 256 ∧ n / 256 / 256 ≤ 18446744073709551615 := by omega
  have q3 : 0 ≤ n / 256 / 256 / 256 ∧ n / 256 / 256 / 256 ≤ 18446744073709551615 := by omega
  go_enter Tryd.func22, Tryd.ntmps22
  go_wp2
  go_rounds 5
  go_ret
  exact ⟨rfl, rfl⟩

theorem number_eight (n : Int) (w : World) (h0 : 0 ≤ n) (h1 : n ≤ 18446744073709551615) :
    Calls Tryd.prog 22 #[.int .u64 n, .int .i64 8] w fun e w' => e = .returned (.slice (some ⟨w.heap.size, 0, none⟩) 8 8) ∧
      w' = w.alloc (.cells #[.int .u8 (n / 256 / 256 / 256 / 256 / 256 / 256 / 256 % 256), .int .u8 (n / 256 / 256 / 256 / 256 / 256 / 256 % 256), .int .u8 (n / 256 / 256 / 256 / 256 / 256 % 256), .int .u8 (n / 256 / 256 / 256 / 256 % 256), .int .u8 (n / 256 / 256 / 256 % 256), .int .u8 (n / 256 / 256 % 256), .int .u8 (n / 256 % 256), .int .u8 (n % 256)] 5) := by
  have hm := make8
  have q1 : 0 ≤ n / 256 ∧ n / 256 ≤ 18446744073709551615 := by omega
  have q2 : 0 ≤ n / 256 / 256 ∧ n / 256 / 256 ≤ 18446744073709551615 := by omega
  have q3 : 0 ≤ n / 256 / 256 / 256 ∧ n / 256 / 256 / 256 ≤ 18446744073709551615 := by omega
  have q4 : 0 ≤ n / 256 / 256 / 256 / 256 ∧ n / 256 / 256 / 256 / 256 ≤ 18446744073709551615 := by omega
  have q5 : 0 ≤ n / 256 / 256 / 256 / 256 / 256 ∧ n / 256 / 256 / 256 / 256 / 256 ≤ 18446744073709551615 := by omega
  have q6 : 0 ≤ n / 256 / 256 / 256 / 256 / 256 / 256 ∧ n / 256 / 256 / 256 / 256 / 256 / 256 ≤ 18446744073709551615 := by omega
  have q7 : 0 ≤ n / 256 / 256 / 256 / 256 / 256 / 256 / 256 ∧ n / 256 / 256 / 256 / 256 / 256 / 256 / 256 ≤ 18446744073709551615 := by omega
  go_enter Tryd.func22, Tryd.ntmps22
  go_wp2
  go_rounds 9
  go_ret
  exact ⟨rfl, rfl⟩

def kCells : Array Value := (ShaMath.ks.map fun (k : Nat) => Value.int .u32 (k : Int)).toArray
theorem constants_any (w : World) :
    Calls Tryd.prog 31 #[] w fun e w' => e = .returned (.slice (some ⟨w.heap.size, 0, none⟩) 64 64) ∧ w' = w.alloc (.cells kCells 72) := by
  go_enter Tryd.func31, Tryd.ntmps31
  go_wp2
  go_ret
  exact ⟨rfl, rfl⟩
/-- rotr over numbers below 2^32. -/
theorem rotr_nat (x n : Nat) (m : Int) (w : World) (hm : m = (n : Int)) (hx : x < 4294967296) (hn : n ≤ 32) :
    Calls Tryd.prog 32 #[.int .u32 (x : Int), .int .u64 m] w fun e w' => e = .returned (.int .u32 (ShaMath.rotr x n : Nat)) ∧ w' = w := by
  subst hm
  have e : rot (x : Int) n = (ShaMath.rotr x n : Nat) := by
    have h := u32_or_nat (x / 2 ^ n) (x * 2 ^ (32 - n) % 4294967296) (Nat.lt_of_le_of_lt (Nat.div_le_self _ _) hx) (Nat.mod_lt _ (by decide))
    have e1 : (x : Int) / 2 ^ n = ((x / 2 ^ n : Nat) : Int) := by rw [Int.natCast_ediv, Int.natCast_pow]; rfl
    have e2 : (x : Int) * 2 ^ (32 - n) % 4294967296 = ((x * 2 ^ (32 - n) % 4294967296 : Nat) : Int) := by rw [Int.natCast_emod, Int.natCast_mul, Int.natCast_pow]; rfl
    unfold rot ShaMath.rotr
    rw [← h, e1, e2]
  have h := rotr_any (x : Int) n w hn
  rw [e] at h
  exact h
end Go.Proofs.YthafeccfcnmefaaDoor
