/-
  The contracts of the small functions of mac: right, at, start. The conditions: numbers within their kinds.
-/
import Derived.Test.YthafeccfcnmefaaDoorShaSmall
import Derived.Test.YthafeccfcnmefaaDoorText
namespace Go.Proofs.YthafeccfcnmefaaDoor
open Go.RowKit ShaMath TextNat

theorem rot_or (x n : Nat) (hx : x < 4294967296) (_hn : n ≤ 32) : bits .or .u32 ((x : Int) * 2 ^ (32 - n) % 4294967296) ((x : Int) / 2 ^ n) = (ShaMath.rotr x n : Nat) := by
  have h := u32_or_nat (x * 2 ^ (32 - n) % 4294967296) (x / 2 ^ n) (Nat.mod_lt _ (by decide)) (Nat.lt_of_le_of_lt (Nat.div_le_self _ _) hx)
  have e1 : (x : Int) / 2 ^ n = ((x / 2 ^ n : Nat) : Int) := by rw [Int.natCast_ediv, Int.natCast_pow]; rfl
  have e2 : (x : Int) * 2 ^ (32 - n) % 4294967296 = ((x * 2 ^ (32 - n) % 4294967296 : Nat) : Int) := by rw [Int.natCast_emod, Int.natCast_mul, Int.natCast_pow]; rfl
  rw [e1, e2, h]
  unfold ShaMath.rotr
  rw [Nat.or_comm]

theorem neg_and (n : Nat) (h0 : 0 < n) (hn : n < 32) : bits .and .u64 (IntKind.u64.wrap (-(n : Int))) 31 = ((32 - n : Nat) : Int) := by
  have e : IntKind.u64.wrap (-(n : Int)) = ((18446744073709551616 - n : Nat) : Int) := by rw [IntKind.wrap_u64]; omega
  have h := u64_and_nat (18446744073709551616 - n) 31 (by omega) (by decide)
  have h2 : (18446744073709551616 - n) &&& 31 = 32 - n := by
    rw [show (31 : Nat) = 2 ^ 5 - 1 from rfl, Nat.and_two_pow_sub_one_eq_mod]
    omega
  rw [h2] at h
  rw [e]
  exact h

theorem left_any (x n s : Nat) (w : World) (hs : s = 32 - n) (hx : x < 4294967296) (h0 : 0 < n) (hn : n < 32) :
    Calls Tryd.prog 37 #[.int .u32 (x : Int), .int .i64 (-(n : Int))] w fun e w' => e = .returned (.int .u32 (ShaMath.rotr x n : Nat)) ∧ w' = w := by
  have h1 := neg_and n h0 hn
  rw [← hs] at h1
  have hs2 : s ≤ 32 := by omega
  have h2 : ((s : Nat) : Int) ≤ 32 := by omega
  have h3 : (0 : Int) ≤ 32 - (s : Int) := by omega
  have h4 : (32 - (s : Int)).toNat = n := by omega
  have h5 := rot_or x n hx (by omega)
  have h6 : 32 - (32 - n) = n := by omega
  go_enter Tryd.func37, Tryd.ntmps37
  go_wp2
  go_ret
  exact ⟨rfl, rfl⟩

theorem right_any (x n : Nat) (m : Int) (w : World) (hm : m = (n : Int)) (hx : x < 4294967296) (h0 : 0 < n) (hn : n < 32) :
    Calls Tryd.prog 36 #[.int .u32 (x : Int), .int .i64 m] w fun e w' => e = .returned (.int .u32 (ShaMath.rotr x n : Nat)) ∧ w' = w := by
  subst hm
  have HL := Lib.hid (left_any x n _ w rfl hx h0 hn)
  go_enter Tryd.func36, Tryd.ntmps36
  go_wp2_with (go_at_call 37; refine HL.out.mono ?_; rintro e w2 ⟨rfl, rfl⟩)
  go_ret
  exact ⟨rfl, rfl⟩
end Go.Proofs.YthafeccfcnmefaaDoor
