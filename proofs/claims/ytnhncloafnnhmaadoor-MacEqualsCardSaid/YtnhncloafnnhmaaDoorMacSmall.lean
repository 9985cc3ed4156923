/-
  The contracts of the small functions of mac: right, at, start. The conditions: numbers within their kinds.
-/
import Derived.Test.YtnhncloafnnhmaaDoorShaSmall
import Derived.Test.YtnhncloafnnhmaaDoorText
namespace Go.Proofs.YtnhncloafnnhmaaDoor
open Go.RowKit ShaMath TextNat

theorem rot_or (x n : Nat) (hx : x < 4294967296) (_hn : n ≤ 32) : bits .or .u32 ((x : Int) * 2 ^ (32 - n) % 4294967296) ((x : Int) / 2 ^ n) = (ShaMath.rotr x n : Nat) := by
  have h := u32_or_nat (x * 2 ^ (32 - n) % 4294967296) (x / 2 ^ n) (Nat.mod_lt _ (by decide)) (Nat.lt_of_le_of_lt (Nat.div_le_self _ _) hx)
  have e1 : (x : Int) / 2 ^ n = ((x / 2 ^ n : Nat) : Int) := by rw [Int.natCast_ediv, Int.natCast_pow]; rfl
  have e2 : (x : Int) * 2 ^ (32 - n) % 4294967296 = ((x * 2 ^ (32 - n) % 4294967296 : Nat) : Int) := by rw [Int.natCast_emod, Int.natCast_mul, Int.natCast_pow]; rfl
  rw [e1, e2, h]
  unfold ShaMath.rotr
  rw [Nat.or_comm]

theorem neg_and (n : Nat) (h0 : 0 < n) (hn : n < 32) : bits .and .u64 (IntKind.u64.wrap (-(n : Int))) 31 = ((32 - n : Nat) : Int) := by
  have e : IntKind.u64.wrap (-(n : Int)) = ((18446744073709551616 - n : Nat) : Int) := by rw [IntKind.wrap_u64]; omega
  have h := u64_and_nat (18446744073709551616 - n) 31 (by omega) (by decide)
  have h2 : (18446744073709551616 - n) &&& 31 = 32 - n := by
    rw [show (31 : Nat) = 2 ^ 5 - 1 from rfl, Nat.and_two_pow_sub_one_eq_mod]
    omega
  rw [h2] at h
  rw [e]
  exact h

theorem left_any (x n s : Nat) (w : World) (hs : s = 32 - n) (hx : x < 4294967296) (h0 : 0 < n) (hn : n < 32) :
    Calls Tryd.prog 27 #[.int .u32 (x : Int), .int .i64 (-(n : Int))] w fun e w' => e = .returned (.int .u32 (ShaMath.rotr x n : Nat)) ∧ w' = w := by
  have h1 := neg_and n h0 hn
  rw [← hs] at h1
  have hs2 : s ≤ 32 := by omega
  have h2 : ((s : Nat) : Int) ≤ 32 := by omega
  have h3 : (0 : Int) ≤ 32 - (s : Int) := by omega
  have h4 : (32 - (s : Int)).toNat = n := by omega
  have h5 := rot_or x n hx (by omega)
  have h6 : 32 - (32 - n) = n := by omega
  go_enter Tryd.func27, Tryd.ntmps27
  go_wp2
  go_ret
  exact ⟨rfl, rfl⟩

theorem right_any (x n : Nat) (m : Int) (w : World) (hm : m = (n : Int)) (hx : x < 4294967296) (h0 : 0 < n) (hn : n < 32) :
    Calls Tryd.prog 26 #[.int .u32 (x : Int), .int .i64 m] w fun e w' => e = .returned (.int .u32 (ShaMath.rotr x n : Nat)) ∧ w' = w := by
  subst hm
  have HL := Lib.hid (left_any x n _ w rfl hx h0 hn)
  go_enter Tryd.func26, Tryd.ntmps26
  go_wp2_with (go_at_call 27; refine HL.out.mono ?_; rintro e w2 ⟨rfl, rfl⟩)
  go_ret
  exact ⟨rfl, rfl⟩
/-- The byte of a text at i, 0 behind its end. -/
theorem at_any (s : ByteArray) (i : Nat) (w : World) :
    Calls Tryd.prog 23 #[.string s, .int .i64 (i : Int)] w fun e w' => e = .returned (.int .u8 ((nats s).getD i 0 : Nat)) ∧ w' = w := by
  by_cases h : i < s.size
  · have hz : (nats s).getD i 0 = (s[i]'h).toNat := by rw [List.getD_eq_getElem?_getD, nats_at s i h]; rfl
    have hx : ((s[i]'h).toNat : Int) = ((nats s).getD i 0 : Nat) := by rw [hz]
    have t1 : decide (i < s.size) = true := by simpa using h
    have t2 : decide ((i : Int) < (s.size : Int)) = true := by simpa using h
    go_enter Tryd.func23, Tryd.ntmps23
    go_wp2
    go_ret
    exact ⟨rfl, rfl⟩
  · have hz : (nats s).getD i 0 = 0 := by rw [List.getD_eq_getElem?_getD, List.getElem?_eq_none (by rw [nats_len]; omega)]; rfl
    have t1 : decide (i < s.size) = false := by simpa using h
    have t2 : decide ((i : Int) < (s.size : Int)) = false := by simpa using h
    rw [hz]
    go_enter Tryd.func23, Tryd.ntmps23
    go_wp2
    go_ret
    exact ⟨rfl, rfl⟩

end Go.Proofs.YtnhncloafnnhmaaDoor
