/-
  The contracts of crc.Four, crc.Of and of the law's example ("123456789" has the sum that the chapter says). The condition: the two tables hold what the program's text lays there.
-/
import Derived.Test.YtldimmpdjcgbeaaDoorCrcSum
import Derived.Lib.SlBytesConst
namespace Go.Proofs.YtldimmpdjcgbeaaDoor
open Go.RowKit CrcMath

set_option maxRecDepth 100000 in
theorem example_sum : sum [49, 50, 51, 52, 53, 54, 55, 56, 57] = 3808858755 := by decide

theorem cell_marked (w : World) (C : Array Value) (e : TypeId) (fr : Nat × Nat) (i : Nat) (v : Value) (h : C[i]? = some v) : (w.alloc (.cells C e fr)).cell? ⟨w.heap.size, i, none⟩ = some v := by
  have hh : (w.alloc (.cells C e fr)).heap[w.heap.size]? = some (.cells C e fr) := by
    show (w.heap.push _)[w.heap.size]? = _
    simp
  unfold World.cell?
  rw [hh]
  exact h
theorem example_bytes (w : World) : Bytes (w.alloc (.cells #[.int .u8 49, .int .u8 50, .int .u8 51, .int .u8 52, .int .u8 53, .int .u8 54, .int .u8 55, .int .u8 56, .int .u8 57] 5 (9, 10))) (some ⟨w.heap.size, 0, none⟩) [49, 50, 51, 52, 53, 54, 55, 56, 57] := by
  intro i z hz
  have hi : i < 9 := (List.getElem?_eq_some_iff.1 hz).1
  have : i = 0 ∨ i = 1 ∨ i = 2 ∨ i = 3 ∨ i = 4 ∨ i = 5 ∨ i = 6 ∨ i = 7 ∨ i = 8 := by omega
  rcases this with rfl | rfl | rfl | rfl | rfl | rfl | rfl | rfl | rfl <;> (obtain rfl := Option.some.inj hz; exact ⟨by decide, _, _, rfl, cell_marked w _ _ _ _ _ rfl⟩)

set_option maxHeartbeats 4000000 in
theorem awake_true (w : World) (hT : Tables w) : Calls Tryd.prog 7 #[] w fun e w' => e = .returned (.bool true) ∧ Below w.heap.size w w' := by
  have hB := (Below.refl w.heap.size w).alloc (Nat.le_refl _) (.cells #[.int .u8 49, .int .u8 50, .int .u8 51, .int .u8 52, .int .u8 53, .int .u8 54, .int .u8 55, .int .u8 56, .int .u8 57] 5 (9, 10))
  have hS := sum_walk [49, 50, 51, 52, 53, 54, 55, 56, 57] (some ⟨w.heap.size, 0, none⟩) 9 _ (by decide) (example_bytes w) (hT.grown hB)
  rw [show ([49, 50, 51, 52, 53, 54, 55, 56, 57] : List Nat).length = 9 from rfl] at hS
  have HS := Lib.hid hS
  have HB := Lib.hid hB
  have kc := fun (w : World) (C : Array Value) (n c : Nat) => Lib.run_convert_bytes_const (P := Tryd.prog) w 22 5 C n c Tryd.underlying22 Tryd.underlying5
  clear hB hT hS
  go_enter Tryd.func7, Tryd.ntmps7
  go_wp2_with (go_at_call 8; refine HS.out.mono ?_; rintro e w3 ⟨rfl, m, rfl⟩)
  go_ret
  refine ⟨?_, ?_⟩
  · rw [example_sum]; rfl
  · exact ⟨HB.out.os, HB.out.tape, HB.out.output, HB.out.size, HB.out.block⟩

/-- The four bytes of a number, the lowest first. -/
def four (s : Nat) : List Nat := [s % 256, s / 256 % 256, s / 65536 % 256, s / 16777216 % 256]
def fourVal (s : Nat) : Value := .agg #[.int .u8 (s % 256 : Nat), .int .u8 (s / 256 % 256 : Nat), .int .u8 (s / 65536 % 256 : Nat), .int .u8 (s / 16777216 % 256 : Nat)]

set_option maxHeartbeats 4000000 in
theorem four_walk (s : Nat) (w : World) (hs : s < 4294967296) :
    Calls Tryd.prog 11 #[.int .u32 (s : Int)] w fun e w' => e = .returned (fourVal s) ∧ Below w.heap.size w w' := by
  go_enter Tryd.func11, Tryd.ntmps11
  go_wp2
  go_returns
  refine ⟨?_, ((Below.refl _ _).alloc (Nat.le_refl _) _)⟩
  have e1 : ((s % 256 : Nat) : Int) = (s : Int) % 256 := by omega
  have e2 : ((s / 256 % 256 : Nat) : Int) = (s : Int) / 256 % 256 := by omega
  have e3 : ((s / 65536 % 256 : Nat) : Int) = (s : Int) / 65536 % 256 := by omega
  have e4 : ((s / 16777216 % 256 : Nat) : Int) = (s : Int) / 16777216 := by omega
  unfold fourVal
  rw [e1, e2, e3, e4]

/-- The number of four bytes, the lowest first. -/
def ofFour (a b c d : Nat) : Nat := a + 256 * b + 65536 * c + 16777216 * d
theorem or_far (i a b : Nat) (ha : a < 2 ^ i) : a ||| b * 2 ^ i = a + b * 2 ^ i := by
  have := Nat.two_pow_add_eq_or_of_lt ha b
  rw [Nat.mul_comm] at this
  rw [Nat.or_comm, ← this, Nat.add_comm]
theorem or_text (a b c d : Nat) (ha : a < 256) (hb : b < 256) (hc : c < 256) (hd : d < 256) :
    bits BinOp.or IntKind.u32 (bits BinOp.or IntKind.u32 (bits BinOp.or IntKind.u32 (a : Int) ((b : Int) * 256)) ((c : Int) * 65536)) ((d : Int) * 16777216) = ((ofFour a b c d : Nat) : Int) := by
  have e1 := u32_or_nat a (b * 256) (by omega) (by omega)
  rw [or_far 8 a b (by omega)] at e1
  have e2 := u32_or_nat (a + b * 2 ^ 8) (c * 65536) (by omega) (by omega)
  rw [or_far 16 (a + b * 2 ^ 8) c (by omega)] at e2
  have e3 := u32_or_nat (a + b * 2 ^ 8 + c * 2 ^ 16) (d * 16777216) (by omega) (by omega)
  rw [or_far 24 (a + b * 2 ^ 8 + c * 2 ^ 16) d (by omega)] at e3
  have f1 : (b : Int) * 256 = ((b * 256 : Nat) : Int) := by omega
  have f2 : (c : Int) * 65536 = ((c * 65536 : Nat) : Int) := by omega
  have f3 : (d : Int) * 16777216 = ((d * 16777216 : Nat) : Int) := by omega
  rw [f1, f2, f3, e1, e2, e3]
  unfold ofFour
  omega
set_option maxHeartbeats 4000000 in
theorem of_walk (a b c d : Nat) (w : World) (ha : a < 256) (hb : b < 256) (hc : c < 256) (hd : d < 256) :
    Calls Tryd.prog 13 #[.agg #[.int .u8 (a : Int), .int .u8 (b : Int), .int .u8 (c : Int), .int .u8 (d : Int)]] w fun e w' => e = .returned (.int .u32 (ofFour a b c d : Nat)) ∧ Below w.heap.size w w' := by
  go_enter Tryd.func13, Tryd.ntmps13
  go_wp2
  go_returns
  refine ⟨?_, ((Below.refl _ _).alloc (Nat.le_refl _) _)⟩
  rw [← or_text a b c d ha hb hc hd]
  rfl
end Go.Proofs.YtldimmpdjcgbeaaDoor
