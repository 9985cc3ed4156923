/-
  The contract of chapter 3's law MacEquals: of any two texts it answers true; old memory is as it was. The conditions: texts of fewer than 2^63 bytes; the 64 constants stand where the program's text lays them.
-/
import Derived.Test.YtnhncloafnnhmaaDoorMacAwake
import Derived.Test.YtnhncloafnnhmaaDoorMacEqual
import Derived.WideShapes
namespace Go.Proofs.YtnhncloafnnhmaaDoor
open Go.RowKit ShaMath TextNat

theorem toList_beq (a b : ByteArray) : (a.toList == b.toList) = decide (a = b) := by
  rw [Bool.eq_iff_iff, beq_iff_eq, decide_eq_true_eq, ByteArray.toList_eq, ByteArray.toList_eq]
  exact ⟨fun h => WideShapes.bytes_inj h, fun h => by rw [h]⟩

theorem equals_true (a b : ByteArray) (w : World) (hp : Parts w) (ha : a.size ≤ 9223372036854775807) (hb : b.size ≤ 9223372036854775807) :
    Calls Tryd.prog 6 #[.string a, .string b] w fun e w' => e = .returned (.bool true) ∧ Below w.heap.size w w' := by
  have HA := Lib.hid (awake_true w hp)
  have H1 := Lib.hid (fun w2 => equal_any a b w2 ha hb)
  have H2 := Lib.hid (fun w2 => equal_any a a w2 ha ha)
  have e3 := toList_beq a b
  obtain ⟨q, hq⟩ : ∃ q, q = decide (a = b) := ⟨_, rfl⟩
  rw [← hq] at H1 e3
  have e4 : (q == q) = true := by cases q <;> rfl
  have e2 : decide (a = a) = true := decide_eq_true rfl
  rw [e2] at H2
  clear hp hq
  go_enter Tryd.func6, Tryd.ntmps6
  go_wp2_with (first
    | (go_at_call 7; refine HA.out.mono ?_; rintro e w2 ⟨rfl, hb2⟩)
    | (go_at_call_of 14 b; refine (H1.out _).mono ?_; rintro e w3 ⟨rfl, rfl⟩)
    | (go_at_call 14; refine (H2.out _).mono ?_; rintro e w4 ⟨rfl, rfl⟩))
  go_ret
  exact ⟨rfl, hb2⟩
end Go.Proofs.YtnhncloafnnhmaaDoor
