/-
  StampNone's contract: it answers true of any time, out of the program's contracts. The conditions: the number is Go's.
-/
import Derived.Test.YtlhilpmlffbnkaaStampLaws
namespace Go.Proofs.Ytlhilpmlffbnkaa
open Go.RowKit StampMath

set_option maxRecDepth 100000 in
set_option maxHeartbeats 4000000 in
theorem none_true (t : Int) (w : World) (ht : I64 t) (hN : NewOk) (hX : NextOk) (hS : SeeOk) (hO : NoneOk) :
    Calls Try.prog 6 #[.int .i64 t] w fun e w' => e = .returned (.bool true) ∧ Below w.heap.size w w' := by
  have HA := Lib.hid (awake_true hN hX hS w)
  have HX := Lib.hid hO.1
  have HS := Lib.hid (fun w1 => hO.2.1 t w1 ht)
  have HT := Lib.hid hO.2.2
  clear hN hX hS hO ht
  go_enter Try.func6, Try.ntmps6
  go_wp2_with fail
  refine HA.out.mono ?_
  rintro e w1 ⟨rfl, hb1⟩
  have HB1 := Lib.hid hb1
  clear hb1
  go_wp2_with fail
  refine (HX.out w1).mono ?_
  rintro e w2 ⟨⟨x, rfl, hx⟩, hb2⟩
  have hB2 := HB1.out.trans (hb2.mono HB1.out.size)
  have HB2 := Lib.hid (hB2.alloc hB2.size (.cells #[.int .i64 0, .int .i64 0] 25))
  have hx2 := hx.below ((Below.refl _ w2).alloc (Nat.le_refl _) (.cells #[.int .i64 0, .int .i64 0] 25))
  obtain ⟨T, y, rfl⟩ := hx.iface
  have HI2 := Lib.hid (is_err hx2 1)
  clear hb2 hB2 hx hx2
  go_wp2_with fail
  refine HI2.out.mono ?_
  rintro e w3 ⟨rfl, hw3⟩
  rw [hw3]
  clear hw3 w3
  go_wp2_with fail
  refine (HS.out _).mono ?_
  rintro e w4 ⟨⟨x, rfl, hx⟩, hb4⟩
  have HB4 := Lib.hid (HB2.out.trans (hb4.mono HB2.out.size))
  obtain ⟨T4, y4, rfl⟩ := hx.iface
  have HI4 := Lib.hid (is_err hx 1)
  clear hb4 hx
  go_wp2_with fail
  refine HI4.out.mono ?_
  rintro e w5 ⟨rfl, hw5⟩
  rw [hw5]
  clear hw5 w5
  go_wp2_with fail
  refine (HT.out _).mono ?_
  rintro e w6 ⟨rfl, hb6⟩
  have HB6 := Lib.hid (HB4.out.trans (hb6.mono HB4.out.size))
  clear hb6
  go_wp2
  go_ret
  exact ⟨rfl, HB6.out⟩
end Go.Proofs.Ytlhilpmlffbnkaa
