/-
  RingNone's contract. The conditions: the program's contracts; mac's table.
-/
import Derived.Test.YthafeccfcnmefaaDoorRingAwake
namespace Go.Proofs.YthafeccfcnmefaaDoor
open Go.RowKit TextNat

set_option maxRecDepth 100000 in
set_option maxHeartbeats 4000000 in
theorem none_true {R : Rng} (hN : RNewOk R) (hK : KeyOk R) (hA : AliveOk R) (hZ : RNoneOk) (n : Int) (w : World) (hP : Parts w) (hn : I64 n) :
    Calls Tryd.prog 5 #[.int .i64 n] w fun e w' => e = .returned (.bool true) ∧ Below w.heap.size w w' := by
  have HA := Lib.hid (awake_true hN hK hA w hP)
  have HZ := Lib.hid (fun w1 => hZ n w1 hn)
  clear hN hK hA hZ hP hn
  go_enter Tryd.func5, Tryd.ntmps5
  go_wp2_with fail
  refine HA.out.mono ?_
  rintro e w1 ⟨rfl, hb⟩
  have HB := Lib.hid hb
  clear hb HA
  go_wp2_with fail
  refine (HZ.out w1).2.2.1.mono ?_
  rintro e w2 ⟨⟨x, rfl, hx⟩, hb⟩
  obtain ⟨T, u, rfl⟩ := hx.iface
  have HX := Lib.hid hx
  replace HB := Lib.hid (HB.out.trans (hb.mono HB.out.size))
  clear hb hx
  go_wp2_with (first
    | (go_at_call 13; refine (HZ.out _).1.mono ?_; rintro e w3 ⟨rfl, hb⟩; replace HX := Lib.hid (HX.out.below hb); replace HB := Lib.hid (HB.out.trans (hb.mono HB.out.size)); clear hb)
    | (go_at_call 14; refine (HZ.out _).2.1.mono ?_; rintro e w3 ⟨rfl, hb⟩; replace HX := Lib.hid (HX.out.below hb); replace HB := Lib.hid (HB.out.trans (hb.mono HB.out.size)); clear hb)
    | (go_at_call 10; refine (HZ.out _).2.2.2.mono ?_; rintro e w3 ⟨rfl, hb⟩; replace HB := Lib.hid (HB.out.trans (hb.mono HB.out.size)); clear hb)
    | (go_at_call 9; refine (is_err HX.out 9).mono ?_; rintro e w3 ⟨rfl, hw⟩; rw [hw]; clear hw))
  go_ret
  exact ⟨rfl, HB.out⟩
end Go.Proofs.YthafeccfcnmefaaDoor
