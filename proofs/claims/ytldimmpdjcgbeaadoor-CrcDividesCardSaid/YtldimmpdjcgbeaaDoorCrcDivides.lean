/-
  The contract of the law CrcDivides: over any bytes it answers true, and old memory is as it was. The conditions: the slice's cells are told; the two tables hold what the program's text lays there.
-/
import Derived.Test.YtldimmpdjcgbeaaDoorCrcAwake
import Derived.Test.YtldimmpdjcgbeaaDoorRefCrc
namespace Go.Proofs.YtldimmpdjcgbeaaDoor
open Go.RowKit CrcMath

theorem below_drewN {B : Nat} {a w : World} (h : Below B a w) (n : Nat) : Below B a (w.drewN n) := ⟨h.os, h.tape, h.output, h.size, h.block⟩

set_option maxHeartbeats 4000000 in
theorem divides_walk (zs : List Nat) (pp : Option Addr) (cap : Nat) (w : World) (hm : zs.length ≤ maxLen) (hz : Bytes w pp zs) (hT : Tables w) :
    Calls Tryd.prog 3 #[.slice pp zs.length cap] w fun e w' => e = .returned (.bool true) ∧ Below w.heap.size w w' := by
  have HA := Lib.hid (awake_true w hT)
  have HZ := Lib.hid hz
  have HT := Lib.hid hT
  unfold maxLen at hm
  clear hz hT
  by_cases hl : zs.length ≤ 2000
  · have t1 : decide ((2000 : Int) < (zs.length : Int)) = false := by simp; omega
    go_enter Tryd.func3, Tryd.ntmps3
    go_wp2_with fail
    refine HA.out.mono ?_
    rintro e w1 ⟨rfl, hb1⟩
    have hz1 := HZ.out.grown hb1
    have hT1 := HT.out.grown hb1
    have HS := Lib.hid (sum_walk zs pp cap w1 (by omega) hz1 hT1)
    have HR := Lib.hid (fun n => refSum zs pp cap (w1.drewN n) hl (fun i z h => (hz1 i z h).1) (fun i z h => (hz1 i z h).2))
    have HB := Lib.hid hb1
    clear hz1 hT1 hb1
    go_wp2_with (first
      | (go_at_call 8; refine HS.out.mono ?_; rintro e w3 ⟨rfl, m, rfl⟩)
      | (go_at_call 9; refine (HR.out _).mono ?_; rintro e w4 ⟨rfl, hb4⟩))
    go_ret
    refine ⟨rfl, ?_⟩
    have h5 := (below_drewN HB.out _).trans (hb4.mono HB.out.size)
    exact h5
  · have t1 : decide ((2000 : Int) < (zs.length : Int)) = true := by simp; omega
    go_enter Tryd.func3, Tryd.ntmps3
    go_wp2_with fail
    refine HA.out.mono ?_
    rintro e w1 ⟨rfl, hb1⟩
    have HB := Lib.hid hb1
    clear hb1
    go_wp2
    go_ret
    exact ⟨rfl, HB.out⟩
end Go.Proofs.YtldimmpdjcgbeaaDoor
