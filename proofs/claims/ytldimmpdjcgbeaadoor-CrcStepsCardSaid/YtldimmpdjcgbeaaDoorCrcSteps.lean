/-
  The contract of the law CrcSteps: over any bytes, any number of 32 bits and any two bytes it answers true, and old memory is as it was. The conditions: the slice's cells are told; the two tables hold what the program's text lays there.
-/
import Derived.Test.YtldimmpdjcgbeaaDoorCrcAwake
import Derived.BigQuiet
import Derived.Deep.RegionWith
namespace Go.Proofs.YtldimmpdjcgbeaaDoor
open Go.RowKit CrcMath

set_option maxHeartbeats 8000000 in
theorem steps_walk (zs : List Nat) (pp : Option Addr) (cap s x y : Nat) (w : World) (hm : zs.length ≤ maxLen) (hz : Bytes w pp zs) (hs : s < 4294967296) (hx : x < 256) (hy : y < 256) (hT : Tables w) :
    Calls Tryd.prog 4 #[.slice pp zs.length cap, .int .u32 (s : Int), .agg #[.int .u8 (x : Int), .int .u8 (y : Int)]] w fun e w' => e = .returned (.bool true) ∧ Below w.heap.size w w' := by
  have hB := (Below.refl w.heap.size w).alloc (Nat.le_refl _) (.cells #[.int .u8 (x : Int), .int .u8 (y : Int)] 27)
  have HA := Lib.hid (awake_true _ (hT.grown hB))
  have HB := Lib.hid hB
  have HZ := Lib.hid (hz.grown hB)
  have HT := Lib.hid (hT.grown hB)
  have g0 : (w.alloc (.cells #[.int .u8 (x : Int), .int .u8 (y : Int)] 27)).cell? ⟨w.heap.size, 0, none⟩ = some (.int .u8 (x : Int)) := by simp
  have g1 : (w.alloc (.cells #[.int .u8 (x : Int), .int .u8 (y : Int)] 27)).cell? ⟨w.heap.size, 1, none⟩ = some (.int .u8 (y : Int)) := by simp
  have G0 := Lib.hid g0
  have G1 := Lib.hid g1
  unfold maxLen at hm
  clear hB hT hz g0 g1
  go_enter Tryd.func4, Tryd.ntmps4
  go_wp2_with fail
  refine HA.out.mono ?_
  rintro e w1 ⟨rfl, hb1⟩
  have c0 := (hb1.cell (p := ⟨w.heap.size, 0, none⟩) (World.block_lt_of_cell? _ _ G0.out)).trans G0.out
  have c1 := (hb1.cell (p := ⟨w.heap.size, 1, none⟩) (World.block_lt_of_cell? _ _ G1.out)).trans G1.out
  have HZ1 := Lib.hid (HZ.out.grown hb1)
  have HT1 := Lib.hid (HT.out.grown hb1)
  have HB1 := Lib.hid (HB.out.trans (hb1.mono HB.out.size))
  obtain ⟨G, hG⟩ : ∃ G, G = w.heap.size := ⟨_, rfl⟩
  rw [← hG] at c0 c1 ⊢
  have HGd := Lib.hid hG
  clear hb1 HA HZ HT HB G0 G1 hG
  by_cases hl : zs.length ≤ 100000
  · have t1 : decide ((100000 : Int) < (zs.length : Int)) = false := by simp; omega
    go_wp2
    go_loopg [7, 17] zs.length (fun g s7 s17 wx => ∃ k v n : Nat, k + g = zs.length ∧ s17 = .int .i64 k ∧ s7 = .int .u32 v ∧ Hid (v = sum (zs.take k)) ∧ wx = w1.drewN n)
    case atStart => exact ⟨0, 0, 0, by omega, by go_num, by go_num, Lib.hid (by rw [List.take_zero]; rfl), rfl⟩
    case round =>
      obtain ⟨k, v, n, hk, rfl, rfl, hv, rfl⟩ := hrel
      by_cases hlt : k < zs.length
      · obtain ⟨hz, b, off, rfl, d0⟩ := HZ1.out k _ (List.getElem?_eq_getElem hlt)
        obtain ⟨z, hzk⟩ : ∃ z, z = zs[k] := ⟨_, rfl⟩
        rw [← hzk] at d0 hz
        have HK := Lib.hid hzk
        have HS := Lib.hid (step_walk v z (w1.drewN n) (by rw [hv.out]; exact sum_lt _) hz (HT1.out.drewN n))
        clear hzk
        go_wp2_with (go_at_call 10; refine HS.out.mono ?_; rintro e w3 ⟨rfl, m, rfl⟩)
        go_roundg (zs.length - (k + 1))
        case measure => omega
        case rel => exact ⟨k + 1, CrcMath.step v z, n + m, by omega, by go_num, rfl, Lib.hid (by rw [List.take_succ_eq_append_getElem hlt, sum_snoc, ← HK.out, hv.out]), rfl⟩
      · obtain rfl : k = zs.length := by omega
        have d1 : decide (zs.length < zs.length) = false := by simp
        have hv' := hv.out
        rw [List.take_length] at hv'
        have HV := Lib.hid hv'
        clear hlt hv hv'
        go_wp2_with fail
        obtain ⟨W, hWd⟩ : ∃ W, W = w1.drewN n := ⟨_, rfl⟩
        have HZ2 := Lib.hid (show Bytes W pp zs by rw [hWd]; exact HZ1.out)
        have HT2 := Lib.hid (show Tables W by rw [hWd]; exact HT1.out.drewN n)
        have HB2 := Lib.hid (show Below w.heap.size w W by rw [hWd]; exact ⟨HB1.out.os, HB1.out.tape, HB1.out.output, HB1.out.size, HB1.out.block⟩)
        have c0' : W.cell? ⟨G, 0, none⟩ = some (.int .u8 (x : Int)) := by rw [hWd]; exact c0
        have c1' : W.cell? ⟨G, 1, none⟩ = some (.int .u8 (y : Int)) := by rw [hWd]; exact c1
        rw [← hWd]
        clear hWd c0 c1 HZ1 HT1 HB1
        have HS := Lib.hid (fun n => sum_walk zs pp cap (W.drewN n) (by omega) (HZ2.out) (HT2.out.drewN n))
        rw [← HV.out] at HS
        have HX := Lib.hid (fun n => step_walk s x (W.drewN n) hs hx (HT2.out.drewN n))
        have HY := Lib.hid (fun n => step_walk s y (W.drewN n) hs hy (HT2.out.drewN n))
        by_cases hxy : x = y
        · subst hxy
          go_quiet (first
            | (go_at_call 8; exact Calls.quiet_of (HS.out _))
            | (go_at_call 10; exact Calls.quiet_of (HX.out _)))
          go_wp2
          go_ret
          exact ⟨rfl, ⟨HB2.out.os, HB2.out.tape, HB2.out.output, HB2.out.size, HB2.out.block⟩⟩
        · have hne : ¬ CrcMath.step s x = CrcMath.step s y := fun h => hxy ((step_tells hs hx hy).1 h)
          obtain ⟨X, hXd⟩ : ∃ X, X = CrcMath.step s x := ⟨_, rfl⟩
          obtain ⟨Y, hYd⟩ : ∃ Y, Y = CrcMath.step s y := ⟨_, rfl⟩
          rw [← hXd] at HX hne
          rw [← hYd] at HY hne
          have n1 : ((X : Int) == (Y : Int)) = false := by simp; omega
          have n2 : ((x : Int) == (y : Int)) = false := by simp; omega
          clear hXd hYd
          go_quiet (first
            | (go_at_call 8; exact Calls.quiet_of (HS.out _))
            | (go_at_call_of 10 (Value.int IntKind.u8 (x : Int)); exact Calls.quiet_of (HX.out _))
            | (go_at_call_of 10 (Value.int IntKind.u8 (y : Int)); exact Calls.quiet_of (HY.out _)))
          go_wp2
          go_ret
          exact ⟨rfl, ⟨HB2.out.os, HB2.out.tape, HB2.out.output, HB2.out.size, HB2.out.block⟩⟩
  · have t1 : decide ((100000 : Int) < (zs.length : Int)) = true := by simp; omega
    go_wp2
    go_ret
    exact ⟨rfl, HB1.out⟩
end Go.Proofs.YtldimmpdjcgbeaaDoor
