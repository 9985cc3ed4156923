/-
  Texts of one claim, merged.
  MacMix: The contract of mac's mix: the words behind one block. The conditions: 64 numbers below 256; the 64 constants stand where the program's text lays them.
  Arrays: Arrays of integers, for any program: '==' of two of them; how one that came in is opened and reads as data; what a variable that holds one is, given what it reads as. Bytes that came in as a slice. No conditions but those typed.
  MacLaid: From the condition that mac's constants are laid as the program's text lays them to their cells; a world that meets the condition.
-/
import Derived.Test.YtajhegjemhegiaaDoorMacWords
import Derived.ChangeKeysEq
import Derived.ChangeSlices
import Derived.Carry
import Derived.RowKit
import Derived.ProofKit
import Derived.Test.YtajhegjemhegiaaDoorRows
import Derived.ChangeSame
import Derived.ChangeVars
import Derived.JoinedOf
import Derived.LaidLaws
import Derived.LaidHandle
namespace Go.Proofs.YtajhegjemhegiaaDoor
open Go.RowKit ShaMath TextNat

/-- The constants stand in their variable. -/
def Parts (w : World) : Prop := ∀ i, i < 64 → w.cell? ⟨1, i, none⟩ = some (.int .u32 (kAt i : Nat))
theorem Parts.lt {w : World} (h : Parts w) : 1 < w.heap.size := World.block_lt_of_cell? w _ (h 0 (by decide))
theorem Parts.grown {w w' : World} (h : Parts w) (hb : Below w.heap.size w w') : Parts w' := fun i hi => (hb.cell (p := ⟨1, i, none⟩) h.lt).trans (h i hi)

set_option maxRecDepth 100000 in
set_option maxHeartbeats 4000000 in
theorem mix_any (r : Regs) (hr : r.Ok) (b : List Nat) (w : World) (hk : b.length = 64) (hlt : ∀ x ∈ b, x < 256) (hp : Parts w) :
    Calls Tryd.prog 60 #[natsVal .u32 r.list, natsVal .u8 b] w fun e w' => e = .returned (natsVal .u32 (ShaMath.add r (rounds r (sched b 0 48) 64)).list) ∧ Below w.heap.size w w' := by
  have HW := Lib.hid (fun w => words_any b w hk hlt)
  obtain ⟨W3, hW3⟩ : ∃ W3, W3 = ((w.alloc (.cells (natVals .u32 r.list).toArray 116)).alloc (.cells (natVals .u8 b).toArray 113)).alloc (.cells (natVals .u32 (List.replicate 8 0)).toArray 116) := ⟨_, rfl⟩
  have A0 : Arr w.heap.size 116 .u32 r.list W3 := by rw [hW3]; exact ((Arr.new w _ _ _).alloc _).alloc _
  have A1 : Arr (w.heap.size + 1) 113 .u8 b W3 := by
    rw [hW3]
    have h := (Arr.new (w.alloc (.cells (natVals .u32 r.list).toArray 116)) 113 .u8 b).alloc (.cells (natVals .u32 (List.replicate 8 0)).toArray 116)
    rw [World.size_alloc] at h
    exact h
  have A2 : Arr (w.heap.size + 1 + 1) 116 .u32 (List.replicate 8 0) W3 := by
    rw [hW3]
    have h := Arr.new ((w.alloc (.cells (natVals .u32 r.list).toArray 116)).alloc (.cells (natVals .u8 b).toArray 113)) 116 .u32 (List.replicate 8 0)
    rw [World.size_alloc, World.size_alloc] at h
    exact h
  have hB3 : Below w.heap.size w W3 := by rw [hW3]; go_grown
  have hs3 : W3.heap.size = w.heap.size + 1 + 1 + 1 := by rw [hW3]; simp
  have hp3 := hp.grown hB3
  have hCl : (natVals .u8 b).toArray.size = 64 := by simp [natVals_len, hk]
  have hwlt := sched_lt hlt 0 48
  unfold natsVal at HW
  unfold natsVal
  obtain ⟨C, hC⟩ : ∃ C, C = (natVals .u8 b).toArray := ⟨_, rfl⟩
  obtain ⟨D, hD⟩ : ∃ D, D = (natVals .u32 r.list).toArray := ⟨_, rfl⟩
  obtain ⟨ws, hws⟩ : ∃ ws, ws = sched b 0 48 := ⟨_, rfl⟩
  obtain ⟨V, hV⟩ : ∃ V, V = (natVals .u32 ws).toArray := ⟨_, rfl⟩
  have A1' : Hid (W3.heap[w.heap.size + 1]? = some (.cells C 113 (0, 0))) := Lib.hid (by rw [hC]; exact A1)
  rw [← hC, ← hws, ← hV] at HW
  rw [← hC] at hCl
  rw [← hws] at hwlt ⊢
  rw [← hC, ← hD] at hW3 ⊢
  have HC := Lib.hid hC
  have HD := Lib.hid hD
  have HA0 := Lib.hid A0
  have HA2 := Lib.hid A2
  have HB3 := Lib.hid hB3
  have HP3 := Lib.hid hp3
  have hW3' : ((w.alloc (.cells D 116)).alloc (.cells C 113)).alloc (.cells #[.int .u32 0, .int .u32 0, .int .u32 0, .int .u32 0, .int .u32 0, .int .u32 0, .int .u32 0, .int .u32 0] 116) = W3 := by rw [hW3]; rfl
  have HW3 := Lib.hid hW3'
  have HAL : Hid ((((w.alloc (.cells D 116)).alloc (.cells C 113)).alloc (.cells #[.int .u32 0, .int .u32 0, .int .u32 0, .int .u32 0, .int .u32 0, .int .u32 0, .int .u32 0, .int .u32 0] 116)).heap[w.heap.size + 1]? = some (.cells C 113 (0, 0))) := by rw [hW3']; exact A1'
  have HWL := Lib.hid hwlt
  have HWS := Lib.hid hws
  have HV := Lib.hid hV
  have HS3 := Lib.hid hs3
  clear hC hD A0 A1 A2 hB3 hp3 hwlt hws hV hp hs3 hW3 hW3' A1'
  go_enter Tryd.func60, Tryd.ntmps60
  go_wp2_with (refine wpList_load_row rfl 113 _ rfl (w.heap.size + 1) rfl 113 C (0, 0) _ HAL.out Tryd.underlying113 rfl (by rw [hCl]; exact infoArr64) ?_)
  rw [HW3.out]
  refine (HW.out W3).mono ?_
  rintro e wx ⟨rfl, hbx⟩
  have hB4 : Below w.heap.size w wx := HB3.out.trans (hbx.mono (by rw [HS3.out]; omega))
  have hsx := hbx.size
  rw [HS3.out] at hsx
  have hBz : Below wx.heap.size wx ((wx.alloc (.cells (natVals .u32 (List.replicate 64 0)).toArray 132)).setRow wx.heap.size V) := below_setRow ((Below.refl wx.heap.size wx).alloc (Nat.le_refl _) _) (Nat.le_refl _) V
  have X0 := ((HA0.out.kept hbx (by rw [HS3.out]; omega)).alloc (.cells (natVals .u32 (List.replicate 64 0)).toArray 132)).rowOther V (show w.heap.size ≠ wx.heap.size by omega)
  have X2 := ((HA2.out.kept hbx (by rw [HS3.out]; omega)).alloc (.cells (natVals .u32 (List.replicate 64 0)).toArray 132)).rowOther V (show w.heap.size + 1 + 1 ≠ wx.heap.size by omega)
  have XV : Arr wx.heap.size 132 .u32 ws ((wx.alloc (.cells (natVals .u32 (List.replicate 64 0)).toArray 132)).setRow wx.heap.size V) := by rw [HV.out]; exact (Arr.new wx _ _ _).row ws
  have XP := HP3.out.grown (hbx.trans (hBz.mono hbx.size))
  have XB := hB4.trans (hBz.mono hB4.size)
  have hVs : V.size = 64 := by rw [HV.out, HWS.out]; simp [natVals_len, sched_len]
  have hone : V.all (·.oneCell') = true := by rw [HV.out]; exact natVals_one _ _
  obtain ⟨W4, hW4⟩ : ∃ W4, W4 = (wx.alloc (.cells (natVals .u32 (List.replicate 64 0)).toArray 132)).setRow wx.heap.size V := ⟨_, rfl⟩
  obtain ⟨G, hG⟩ : ∃ G, G = wx.heap.size := ⟨_, rfl⟩
  rw [← hW4] at X0 X2 XV XP XB
  rw [← hG] at XV hsx
  have H0 := Lib.hid X0
  have H2 := Lib.hid X2
  have HVV := Lib.hid XV
  have HP := Lib.hid XP
  have HB := Lib.hid XB
  have HW4 := Lib.hid hW4
  have HGG := Lib.hid hG
  obtain ⟨ra, rb, rc, rd, re, rf, rg, rh⟩ := r
  have c0 := X0.cell (i := 0) (z := ra) rfl
  have c1 := X0.cell (i := 1) (z := rb) rfl
  have c2 := X0.cell (i := 2) (z := rc) rfl
  have c3 := X0.cell (i := 3) (z := rd) rfl
  have c4 := X0.cell (i := 4) (z := re) rfl
  have c5 := X0.cell (i := 5) (z := rf) rfl
  have c6 := X0.cell (i := 6) (z := rg) rfl
  have c7 := X0.cell (i := 7) (z := rh) rfl
  have HR := Lib.hid hr
  clear X0 X2 XV XP XB hbx hB4 hBz hW4 hG hr HA0 HA2 HP3 HB3 HS3 HW3 HAL HW
  go_wp2_with (refine wpList_store_row rfl 132 _ _ rfl wx.heap.size V rfl rfl 132 _ (heap_alloc_new wx _) (by rw [hVs]; exact infoWords64) (by rw [hVs]; rfl) hone ?_)
  have hput : ∀ (a : Act) (v : Value), a.put none v = a := fun _ _ => rfl
  rw [hput]
  change Code.wp Tryd.prog _ _ _ ((wx.alloc (.cells (natVals .u32 (List.replicate 64 0)).toArray 132)).setRow wx.heap.size V)
  rw [← HW4.out, ← HGG.out]
  clear hput
  go_wp2_with fail
  go_quiet (fail)
  obtain ⟨W5, hW5⟩ : ∃ W5, W5 = W4.drewN nq := ⟨_, rfl⟩
  have H0' : Hid (Arr w.heap.size 116 .u32 (⟨ra, rb, rc, rd, re, rf, rg, rh⟩ : Regs).list W5) := by rw [hW5]; exact H0
  have H2' : Hid (Arr (w.heap.size + 1 + 1) 116 .u32 (List.replicate 8 0) W5) := by rw [hW5]; exact H2
  have HVV' : Hid (Arr G 132 .u32 ws W5) := by rw [hW5]; exact HVV
  have HP' : Hid (Parts W5) := by rw [hW5]; exact HP
  have HB' := Lib.hid (show Below w.heap.size w W5 by rw [hW5]; exact ⟨HB.out.os, HB.out.tape, HB.out.output, HB.out.size, HB.out.block⟩)
  rw [← hW5]
  have c4' := H0'.out.cell (i := 4) (z := re) rfl
  have c5' := H0'.out.cell (i := 5) (z := rf) rfl
  have c6' := H0'.out.cell (i := 6) (z := rg) rfl
  have c7' := H0'.out.cell (i := 7) (z := rh) rfl
  clear hW5 H0 H2 HVV HP HB c0 c1 c2 c3 c4 c5 c6 c7 HW4 HGG
  go_wp2_with fail
  go_quiet (fail)
  go_wp2_with fail
  obtain ⟨W6, hW6⟩ : ∃ W6, W6 = W5.drewN nq := ⟨_, rfl⟩
  have H0 : Hid (Arr w.heap.size 116 .u32 (⟨ra, rb, rc, rd, re, rf, rg, rh⟩ : Regs).list W6) := by rw [hW6]; exact H0'
  have H2 : Hid (Arr (w.heap.size + 1 + 1) 116 .u32 (List.replicate 8 0) W6) := by rw [hW6]; exact H2'
  have HVV : Hid (Arr G 132 .u32 ws W6) := by rw [hW6]; exact HVV'
  have HP : Hid (Parts W6) := by rw [hW6]; exact HP'
  have HB := Lib.hid (show Below w.heap.size w W6 by rw [hW6]; exact ⟨HB'.out.os, HB'.out.tape, HB'.out.output, HB'.out.size, HB'.out.block⟩)
  obtain ⟨r, hrd⟩ : ∃ r : Regs, r = ⟨ra, rb, rc, rd, re, rf, rg, rh⟩ := ⟨_, rfl⟩
  have HRD := Lib.hid hrd
  rw [← hW6]
  have HWL64 : Hid (ws.length = 64) := Lib.hid (by rw [HWS.out, sched_len])
  clear hW6 H0' H2' HVV' HP' HB' c4' c5' c6' c7' hrd
  go_loopg [6, 7, 8, 9, 10, 11, 12, 13, 37] 64 (fun gh s6 s7 s8 s9 s10 s11 s12 s13 s37 wx => ∃ (t a b c d e f g h n : Nat), t + gh = 64 ∧ s37 = .int .i64 (t : Int) ∧ s6 = .int .u32 (a : Int) ∧ s7 = .int .u32 (b : Int) ∧ s8 = .int .u32 (c : Int) ∧ s9 = .int .u32 (d : Int) ∧ s10 = .int .u32 (e : Int) ∧ s11 = .int .u32 (f : Int) ∧ s12 = .int .u32 (g : Int) ∧ s13 = .int .u32 (h : Int) ∧ Hid (rounds r ws t = ⟨a, b, c, d, e, f, g, h⟩) ∧ wx = W6.drewN n)
  case atStart => exact ⟨0, ra, rb, rc, rd, re, rf, rg, rh, 0, rfl, by go_num, rfl, rfl, rfl, rfl, rfl, rfl, rfl, rfl, HRD, rfl⟩
  case round =>
    obtain ⟨t, a, b, c, d, e, f, g, h, nn, ht, rfl, rfl, rfl, rfl, rfl, rfl, rfl, rfl, rfl, hR, hwx⟩ := hrel
    by_cases h64 : t < 64
    · have h64' : (t : Int) < 64 := by omega
      obtain ⟨wz, hwz⟩ : ∃ wz, wz = wr := ⟨_, rfl⟩
      subst hwz
      have HWX := Lib.hid hwx
      have hok := rounds_ok (r := r) (by rw [HRD.out]; exact HR.out) ws t
      rw [hR.out] at hok
      obtain ⟨la, lb, lc, ld, le, lf, lg, lh⟩ := hok
      simp only at la lb lc ld le lf lg lh
      have kw := HVV.out.cellD (i := t) (by rw [HWL64.out]; exact h64)
      have kk := HP.out t h64
      obtain ⟨wt, hwt⟩ : ∃ v, v = ws.getD t 0 := ⟨_, rfl⟩
      obtain ⟨kt, hkt⟩ : ∃ v, v = kAt t := ⟨_, rfl⟩
      rw [← hwt] at kw
      rw [← hkt] at kk
      have kw' : wz.cell? ⟨G, t, none⟩ = some (.int .u32 (wt : Int)) := by rw [hwx]; exact kw
      have kk' : wz.cell? ⟨1, t, none⟩ = some (.int .u32 (kt : Int)) := by rw [hwx]; exact kk
      obtain ⟨x1, x2, x3, x4, x5, a1, q1, ne, q2, q3, a2, a3, a4, y1, y2, y3, y4, y5, m1, m2, m3, m4, m5, a5, ee, aa, rr⟩ := round_facts a b c d e f g h kt wt la lb lc le lf lg
      obtain ⟨ex1, ex2, ex4, ey1, ey2, ey4, f1, f2, f3, f4, f5, f6, f7, f8, f9, f10, f11, f12, f13, g1', g2', g3', g4', g5', g6', g7', hq, ho⟩ := rr
      obtain ⟨b1, hb1⟩ : ∃ v, v = (a4 + y5) % 4294967296 := ⟨_, rfl⟩
      have g8 : IntKind.u32.wrap ((a4 : Int) + (y5 : Int)) = (b1 : Int) := by rw [IntKind.wrap_u32']; omega
      have g9 : IntKind.u32.wrap ((b1 : Int) + (m5 : Int)) = (aa : Int) := by
        rw [IntKind.wrap_u32'] at g5' g7' ⊢
        omega
      have R1 := Lib.hid (fun w => right_any e 6 6 w rfl le (by decide) (by decide))
      have R2 := Lib.hid (fun w => right_any e 11 11 w rfl le (by decide) (by decide))
      have R3 := Lib.hid (fun w => right_any e 25 25 w rfl le (by decide) (by decide))
      have R4 := Lib.hid (fun w => right_any a 2 2 w rfl la (by decide) (by decide))
      have R5 := Lib.hid (fun w => right_any a 13 13 w rfl la (by decide) (by decide))
      have R6 := Lib.hid (fun w => right_any a 22 22 w rfl la (by decide) (by decide))
      rw [← ex1] at R1
      rw [← ex2] at R2
      rw [← ex4] at R3
      rw [← ey1] at R4
      rw [← ey2] at R5
      rw [← ey4] at R6
      have HRR := Lib.hid (show rounds r ws (t + 1) = ⟨aa, a, b, c, ee, e, f, g⟩ by
        show ShaMath.round (rounds r ws t) (kAt t) (ws.getD t 0) = _
        rw [hR.out, ← hkt, ← hwt]
        exact ho)
      clear hwx kw kk hwt hkt ex1 ex2 ex4 ey1 ey2 ey4 hq ho hR la lb lc ld le lf lg lh hb1 g5' g7'
      go_wp2_with fail
      go_quiet (first
        | (go_at_call_of 80 (Value.int IntKind.i64 6); exact Calls.quiet_of_same (R1.out _))
        | (go_at_call_of 80 (Value.int IntKind.i64 11); exact Calls.quiet_of_same (R2.out _))
        | (go_at_call_of 80 (Value.int IntKind.i64 25); exact Calls.quiet_of_same (R3.out _)))
      go_wp2_with (first
        | (go_at_call_of 80 (Value.int IntKind.i64 2); refine (R4.out _).mono ?_; rintro e w ⟨rfl, rfl⟩)
        | (go_at_call_of 80 (Value.int IntKind.i64 13); refine (R5.out _).mono ?_; rintro e w ⟨rfl, rfl⟩)
        | (go_at_call_of 80 (Value.int IntKind.i64 22); refine (R6.out _).mono ?_; rintro e w ⟨rfl, rfl⟩))
      go_roundg (64 - (t + 1))
      case measure => omega
      case rel => exact ⟨t + 1, aa, a, b, c, ee, e, f, g, nn + nq, by omega, by go_num, rfl, rfl, rfl, rfl, rfl, rfl, rfl, rfl, HRR, by rw [HWX.out]; exact World.drewN_drewN _ _ _⟩
    · obtain rfl : t = 64 := by omega
      have H0 : Hid (Arr w.heap.size 116 .u32 (⟨ra, rb, rc, rd, re, rf, rg, rh⟩ : Regs).list wr) := by rw [hwx]; exact H0
      have H2 : Hid (Arr (w.heap.size + 1 + 1) 116 .u32 (List.replicate 8 0) wr) := by rw [hwx]; exact H2
      have HB := Lib.hid (show Below w.heap.size w wr by rw [hwx]; exact ⟨HB.out.os, HB.out.tape, HB.out.output, HB.out.size, HB.out.block⟩)
      have c0 := H0.out.cell (i := 0) (z := ra) rfl
      have c1 := H0.out.cell (i := 1) (z := rb) rfl
      have c2 := H0.out.cell (i := 2) (z := rc) rfl
      have c3 := H0.out.cell (i := 3) (z := rd) rfl
      have c4 := H0.out.cell (i := 4) (z := re) rfl
      have c5 := H0.out.cell (i := 5) (z := rf) rfl
      have c6 := H0.out.cell (i := 6) (z := rg) rfl
      have c7 := H0.out.cell (i := 7) (z := rh) rfl
      obtain ⟨p0, ep0⟩ : ∃ v, v = (ra + a) % 4294967296 := ⟨_, rfl⟩
      obtain ⟨p1, ep1⟩ : ∃ v, v = (rb + b) % 4294967296 := ⟨_, rfl⟩
      obtain ⟨p2, ep2⟩ : ∃ v, v = (rc + c) % 4294967296 := ⟨_, rfl⟩
      obtain ⟨p3, ep3⟩ : ∃ v, v = (rd + d) % 4294967296 := ⟨_, rfl⟩
      obtain ⟨p4, ep4⟩ : ∃ v, v = (re + e) % 4294967296 := ⟨_, rfl⟩
      obtain ⟨p5, ep5⟩ : ∃ v, v = (rf + f) % 4294967296 := ⟨_, rfl⟩
      obtain ⟨p6, ep6⟩ : ∃ v, v = (rg + g) % 4294967296 := ⟨_, rfl⟩
      obtain ⟨p7, ep7⟩ : ∃ v, v = (rh + h) % 4294967296 := ⟨_, rfl⟩
      have f0 : IntKind.u32.wrap ((ra : Int) + (a : Int)) = (p0 : Int) := by rw [IntKind.wrap_u32']; omega
      have f1 : IntKind.u32.wrap ((rb : Int) + (b : Int)) = (p1 : Int) := by rw [IntKind.wrap_u32']; omega
      have f2 : IntKind.u32.wrap ((rc : Int) + (c : Int)) = (p2 : Int) := by rw [IntKind.wrap_u32']; omega
      have f3 : IntKind.u32.wrap ((rd : Int) + (d : Int)) = (p3 : Int) := by rw [IntKind.wrap_u32']; omega
      have f4 : IntKind.u32.wrap ((re : Int) + (e : Int)) = (p4 : Int) := by rw [IntKind.wrap_u32']; omega
      have f5 : IntKind.u32.wrap ((rf : Int) + (f : Int)) = (p5 : Int) := by rw [IntKind.wrap_u32']; omega
      have f6 : IntKind.u32.wrap ((rg : Int) + (g : Int)) = (p6 : Int) := by rw [IntKind.wrap_u32']; omega
      have f7 : IntKind.u32.wrap ((rh : Int) + (h : Int)) = (p7 : Int) := by rw [IntKind.wrap_u32']; omega
      have HNX := Lib.hid (show (ShaMath.add (⟨ra, rb, rc, rd, re, rf, rg, rh⟩ : Regs) (rounds (⟨ra, rb, rc, rd, re, rf, rg, rh⟩ : Regs) ws 64)).list = [p0, p1, p2, p3, p4, p5, p6, p7] by
        rw [← HRD.out, hR.out, HRD.out, ep0, ep1, ep2, ep3, ep4, ep5, ep6, ep7]
        rfl)
      clear hwx hR ep0 ep1 ep2 ep3 ep4 ep5 ep6 ep7 h64
      have HRW := Lib.hid (H2.out.row [p0, p1, p2, p3, p4, p5, p6, p7])
      have HBW := Lib.hid (below_setRow HB.out (show w.heap.size ≤ w.heap.size + 1 + 1 by omega) (natVals .u32 [p0, p1, p2, p3, p4, p5, p6, p7]).toArray)
      go_wp2_with (refine wpList_store_row rfl 116 _ _ rfl (w.heap.size + 1 + 1) (natVals .u32 [p0, p1, p2, p3, p4, p5, p6, p7]).toArray rfl rfl 116 _ H2.out infoArr8 rfl (natVals_one _ _) ?_)
      refine bodyPost_ret (results_cell_row Tryd.results60 _ _ (w.heap.size + 1 + 1) 116 (natVals .u32 [p0, p1, p2, p3, p4, p5, p6, p7]).toArray (0, 0) _ rfl HRW.out Tryd.underlying116 rfl infoArr8) rfl ?_
      exact ⟨by rw [HNX.out], HBW.out⟩
end Go.Proofs.YtajhegjemhegiaaDoor
namespace Go.Proofs.YtajhegjemhegiaaDoor
open Go.RowKit Go.ChangeShapes Go.WideShapes

/-- The integers of an array, as a value. -/
def intsVal (k : IntKind) (xs : List Int) : Value := .agg (xs.map (Value.int k)).toArray

section
variable {P : Program}
theorem eqItems_ints {e : TypeId} {k : IntKind} (he : P.underlying e = some (.int k)) (hp : P.plainKey e = true) (hc : P.cellsOf e = 1) (d : Nat) (w : World) (xs ys : List Int) : ∀ (is : List Nat), (∀ i ∈ is, i < xs.length ∧ i < ys.length) →
    (Op.eqItems (d + 1) e (P.cellsOf e) (xs.map (Value.int k)).toArray (ys.map (Value.int k)).toArray is).run P w = .ok (is.all fun i => xs.getD i 0 == ys.getD i 0) w
  | [], _ => by simp [Op.eqItems]
  | i :: is, h => by
    obtain ⟨hx, hy⟩ := h i (by simp)
    have p1 := run_part_plain (P := P) w hp (xs := (xs.map (Value.int k)).toArray) (off := i) (v := .int k (xs.getD i 0)) (by simp [List.getD, hx])
    have p2 := run_part_plain (P := P) w hp (xs := (ys.map (Value.int k)).toArray) (off := i) (v := .int k (ys.getD i 0)) (by simp [List.getD, hy])
    have p3 := run_equalIn_int (P := P) w d e k k (xs.getD i 0) (ys.getD i 0) he
    have ih := eqItems_ints he hp hc d w xs ys is (fun j hj => h j (by simp [hj]))
    simp only [Op.eqItems, Sem.run_bind, hc, Nat.mul_one, p1, p2, p3, Result.andThen_ok, List.all_cons]
    rw [hc] at ih
    cases hq : (xs.getD i 0 == ys.getD i 0)
    · simp
    · simpa using ih

theorem all_range_eq : ∀ (xs ys : List Int), xs.length = ys.length → ((List.range xs.length).all fun i => xs.getD i 0 == ys.getD i 0) = decide (xs = ys) := by
  intro xs ys h
  rw [Bool.eq_iff_iff]
  simp only [List.all_eq_true, List.mem_range, beq_iff_eq, decide_eq_true_eq]
  constructor
  · intro ha
    apply List.ext_getElem h
    intro i h1 h2
    have := ha i h1
    simpa [List.getD, h1, h2] using this
  · rintro rfl i _; rfl

/-- '==' of two arrays of integers. -/
theorem equal_ints {t e : TypeId} {n : Nat} {k : IntKind} {i : TypeInfo} (hu : P.underlying t = some (.array n e)) (he : P.underlying e = some (.int k)) (hi : P.info? e = some i) (hp : P.plainKey e = true) (hc : P.cellsOf e = 1)
    (d : Nat) (w : World) (xs ys : List Int) (hx : xs.length = n) (hy : ys.length = n) : (Op.equalIn (d + 2) t (intsVal k xs) (intsVal k ys)).run P w = .ok (decide (xs = ys)) w := by
  unfold intsVal
  rw [run_equalIn_array w (d + 1) _ _ hu hi, eqItems_ints he hp hc d w xs ys _ (fun j hj => by simp at hj; omega), ← hx, all_range_eq xs ys (by omega)]

variable {H : Type} {enc : TypeId × Value → H} {w : World} {base : Nat} {sp : Nat → Bool} {held : Bool}

theorem mapM_ints {e : TypeId} {k : IntKind} (he : P.underlying e = some (.int k)) (hc : P.cellsOf e = 1) {m : Nat} : ∀ (L : List Nat) (cs : List Value) (xs : List (DataW H × List MemPlace)),
    L.mapM (fun i => DataW.trod enc P w base sp held m e ((cs.drop (i * P.cellsOf e)).take (P.cellsOf e))) = some xs →
    ∃ zs : List Int, xs = zs.map (fun z => (.lit (.int k z), [])) ∧ L.map (fun i => (cs.drop i).take 1) = zs.map (fun z => [Value.int k z]) ∧ ∀ z ∈ zs, (Lit.int k z).wf = true
  | [], cs, xs, h => by
    simp at h
    subst h
    exact ⟨[], rfl, rfl, by simp⟩
  | i :: L, cs, xs, h => by
    rw [List.mapM_cons] at h
    simp only [bind, Option.bind_eq_some_iff, pure, Option.some.injEq] at h
    obtain ⟨y, hy, ys, hys, rfl⟩ := h
    obtain ⟨zs, rfl, hl, hw⟩ := mapM_ints he hc L cs ys hys
    obtain ⟨a, ea, rfl, wa⟩ := DataW.trod_int he hy
    rw [hc, Nat.mul_one] at ea
    refine ⟨a :: zs, rfl, ?_, ?_⟩
    · rw [List.map_cons, List.map_cons, hl, ea]
    · intro z hz
      rcases List.mem_cons.1 hz with rfl | hz
      · exact wa
      · exact hw z hz

theorem chunks_ones {α : Type} : ∀ (cs : List α), (List.range cs.length).map (fun i => (cs.drop i).take 1) = cs.map fun c => [c] := by
  intro cs
  apply List.ext_getElem?
  intro i
  by_cases h : i < cs.length
  · simp [h, List.take_one, List.head?_drop]
  · simp [h]

/-- What reads as an array of these integers is one. -/
theorem cells_of_ints {t e : TypeId} {n : Nat} {k : IntKind} (hu : P.underlying t = some (.array n e)) (he : P.underlying e = some (.int k)) (hc : P.cellsOf e = 1) (hn : P.cellsOf t = n) {fuel : Nat} {cs : List Value} {d : DataW H} {p : List MemPlace}
    (h : DataW.trod enc P w base sp held fuel t cs = some (d, p)) : ∃ zs : List Int, zs.length = n ∧ cs = zs.map (Value.int k) ∧ d = .agg (zs.map fun z => .lit (.int k z)) ∧ p = [] ∧ ∀ z ∈ zs, (Lit.int k z).wf = true := by
  cases fuel with
  | zero => simp [DataW.trod] at h
  | succ m =>
    rw [DataW.trod_step] at h
    unfold DataW.trodStep at h
    simp only [hu] at h
    split at h
    · rename_i hl
      rw [hn] at hl
      simp only [Option.map_eq_some_iff] at h
      obtain ⟨ys, hy, e1⟩ := h
      obtain ⟨zs, rfl, hz, hw⟩ := mapM_ints he hc _ cs ys hy
      rw [← hl, chunks_ones] at hz
      have hcs : cs = zs.map (Value.int k) := by
        have hf := congrArg List.flatten hz
        have e1 : ∀ l : List Value, (l.map fun c => [c]).flatten = l := fun l => by induction l with | nil => rfl | cons a r ih => simp [ih]
        have e2 : ∀ l : List Int, (l.map fun z => [Value.int k z]).flatten = l.map (Value.int k) := fun l => by induction l with | nil => rfl | cons a r ih => simp [ih]
        rw [e1, e2] at hf
        exact hf
      simp only [Prod.mk.injEq] at e1
      refine ⟨zs, by rw [← hl, hcs]; simp, hcs, by rw [← e1.1]; simp [Function.comp_def], by rw [← e1.2]; simp [List.flatMap_eq_nil_iff], hw⟩
    · cases h

/-- An array of integers that came in. -/
theorem open_array {t e : TypeId} {n : Nat} {k : IntKind} {r : Reach} {b0 : Nat} {v : Value} {d : DataW H} {p : List MemPlace} (hu : P.underlying t = some (.array n e)) (he : P.underlying e = some (.int k)) (hc : P.cellsOf e = 1) (hn : P.cellsOf t = n)
    (hval : Value.okWide P w r b0 t v) (h : DataW.Trod enc P w base sp held t v d p) : ∃ zs : List Int, zs.length = n ∧ v = intsVal k zs ∧ d = .agg (zs.map fun z => .lit (.int k z)) ∧ p = [] ∧ ∀ z ∈ zs, (Lit.int k z).wf = true := by
  simp only [Value.okWide, hu] at hval
  obtain ⟨cs, rfl, _, _⟩ := hval
  obtain ⟨fuel, hf⟩ := h
  obtain ⟨zs, h1, h2, h3, h4, h5⟩ := cells_of_ints hu he hc hn hf
  refine ⟨zs, h1, ?_, h3, h4, h5⟩
  unfold intsVal
  congr 1
  rw [← h2]
  simp [Value.cells]

/-- A slice's cells are these bytes. -/
def Bytes (w : World) (pp : Option Addr) (zs : List Nat) : Prop := ∀ (i z : Nat), zs[i]? = some z → z < 256 ∧ ∃ b off, pp = some ⟨b, off, none⟩ ∧ w.cell? ⟨b, off + i, none⟩ = some (.int .u8 (z : Int))

theorem Bytes.grown {w w' : World} {pp : Option Addr} {zs : List Nat} (h : Bytes w pp zs) (hb : Below w.heap.size w w') : Bytes w' pp zs := fun i z hz => by
  obtain ⟨h1, b, off, h2, h3⟩ := h i z hz
  exact ⟨h1, b, off, h2, (hb.cell (p := ⟨b, off + i, none⟩) (World.block_lt_of_cell? w _ h3)).trans h3⟩

theorem wf_u8 {z : Int} (h : (Lit.int .u8 z).wf = true) : 0 ≤ z ∧ z < 256 := by
  simp [Lit.wf, IntKind.min, IntKind.max, IntKind.signed, IntKind.bits] at h
  omega

theorem wf_u32 {z : Int} (h : (Lit.int .u32 z).wf = true) : 0 ≤ z ∧ z < 4294967296 := by
  simp [Lit.wf, IntKind.min, IntKind.max, IntKind.signed, IntKind.bits] at h
  omega
theorem wf_i64 {z : Int} (h : (Lit.int .i64 z).wf = true) : -9223372036854775808 ≤ z ∧ z ≤ 9223372036854775807 := by
  simp [Lit.wf, IntKind.min, IntKind.max, IntKind.signed, IntKind.bits] at h
  omega

/-- A slice of bytes that came in. -/
theorem open_bytes {t e : TypeId} {r : Reach} {b0 : Nat} {v : Value} {d : DataW H} {p : List MemPlace} (ht : P.underlying t = some (.slice e)) (he : P.underlying e = some (.int .u8)) (hc : P.cellsOf e = 1)
    (hval : Value.okWide P w r b0 t v) (h : DataW.Trod enc P w base (fun _ => true) held t v d p) : ∃ (zs : List Nat) (pp : Option Addr) (cap : Nat), v = .slice pp zs.length cap ∧ zs.length ≤ cap ∧ cap ≤ maxLen ∧ Bytes w pp zs := by
  obtain ⟨a0, len, cap, rfl⟩ := okWide_slice ht hval
  obtain ⟨fuel, hf⟩ := h
  rcases open_ints ht he hc hf with ⟨hcs, _⟩ | ⟨a, len', cap', zs, hcs, _, hl, hm, hz, _, hcell, hwz⟩
  · simp [Value.cells] at hcs
    obtain ⟨rfl, rfl, rfl⟩ := hcs
    exact ⟨[], none, 0, rfl, by simp, by unfold maxLen; omega, fun i z hz => by simp at hz⟩
  · simp [Value.cells] at hcs
    obtain ⟨rfl, rfl, rfl⟩ := hcs
    simp only [if_true] at hz
    by_cases hl0 : len = 0
    · subst hl0
      exact ⟨[], some a, cap, rfl, by simp, hm, fun i z hz => by simp at hz⟩
    · obtain ⟨b, off, spot⟩ := a
      have hspot : spot = none := by simpa [Addr.add] using World.cell?_spot (hcell 0 (by omega))
      subst hspot
      have hlen : ((zs.take len).map Int.toNat).length = len := by simp; omega
      refine ⟨(zs.take len).map Int.toNat, some ⟨b, off, none⟩, cap, by rw [hlen], by rw [hlen]; exact hl, hm, fun i z hz2 => ?_⟩
      have hi : i < len := by rw [← hlen]; exact (List.getElem?_eq_some_iff.1 hz2).1
      have hzi : zs[i]? = some (zs.getD i 0) := by simp [List.getD, show i < zs.length by omega]
      have hw := wf_u8 (hwz (zs.getD i 0) (List.mem_of_getElem? hzi))
      have hzz : z = (zs.getD i 0).toNat := by
        rw [List.getElem?_map, List.getElem?_take, if_pos hi, hzi] at hz2
        exact (Option.some.inj hz2).symm
      have hc2 := hcell i (by omega)
      rw [add_plain] at hc2
      refine ⟨by omega, b, off, rfl, ?_⟩
      rw [hc2, hzz, Int.toNat_of_nonneg hw.1]
end
end Go.Proofs.YtajhegjemhegiaaDoor
namespace Go.Proofs.YtajhegjemhegiaaDoor
open Go.ChangeShapes Go.WideShapes Go.RowKit ShaMath

theorem ownNone : ownKnob Tryd.prog.godebug = none := by kernel_rfl
theorem partsNum : Tryd.prog.globalNamed "sojourn/mac.parts" = some 1 := by kernel_rfl
theorem partsType : (Tryd.prog.globals[1]?).map (·.type) = some 132 := by kernel_rfl

/-- What the rows list. -/
def laidList : List (String × DataW Unit) := [("sojourn/mac.parts", Rows.laid_sojourn_mac_parts)]

def natLits (l : List Nat) : List (DataW Unit) := (l.map fun (n : Nat) => (n : Int)).map fun z => .lit (.int .u32 z)
theorem parts_lits : Rows.laid_sojourn_mac_parts (H := Unit) = .agg (natLits ks) := rfl

theorem cells_of_table {W : World} {fuel : Nat} {cs : Array Value} {l : List Nat} {p : List MemPlace} (hl : l.length = 64) (h : DataW.trod (fun _ => ()) Tryd.prog W 0 (fun _ => true) false fuel 132 cs.toList = some (.agg (natLits l), p)) :
    ∀ i, i < 64 → cs[i]? = some (.int .u32 (l.getD i 0 : Nat)) := by
  obtain ⟨zs, _, hcs, hd, _, _⟩ := cells_of_ints Tryd.underlying132 Tryd.underlying102 (by kernel_rfl) (by kernel_rfl) h
  have hinj : Function.Injective (fun z : Int => (DataW.lit (.int .u32 z) : DataW Unit)) := fun a b hab => by simpa using hab
  have hz : l.map (fun (n : Nat) => (n : Int)) = zs := by
    have h1 := DataW.agg.inj hd
    exact (List.map_inj_right (fun a b hab => hinj hab)).1 h1
  intro i hi
  have e : cs[i]? = cs.toList[i]? := by simp
  rw [e, hcs, ← hz]
  simp [List.getD, show i < l.length by omega]

/-- What the condition gives a walk. -/
theorem parts_of_laid {W : World} (h : laidMetH Tryd.prog laidList W) : Parts W := by
  have h' : laidMet Tryd.prog laidList W := h
  obtain ⟨ps, ⟨g, t, cs, fuel, p, q, hg, ht, hvar, hd, _, _⟩, _⟩ := h'
  obtain rfl := Option.some.inj (partsNum.symm.trans hg)
  obtain rfl := Option.some.inj (partsType.symm.trans ht)
  rw [parts_lits] at hd
  exact fun i hi => (World.var?_cell hg hvar i).trans (cells_of_table rfl hd i hi)

/-- A world that meets the condition: the settled one, the variable's cells laid. -/
noncomputable def laidWorld (os : Os) : World :=
  let w0 := World.holding Tryd.prog os ⟨#[], #[], []⟩
  { w0 with heap := w0.heap.modify 1 fun
      | .cells _ t frozen => .cells ((ks.map fun (n : Nat) => Value.int .u32 (n : Int)).toArray) t frozen
      | o => o }
theorem laidWorld_met (os : Os) (args : Array Value) : laidMetH Tryd.prog laidList ((laidWorld os).forCall (fun _ _ => 0) ⟨#[], args, []⟩).memory :=
  show laidMet Tryd.prog laidList _ from laidMet_of_run' 8 (by kernel_rfl) (by kernel_rfl)
end Go.Proofs.YtajhegjemhegiaaDoor
