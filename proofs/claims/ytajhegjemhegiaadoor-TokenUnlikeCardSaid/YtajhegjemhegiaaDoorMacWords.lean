/-
  The contract of mac's words: the schedule of a block. The conditions: 64 numbers below 256.
-/
import Derived.Test.YtajhegjemhegiaaDoorPart02
import Derived.Test.YtajhegjemhegiaaDoorPart03
import Derived.Outline
import Derived.StillTailTactics
import Derived.BigQuiet
import Derived.Deep.RegionWith
import Derived.Deep.RegionLaw
namespace Go.Proofs.YtajhegjemhegiaaDoor
open Go.RowKit ShaMath TextNat

/-- Some words at the front of 64. -/
def pad64 (l : List Nat) : List Nat := l ++ List.replicate (64 - l.length) 0
theorem pad64_set (l : List Nat) (x : Nat) (h : l.length < 64) : (pad64 l).set l.length x = pad64 (l ++ [x]) := by
  unfold pad64
  rw [List.set_append_right _ _ (Nat.le_refl _), Nat.sub_self, List.length_append, List.append_assoc]
  congr 1
  obtain ⟨n, hn⟩ : ∃ n, 64 - l.length = n + 1 := ⟨63 - l.length, by omega⟩
  rw [hn, show 64 - (l.length + [x].length) = n by simp; omega, List.replicate_succ]
  rfl
theorem pad64_at (l : List Nat) (i : Nat) (h : i < l.length) : (pad64 l)[i]? = some (l.getD i 0) := by
  unfold pad64
  rw [List.getElem?_append_left h]
  simp [List.getD, h]
theorem pad64_all (l : List Nat) (h : l.length = 64) : pad64 l = l := by simp [pad64, h]
theorem pad64_len (l : List Nat) (h : l.length ≤ 64) : (pad64 l).length = 64 := by simp [pad64]; omega

theorem or_add (a b k : Nat) (h : b < 2 ^ k) : a * 2 ^ k ||| b = a * 2 ^ k + b := by
  rw [← Nat.shiftLeft_eq, Nat.shiftLeft_add_eq_or_of_lt h]
/-- Four bytes as a word, as the machine makes it. -/
structure FourFacts (z0 z1 z2 z3 a0 a1 a2 m1 m2 x : Nat) : Prop where
  g0 : IntKind.u32.wrap ((z0 : Int) * 16777216) = (a0 : Int)
  g1 : IntKind.u32.wrap ((z1 : Int) * 65536) = (a1 : Int)
  g2 : IntKind.u32.wrap ((z2 : Int) * 256) = (a2 : Int)
  o1 : bits .or .u32 (a0 : Int) (a1 : Int) = (m1 : Int)
  o2 : bits .or .u32 (m1 : Int) (a2 : Int) = (m2 : Int)
  o3 : bits .or .u32 (m2 : Int) (z3 : Int) = (x : Int)
  out : x = ((z0 * 256 + z1) * 256 + z2) * 256 + z3
theorem four_facts (z0 z1 z2 z3 : Nat) (h0 : z0 < 256) (h1 : z1 < 256) (h2 : z2 < 256) (h3 : z3 < 256) : ∃ a0 a1 a2 m1 m2 x, FourFacts z0 z1 z2 z3 a0 a1 a2 m1 m2 x := by
  have e1 : z0 * 16777216 ||| z1 * 65536 = z0 * 16777216 + z1 * 65536 := or_add z0 (z1 * 65536) 24 (by omega)
  have e2 : (z0 * 16777216 + z1 * 65536) ||| z2 * 256 = z0 * 16777216 + z1 * 65536 + z2 * 256 := by
    have := or_add (z0 * 256 + z1) (z2 * 256) 16 (by omega)
    rw [show (z0 * 256 + z1) * 2 ^ 16 = z0 * 16777216 + z1 * 65536 by omega] at this
    exact this
  have e3 : (z0 * 16777216 + z1 * 65536 + z2 * 256) ||| z3 = z0 * 16777216 + z1 * 65536 + z2 * 256 + z3 := by
    have := or_add ((z0 * 256 + z1) * 256 + z2) z3 8 (by omega)
    rw [show ((z0 * 256 + z1) * 256 + z2) * 2 ^ 8 = z0 * 16777216 + z1 * 65536 + z2 * 256 by omega] at this
    exact this
  refine ⟨z0 * 16777216, z1 * 65536, z2 * 256, z0 * 16777216 + z1 * 65536, z0 * 16777216 + z1 * 65536 + z2 * 256, z0 * 16777216 + z1 * 65536 + z2 * 256 + z3, ?_, ?_, ?_, ?_, ?_, ?_, by omega⟩
  · rw [IntKind.wrap_u32']; omega
  · rw [IntKind.wrap_u32']; omega
  · rw [IntKind.wrap_u32']; omega
  · rw [u32_or_nat _ _ (by omega) (by omega), e1]
  · rw [u32_or_nat _ _ (by omega) (by omega), e2]
  · rw [u32_or_nat _ _ (by omega) (by omega), e3]

set_option maxRecDepth 100000 in
set_option maxHeartbeats 4000000 in
theorem words_any (b : List Nat) (w : World) (hk : b.length = 64) (hlt : ∀ x ∈ b, x < 256) :
    Calls Tryd.prog 79 #[natsVal .u8 b] w fun e w' => e = .returned (natsVal .u32 (sched b 0 48)) ∧ Below w.heap.size w w' := by
  have H0 := ((Arr.new w 113 .u8 b).alloc (.cells (natVals .u32 (List.replicate 64 0)).toArray 132)).alloc (.cells (natVals .u32 (List.replicate 64 0)).toArray 132)
  have H1 := (Arr.new (w.alloc (.cells (natVals .u8 b).toArray 113)) 132 .u32 (List.replicate 64 0)).alloc (.cells (natVals .u32 (List.replicate 64 0)).toArray 132)
  have H2 := Arr.new ((w.alloc (.cells (natVals .u8 b).toArray 113)).alloc (.cells (natVals .u32 (List.replicate 64 0)).toArray 132)) 132 .u32 (pad64 (first b 0 0))
  rw [World.size_alloc] at H1
  rw [World.size_alloc, World.size_alloc] at H2
  have H3 := (((Below.refl w.heap.size w).alloc (Nat.le_refl _) (.cells (natVals .u8 b).toArray 113)).alloc (by simp) (.cells (natVals .u32 (List.replicate 64 0)).toArray 132)).alloc (by simp; omega) (.cells (natVals .u32 (List.replicate 64 0)).toArray 132)
  unfold natsVal
  obtain ⟨C, hC⟩ : ∃ C, C = (natVals .u8 b).toArray := ⟨_, rfl⟩
  rw [← hC] at H0 H1 H2 H3 ⊢
  have K0 := Lib.hid H0
  have K1 := Lib.hid H1
  have K2 := Lib.hid H2
  have K3 := Lib.hid H3
  have KL := Lib.hid hlt
  clear hC H0 H1 H2 H3 hlt
  go_enter Tryd.func79, Tryd.ntmps79
  go_wp2
  go_loopg [10] 16 (fun gh s10 wx => ∃ t : Nat, t + gh = 16 ∧ s10 = .int .i64 (t : Int) ∧ Hid (Arr w.heap.size 113 .u8 b wx) ∧ Hid (Arr (w.heap.size + 1) 132 .u32 (List.replicate 64 0) wx) ∧ Hid (Arr (w.heap.size + 1 + 1) 132 .u32 (pad64 (first b 0 t)) wx) ∧ Below w.heap.size w wx)
  case atStart => exact ⟨0, rfl, by go_num, K0, K1, K2, K3.out⟩
  case round =>
    obtain ⟨t, ht, rfl, h0, h1, h2, hb⟩ := hrel
    clear K0 K1 K2 K3
    by_cases h16 : t < 16
    · have h16' : (t : Int) < 16 := by omega
      have hbt : ∀ j, j < 64 → ∃ z : Nat, z = b.getD j 0 ∧ z < 256 ∧ wr.cell? ⟨w.heap.size, j, none⟩ = some (.int .u8 (z : Int)) := fun j hj => by
        refine ⟨b.getD j 0, rfl, ?_, h0.out.cellD (by omega)⟩
        rw [List.getD_eq_getElem?_getD, List.getElem?_eq_getElem (by omega)]
        exact KL.out _ (List.getElem_mem _)
      obtain ⟨z0, hz0, l0, c0⟩ := hbt (4 * t) (by omega)
      obtain ⟨z1, hz1, l1, c1⟩ := hbt (4 * t + 1) (by omega)
      obtain ⟨z2, hz2, l2, c2⟩ := hbt (4 * t + 2) (by omega)
      obtain ⟨z3, hz3, l3, c3⟩ := hbt (4 * t + 3) (by omega)
      have w0 : IntKind.i64.wrap (4 * (t : Int)) = 4 * (t : Int) := by rw [IntKind.wrap_i64]; omega
      have n0 : (4 * (t : Int)).toNat = 4 * t := by omega
      have v0 : IntKind.u32.wrap (z0 : Int) = (z0 : Int) := by rw [IntKind.wrap_u32']; omega
      have p0 : 0 ≤ 4 * (t : Int) := by omega
      have q0 : 4 * (t : Int) < 64 := by omega
      have w1 : IntKind.i64.wrap (4 * (t : Int) + 1) = 4 * (t : Int) + 1 := by rw [IntKind.wrap_i64]; omega
      have n1 : (4 * (t : Int) + 1).toNat = 4 * t + 1 := by omega
      have v1 : IntKind.u32.wrap (z1 : Int) = (z1 : Int) := by rw [IntKind.wrap_u32']; omega
      have p1 : 0 ≤ 4 * (t : Int) + 1 := by omega
      have q1 : 4 * (t : Int) + 1 < 64 := by omega
      have w2 : IntKind.i64.wrap (4 * (t : Int) + 2) = 4 * (t : Int) + 2 := by rw [IntKind.wrap_i64]; omega
      have n2 : (4 * (t : Int) + 2).toNat = 4 * t + 2 := by omega
      have v2 : IntKind.u32.wrap (z2 : Int) = (z2 : Int) := by rw [IntKind.wrap_u32']; omega
      have p2 : 0 ≤ 4 * (t : Int) + 2 := by omega
      have q2 : 4 * (t : Int) + 2 < 64 := by omega
      have w3 : IntKind.i64.wrap (4 * (t : Int) + 3) = 4 * (t : Int) + 3 := by rw [IntKind.wrap_i64]; omega
      have n3 : (4 * (t : Int) + 3).toNat = 4 * t + 3 := by omega
      have v3 : IntKind.u32.wrap (z3 : Int) = (z3 : Int) := by rw [IntKind.wrap_u32']; omega
      have p3 : 0 ≤ 4 * (t : Int) + 3 := by omega
      have q3 : 4 * (t : Int) + 3 < 64 := by omega
      obtain ⟨a0, a1, a2, m1, m2, x, g0, g1, g2, o1, o2, o3, hx⟩ := four_facts z0 z1 z2 z3 l0 l1 l2 l3
      have hxw : x = wordAt b 0 t := by
        rw [hx, hz0, hz1, hz2, hz3]
        unfold wordAt number
        simp [List.range_succ]
      have t0 : 0 ≤ (t : Int) := by omega
      have t64 : (t : Int) < 64 := by omega
      have f2 := h2.out.free t
      have d2 := h2.out.cellD (i := t) (by rw [pad64_len _ (by rw [first_len]; omega)]; omega)
      have HX := Lib.hid (show (pad64 (first b 0 t)).set t x = pad64 (first b 0 (t + 1)) by
        have h := pad64_set (first b 0 t) x (by rw [first_len]; omega)
        rw [first_len] at h
        rw [h, hxw]
        rfl)
      have HS := Lib.hid (h2.out.set t x)
      have HS1 := Lib.hid (h1.out.other ⟨w.heap.size + 1 + 1, t, none⟩ (.int .u32 (x : Int)) (by simp))
      have HS0 := Lib.hid (h0.out.other ⟨w.heap.size + 1 + 1, t, none⟩ (.int .u32 (x : Int)) (by simp; omega))
      have HB := Lib.hid (hb.setCell (p := ⟨w.heap.size + 1 + 1, t, none⟩) (by simp; omega) (.int .u32 (x : Int)))
      clear hz0 hz1 hz2 hz3 h0 h1 h2 hb hbt hx hxw
      go_wp2_with fail
      go_still_tail 31, (by kernel_rfl)
      change wpList Tryd.prog _ _ _ _ wr.drew
      go_wp2
      go_roundg (16 - (t + 1))
      case measure => omega
      case rel => exact ⟨t + 1, by omega, by go_num, HS0, HS1, by rw [← HX.out]; exact HS, HB.out.drew⟩
    · obtain rfl : t = 16 := by omega
      have K0 := h0
      have K1 := h1
      have K2 : Hid (Arr (w.heap.size + 1 + 1) 132 .u32 (pad64 (sched b 0 0)) wr) := h2
      have K3 := Lib.hid hb
      clear h0 h1 h2 hb h16
      go_wp2_with fail
      go_loopg [5] 48 (fun gh s5 wx => ∃ q : Nat, q + gh = 48 ∧ s5 = .int .i64 ((q : Int) + 16) ∧ Hid (Arr (w.heap.size + 1) 132 .u32 (List.replicate 64 0) wx) ∧ Hid (Arr (w.heap.size + 1 + 1) 132 .u32 (pad64 (sched b 0 q)) wx) ∧ Below w.heap.size w wx)
      case atStart => exact ⟨0, rfl, by go_num, K1, K2, K3.out⟩
      case round =>
        obtain ⟨q, hq, rfl, h1, h2, hb⟩ := hrel
        clear K0 K1 K2 K3
        by_cases h48 : q < 48
        · have h48' : (q : Int) < 48 := by omega
          have hll := sched_len b 0 q
          have hlt := sched_lt KL.out 0 q
          have hcell : ∀ j, j < q + 16 → wr.cell? ⟨w.heap.size + 1 + 1, j, none⟩ = some (.int .u32 ((sched b 0 q).getD j 0 : Nat)) ∧ (sched b 0 q).getD j 0 < 4294967296 := fun j hj => by
            have hjl : j < (sched b 0 q).length := by omega
            refine ⟨h2.out.cell (pad64_at _ _ hjl), ?_⟩
            have := hlt ((sched b 0 q)[j]) (List.getElem_mem hjl)
            simpa [List.getD, hjl] using this
          obtain ⟨l, hl⟩ : ∃ l, l = sched b 0 q := ⟨_, rfl⟩
          rw [← hl] at hcell
          obtain ⟨d14, l14⟩ := hcell (q + 14) (by omega)
          obtain ⟨d9, l9⟩ := hcell (q + 9) (by omega)
          obtain ⟨d1, l1⟩ := hcell (q + 1) (by omega)
          obtain ⟨d0, l0⟩ := hcell q (by omega)
          obtain ⟨v14, e14⟩ : ∃ v, v = l.getD (q + 14) 0 := ⟨_, rfl⟩
          obtain ⟨v9, e9⟩ : ∃ v, v = l.getD (q + 9) 0 := ⟨_, rfl⟩
          obtain ⟨v1, e1⟩ : ∃ v, v = l.getD (q + 1) 0 := ⟨_, rfl⟩
          obtain ⟨v0, e0⟩ : ∃ v, v = l.getD q 0 := ⟨_, rfl⟩
          rw [← e14] at d14 l14
          rw [← e9] at d9 l9
          rw [← e1] at d1 l1
          rw [← e0] at d0 l0
          obtain ⟨x1, x2, x3, x4, y1, y2, y3, y4, z1, z2, z3, sf⟩ := sched_facts v14 v9 v1 v0 l14 l1
          obtain ⟨ex1, ex2, ey1, ey2, f1, f2, f3, f4, f5, f6, f7, fo⟩ := sf
          have R1 := Lib.hid (fun w => right_any v14 17 17 w rfl l14 (by decide) (by decide))
          have R2 := Lib.hid (fun w => right_any v14 19 19 w rfl l14 (by decide) (by decide))
          have R3 := Lib.hid (fun w => right_any v1 7 7 w rfl l1 (by decide) (by decide))
          have R4 := Lib.hid (fun w => right_any v1 18 18 w rfl l1 (by decide) (by decide))
          rw [← ex1] at R1
          rw [← ex2] at R2
          rw [← ey1] at R3
          rw [← ey2] at R4
          obtain ⟨u1, hu1⟩ : ∃ u, u = (v0 + y4) % 4294967296 := ⟨_, rfl⟩
          obtain ⟨u2, hu2⟩ : ∃ u, u = (u1 + v9) % 4294967296 := ⟨_, rfl⟩
          obtain ⟨u3, hu3⟩ : ∃ u, u = (u2 + x4) % 4294967296 := ⟨_, rfl⟩
          have s1 : IntKind.u32.wrap ((v0 : Int) + (y4 : Int)) = (u1 : Int) := by rw [IntKind.wrap_u32']; omega
          have s2 : IntKind.u32.wrap ((u1 : Int) + (v9 : Int)) = (u2 : Int) := by rw [IntKind.wrap_u32']; omega
          have s3 : IntKind.u32.wrap ((u2 : Int) + (x4 : Int)) = (u3 : Int) := by rw [IntKind.wrap_u32']; omega
          have hz3 : u3 = z3 := by
            rw [IntKind.wrap_u32'] at f5 f6 f7
            omega
          have HZ := Lib.hid (show (pad64 (sched b 0 q)).set (q + 16) u3 = pad64 (sched b 0 (q + 1)) by
            have h := pad64_set (sched b 0 q) u3 (by omega)
            rw [hll, Nat.add_comm 16 q] at h
            rw [h]
            show pad64 (sched b 0 q ++ [u3]) = pad64 (sched b 0 q ++ [ShaMath.next (sched b 0 q) q])
            rw [← hl]
            unfold ShaMath.next
            rw [← e14, ← e9, ← e1, ← e0, fo, hz3])
          have HS := Lib.hid (h2.out.set (q + 16) u3)
          have HS1 := Lib.hid (h1.out.other ⟨w.heap.size + 1 + 1, q + 16, none⟩ (.int .u32 (u3 : Int)) (by simp))
          have HB := Lib.hid (hb.setCell (p := ⟨w.heap.size + 1 + 1, q + 16, none⟩) (by simp; omega) (.int .u32 (u3 : Int)))
          have fz := h2.out.free (q + 16)
          have dz := h2.out.cellD (i := q + 16) (by rw [pad64_len _ (by omega)]; omega)
          clear h1 h2 hb hcell hlt hll hl e14 e9 e1 e0 ex1 ex2 ey1 ey2 fo f5 f6 f7 hu1 hu2 hu3 hz3
          have i15 : IntKind.i64.wrap ((q : Int) + 16 - 15) = ((q + 1 : Nat) : Int) := by rw [IntKind.wrap_i64]; omega
          have i2 : IntKind.i64.wrap ((q : Int) + 16 - 2) = ((q + 14 : Nat) : Int) := by rw [IntKind.wrap_i64]; omega
          have i7 : IntKind.i64.wrap ((q : Int) + 16 - 7) = ((q + 9 : Nat) : Int) := by rw [IntKind.wrap_i64]; omega
          have i16 : IntKind.i64.wrap ((q : Int) + 16 - 16) = ((q : Nat) : Int) := by rw [IntKind.wrap_i64]; omega
          go_wp2_with fail
          go_quiet (fail)
          obtain ⟨wa, hwa⟩ : ∃ wa, wa = wr.drewN nq := ⟨_, rfl⟩
          have HSa : Hid (Arr (w.heap.size + 1 + 1) 132 .u32 ((pad64 (sched b 0 q)).set (q + 16) u3) (wa.setCell ⟨w.heap.size + 1 + 1, q + 16, none⟩ (.int .u32 (u3 : Int)))) := by rw [hwa]; exact HS
          have HS1a : Hid (Arr (w.heap.size + 1) 132 .u32 (List.replicate 64 0) (wa.setCell ⟨w.heap.size + 1 + 1, q + 16, none⟩ (.int .u32 (u3 : Int)))) := by rw [hwa]; exact HS1
          have HBa := Lib.hid (show Below w.heap.size w (wa.setCell ⟨w.heap.size + 1 + 1, q + 16, none⟩ (.int .u32 (u3 : Int))) by rw [hwa]; exact ⟨HB.out.os, HB.out.tape, HB.out.output, HB.out.size, HB.out.block⟩)
          have d9a : wa.cell? ⟨w.heap.size + 1 + 1, q + 9, none⟩ = some (.int .u32 (v9 : Int)) := by rw [hwa]; exact d9
          have d0a : wa.cell? ⟨w.heap.size + 1 + 1, q, none⟩ = some (.int .u32 (v0 : Int)) := by rw [hwa]; exact d0
          have dza : wa.cell? ⟨w.heap.size + 1 + 1, q + 16, none⟩ = some (.int .u32 ((pad64 (sched b 0 q)).getD (q + 16) 0 : Nat)) := by rw [hwa]; exact dz
          have fza : wa.frozen? ⟨w.heap.size + 1 + 1, q + 16, none⟩ = false := by rw [hwa]; exact fz
          rw [← hwa]
          clear hwa HS HS1 HB d9 d0 dz fz d1 d14
          have k16 : 0 ≤ (q : Int) + 16 := by omega
          have k64 : (q : Int) + 16 < 64 := by omega
          have kn : ((q : Int) + 16).toNat = q + 16 := by omega
          have k9 : (0 : Int) ≤ (q : Int) + 9 := by omega
          have k9' : (q : Int) + 9 < 64 := by omega
          have k9n : ((q : Int) + 9).toNat = q + 9 := by omega
          have kq0 : (0 : Int) ≤ (q : Int) := by omega
          have kq : (q : Int) < 64 := by omega
          have kqw : IntKind.i64.wrap (q : Int) = (q : Int) := by rw [IntKind.wrap_i64]; omega
          go_wp2_with (first
            | (go_at_call_of 80 (Value.int IntKind.i64 7); refine (R3.out _).mono ?_; rintro e w2 ⟨rfl, rfl⟩)
            | (go_at_call_of 80 (Value.int IntKind.i64 18); refine (R4.out _).mono ?_; rintro e w2 ⟨rfl, rfl⟩)
            | (go_at_call_of 80 (Value.int IntKind.i64 17); refine (R1.out _).mono ?_; rintro e w2 ⟨rfl, rfl⟩)
            | (go_at_call_of 80 (Value.int IntKind.i64 19); refine (R2.out _).mono ?_; rintro e w2 ⟨rfl, rfl⟩))
          go_still_tail 15, (by kernel_rfl)
          change wpList Tryd.prog _ _ _ _ w2.drew
          go_wp2
          go_roundg (48 - (q + 1))
          case measure => omega
          case rel => exact ⟨q + 1, by omega, by go_num, HS1a, by rw [← HZ.out]; exact HSa, HBa.out.drew⟩
        · obtain rfl : q = 48 := by omega
          obtain ⟨D, hD⟩ : ∃ D, D = (natVals .u32 (sched b 0 48)).toArray := ⟨_, rfl⟩
          have hDl : (natVals .u32 (sched b 0 48)).length = 64 := by rw [natVals_len, sched_len]
          have hsz : D.size = 64 := by rw [hD]; simpa using hDl
          have hone : D.all (·.oneCell') = true := by rw [hD]; exact natVals_one _ _
          have h2' := h2.out
          rw [pad64_all _ (sched_len b 0 48)] at h2'
          have HAD : Hid (wr.heap[w.heap.size + 1 + 1]? = some (.cells D 132 (0, 0))) := Lib.hid (by rw [hD]; exact h2')
          have HZD : Hid (wr.heap[w.heap.size + 1]? = some (.cells (natVals .u32 (List.replicate 64 0)).toArray 132 (0, 0))) := h1
          have HRD := Lib.hid (setRow_heap wr (w.heap.size + 1) _ D _ _ HZD.out)
          have HBD := Lib.hid (below_setRow hb (Nat.le_succ w.heap.size) D)
          have HDV := Lib.hid hD
          clear h1 h2 h2' hb hD hDl
          go_wp2_with (first
            | (refine wpList_load_row rfl 132 _ rfl (w.heap.size + 1 + 1) rfl 132 D (0, 0) _ HAD.out Tryd.underlying132 rfl (by rw [hsz]; exact infoWords64) ?_)
            | (refine wpList_store_row rfl 132 _ _ rfl (w.heap.size + 1) D rfl rfl 132 _ HZD.out (by rw [hsz]; exact infoWords64) (by rw [hsz]; simp [natVals_len]) hone ?_))
          refine bodyPost_ret (results_cell_row Tryd.results79 _ _ (w.heap.size + 1) 132 D (0, 0) _ rfl HRD.out Tryd.underlying132 rfl (by rw [hsz]; exact infoWords64)) rfl ?_
          exact ⟨by rw [HDV.out], HBD.out⟩
end Go.Proofs.YtajhegjemhegiaaDoor
