/-
  The contract of the law CrcFours: over any number of 32 bits and any four bytes it answers true, and old memory is as it was. The condition: the two tables hold what the program's text lays there.
-/
import Derived.Test.YtldimmpdjcgbeaaDoorCrcAwake
import Derived.Test.YtldimmpdjcgbeaaDoorRefFour
import Derived.Laws.IdiomStrings
import Derived.Deep.RegionWith
import Derived.OwnWalk
namespace Go.Proofs.YtldimmpdjcgbeaaDoor
open Go.RowKit CrcMath

theorem infoU8 : (Tryd.prog.info? 5).map (fun i => (i.zero, i.size, i.bytes)) = some (some (.int .u8 0), 1, 1) := by kernel_rfl
theorem four_parts (s a b c d : Nat) (ha : a < 256) (hb : b < 256) (hc : c < 256) (hd : d < 256) (h : s = ofFour a b c d) : s < 4294967296 ∧ s % 256 = a ∧ s / 256 % 256 = b ∧ s / 65536 % 256 = c ∧ s / 16777216 % 256 = d := by
  unfold ofFour at h
  omega
theorem four_of (s a b c d : Nat) (w : World) (ha : a < 256) (hb : b < 256) (hc : c < 256) (hd : d < 256) (h : s = ofFour a b c d) :
    Calls Tryd.prog 11 #[.int .u32 (s : Int)] w fun e w' => e = .returned (.agg #[.int .u8 (a : Int), .int .u8 (b : Int), .int .u8 (c : Int), .int .u8 (d : Int)]) ∧ Below w.heap.size w w' := by
  obtain ⟨h0, h1, h2, h3, h4⟩ := four_parts s a b c d ha hb hc hd h
  refine (four_walk s w h0).mono ?_
  rintro e w' ⟨rfl, hB⟩
  refine ⟨?_, hB⟩
  unfold fourVal
  rw [h1, h2, h3, h4]
theorem ref_of (s a b c d : Nat) (w : World) (ha : a < 256) (hb : b < 256) (hc : c < 256) (hd : d < 256) (h : s = ofFour a b c d) :
    Calls Tryd.prog 12 #[.int .u32 (s : Int)] w fun e w' => e = .returned (.slice (some ⟨w.heap.size, 0, none⟩) 4 4) ∧ w' = w.alloc (.cells #[.int .u8 (a : Int), .int .u8 (b : Int), .int .u8 (c : Int), .int .u8 (d : Int)] 5) := by
  obtain ⟨h0, h1, h2, h3, h4⟩ := four_parts s a b c d ha hb hc hd h
  refine (refFour s w h0).mono ?_
  rintro e w' ⟨rfl, rfl⟩
  refine ⟨rfl, ?_⟩
  have e1 : (s : Int) % 256 = (a : Int) := by omega
  have e2 : (s : Int) / 256 % 256 = (b : Int) := by omega
  have e3 : (s : Int) / 65536 % 256 = (c : Int) := by omega
  have e4 : (s : Int) / 16777216 = (d : Int) := by omega
  rw [e1, e2, e3, e4]

theorem below_step {W a b : World} (h : Below W.heap.size W a) (hb : Below a.heap.size a b) : Below W.heap.size W b := h.trans (hb.mono h.size)
/-- Four bytes lie at a block. -/
structure Lie (B a b c d : Nat) (w : World) : Prop where
  c0 : w.cell? ⟨B, 0, none⟩ = some (.int .u8 (a : Int))
  c1 : w.cell? ⟨B, 1, none⟩ = some (.int .u8 (b : Int))
  c2 : w.cell? ⟨B, 2, none⟩ = some (.int .u8 (c : Int))
  c3 : w.cell? ⟨B, 3, none⟩ = some (.int .u8 (d : Int))
theorem Lie.lt {B a b c d : Nat} {w : World} (h : Lie B a b c d w) : B < w.heap.size := World.block_lt_of_cell? w _ h.c0
theorem Lie.grown {B a b c d : Nat} {w w' : World} (h : Lie B a b c d w) (hb : Below w.heap.size w w') : Lie B a b c d w' :=
  ⟨(hb.cell (p := ⟨B, 0, none⟩) h.lt).trans h.c0, (hb.cell (p := ⟨B, 1, none⟩) h.lt).trans h.c1, (hb.cell (p := ⟨B, 2, none⟩) h.lt).trans h.c2, (hb.cell (p := ⟨B, 3, none⟩) h.lt).trans h.c3⟩
theorem lie_new (w : World) (a b c d T : Nat) : Lie w.heap.size a b c d (w.alloc (.cells #[.int .u8 (a : Int), .int .u8 (b : Int), .int .u8 (c : Int), .int .u8 (d : Int)] T)) := ⟨by simp, by simp, by simp, by simp⟩

/-- Four bytes in memory, as a text. -/
theorem text_of (a b c d : Nat) (ha : a < 256) (hb : b < 256) (hc : c < 256) (hd : d < 256) (B : Nat) (w : World) (h0 : w.cell? ⟨B, 0, none⟩ = some (.int .u8 (a : Int))) (h1 : w.cell? ⟨B, 1, none⟩ = some (.int .u8 (b : Int)))
    (h2 : w.cell? ⟨B, 2, none⟩ = some (.int .u8 (c : Int))) (h3 : w.cell? ⟨B, 3, none⟩ = some (.int .u8 (d : Int))) :
    (convert 22 9 (.slice (some ⟨B, 0, none⟩) 4 4)).run Tryd.prog w = .ok (.string ⟨#[UInt8.ofNat a, UInt8.ofNat b, UInt8.ofNat c, UInt8.ofNat d]⟩) w := by
  refine run_convert_bytes_back (P := Tryd.prog) w 22 9 5 ⟨B, 0, none⟩ 4 [UInt8.ofNat a, UInt8.ofNat b, UInt8.ofNat c, UInt8.ofNat d] Tryd.underlying22 Tryd.underlying5 Tryd.underlying9 ?_
  intro j hj
  have : j = 0 ∨ j = 1 ∨ j = 2 ∨ j = 3 := by simp at hj; omega
  rcases this with rfl | rfl | rfl | rfl
  · simpa [Addr.add, Nat.mod_eq_of_lt ha] using h0
  · simpa [Addr.add, Nat.mod_eq_of_lt hb] using h1
  · simpa [Addr.add, Nat.mod_eq_of_lt hc] using h2
  · simpa [Addr.add, Nat.mod_eq_of_lt hd] using h3

set_option maxHeartbeats 8000000 in
theorem fours_walk (s a b c d b0 b1 b2 b3 r : Nat) (w : World) (ha : a < 256) (hb : b < 256) (hc : c < 256) (hd : d < 256) (hs : s = ofFour a b c d) (h0 : b0 < 256) (h1 : b1 < 256) (h2 : b2 < 256) (h3 : b3 < 256) (hr : r = ofFour b0 b1 b2 b3) (hT : Tables w) :
    Calls Tryd.prog 6 #[.int .u32 (s : Int), .agg #[.int .u8 (b0 : Int), .int .u8 (b1 : Int), .int .u8 (b2 : Int), .int .u8 (b3 : Int)]] w fun e w' => e = .returned (.bool true) ∧ Below w.heap.size w w' := by
  have hB := (Below.refl w.heap.size w).alloc (Nat.le_refl _) (.cells #[.int .u8 (b0 : Int), .int .u8 (b1 : Int), .int .u8 (b2 : Int), .int .u8 (b3 : Int)] 31)
  have HA := Lib.hid (awake_true _ (hT.grown hB))
  have HB := Lib.hid hB
  have H4 := Lib.hid (fun w => four_of s a b c d w ha hb hc hd hs)
  have HR := Lib.hid (fun w => four_of r b0 b1 b2 b3 w h0 h1 h2 h3 hr)
  have HO := Lib.hid (fun w => of_walk a b c d w ha hb hc hd)
  have HP := Lib.hid (fun w => of_walk b0 b1 b2 b3 w h0 h1 h2 h3)
  have HF := Lib.hid (fun w => ref_of s a b c d w ha hb hc hd hs)
  have HC := text_of a b c d ha hb hc hd
  rw [← hs] at HO
  rw [← hr] at HP
  have HE : ∀ w, (Op.equalIn 10000 31 (.agg #[.int .u8 (b0 : Int), .int .u8 (b1 : Int), .int .u8 (b2 : Int), .int .u8 (b3 : Int)]) (.agg #[.int .u8 (b0 : Int), .int .u8 (b1 : Int), .int .u8 (b2 : Int), .int .u8 (b3 : Int)])).run Tryd.prog w = .ok true w := fun w => by
    obtain ⟨i, hi, _, _, _⟩ := info_parts infoU8
    have := equal_ints (P := Tryd.prog) Tryd.underlying31 Tryd.underlying5 hi (by kernel_rfl) (by kernel_rfl) 9998 w [(b0 : Int), b1, b2, b3] [(b0 : Int), b1, b2, b3] rfl rfl
    rw [decide_eq_true rfl] at this
    exact this
  clear hB hT hs hr
  go_enter Tryd.func6, Tryd.ntmps6
  go_wp2_with fail
  refine HA.out.mono ?_
  rintro e w1 ⟨rfl, hb1⟩
  have hG := (lie_new w b0 b1 b2 b3 31).grown hb1
  have hW := HB.out.trans (hb1.mono HB.out.size)
  obtain ⟨G, hGd⟩ : ∃ G, G = w.heap.size := ⟨_, rfl⟩
  have HGs := Lib.hid hGd
  rw [← hGd] at hG ⊢
  have HW := Lib.hid hW
  have HG := Lib.hid hG
  clear hb1 hW hGd hG HA
  go_wp2_with fail
  refine (H4.out _).mono ?_
  rintro e w2 ⟨rfl, hb2⟩
  have hG := (HG.out.grown hb2)
  have hW := HW.out.trans (hb2.mono HW.out.size)
  have hF := lie_new w2 a b c d 31
  have hA := (Below.refl _ w2).alloc (Nat.le_refl _) (.cells #[.int .u8 (a : Int), .int .u8 (b : Int), .int .u8 (c : Int), .int .u8 (d : Int)] 31)
  have hG3 := hG.grown hA
  have hW3 := hW.trans (hA.mono hW.size)
  obtain ⟨F, hFd⟩ : ∃ F, F = w2.heap.size := ⟨_, rfl⟩
  have HFs := Lib.hid hFd
  obtain ⟨W, hWd⟩ : ∃ W, W = w2.alloc (.cells #[.int .u8 (a : Int), .int .u8 (b : Int), .int .u8 (c : Int), .int .u8 (d : Int)] 31) := ⟨_, rfl⟩
  have HWd := Lib.hid hWd
  rw [← hFd, ← hWd] at hF
  rw [← hWd] at hG3 hW3
  have HW3 := Lib.hid hW3
  have HG3 := Lib.hid hG3
  have HF3 := Lib.hid hF
  obtain ⟨p0, p1, p2, p3⟩ := hF
  obtain ⟨q0, q1, q2, q3⟩ := hG3
  have lF := HF3.out.lt
  have lG := HG3.out.lt
  clear hb2 hG hW hA hW3 hFd hWd HG HW HB
  go_wp2_with fail
  rw [← HWd.out, ← HFs.out]
  clear HWd HFs
  go_region_with (first
    | (go_at_call 12; refine (HF.out _).mono ?_; rintro e w4 ⟨rfl, rfl⟩)
    | (go_at_call_of 13 (Value.int IntKind.u8 (a : Int)); refine (HO.out _).mono ?_; rintro e w5 ⟨rfl, hb5⟩; have hq5 : Below W.heap.size W w5 := below_step (by go_grown) hb5; have hn5 := HG3.out.grown hq5; obtain ⟨_, _, _, _⟩ := hn5)
    | (go_at_call 13; refine (HP.out _).mono ?_; rintro e w6 ⟨rfl, hb6⟩; have hq6 : Below W.heap.size W w6 := below_step (by go_grown) hb6; have hn6 := HG3.out.grown hq6; obtain ⟨_, _, _, _⟩ := hn6)
    | (go_at_call 11; refine (HR.out _).mono ?_; rintro e w7 ⟨rfl, hb7⟩; have hq7 : Below W.heap.size W w7 := below_step (by go_grown) hb7; have hn7 := HG3.out.grown hq7; obtain ⟨_, _, _, _⟩ := hn7))
  all_goals (go_wp2; go_ret; exact ⟨rfl, HW3.out.trans (Below.mono (B := W.heap.size) (by go_grown) HW3.out.size)⟩)
end Go.Proofs.YtldimmpdjcgbeaaDoor
