/-
  RegOf's contract: it answers true of any write, out of the program's contracts and the example. The conditions: the write's vector lies in memory.
-/
import Derived.Test.YtkoojfpafgkgiaaRegLaws
import Derived.Test.YtkoojfpafgkgiaaWriteV
import Derived.Deep.RegionHeld3
namespace Go.Proofs.Ytkoojfpafgkgiaa
open Go.RowKit TextNat RegMath

/-- A write's cell. -/
def ofV (x : WriteV) : RegV := ⟨x.time, x.sreg, x.value, x.gone, x.life⟩
def OfOk : Prop := ∀ (x : WriteV) (w : World), Ints w x.dp x.dl → x.value.size ≤ 281474976710656 → Calls Try.prog 15 #[x.val] w fun e w' => e = .returned (ofV x).val ∧ Below w.heap.size w w'
theorem keepWrite {W w w' : World} {A : Nat} {u0 u1 u2 u3 u4 u5 u6 u7 u8 u9 : Value} (h : Below W.heap.size W w ∧ w.cell? ⟨A, 0, none⟩ = some u0 ∧ w.cell? ⟨A, 1, none⟩ = some u1 ∧ w.cell? ⟨A, 2, none⟩ = some u2 ∧ w.cell? ⟨A, 3, none⟩ = some u3 ∧ w.cell? ⟨A, 4, none⟩ = some u4 ∧ w.cell? ⟨A, 5, none⟩ = some u5 ∧ w.cell? ⟨A, 6, none⟩ = some u6 ∧ w.cell? ⟨A, 7, none⟩ = some u7 ∧ w.cell? ⟨A, 8, none⟩ = some u8 ∧ w.cell? ⟨A, 9, none⟩ = some u9) (hb : Below w.heap.size w w') :
    Below W.heap.size W w' ∧ w'.cell? ⟨A, 0, none⟩ = some u0 ∧ w'.cell? ⟨A, 1, none⟩ = some u1 ∧ w'.cell? ⟨A, 2, none⟩ = some u2 ∧ w'.cell? ⟨A, 3, none⟩ = some u3 ∧ w'.cell? ⟨A, 4, none⟩ = some u4 ∧ w'.cell? ⟨A, 5, none⟩ = some u5 ∧ w'.cell? ⟨A, 6, none⟩ = some u6 ∧ w'.cell? ⟨A, 7, none⟩ = some u7 ∧ w'.cell? ⟨A, 8, none⟩ = some u8 ∧ w'.cell? ⟨A, 9, none⟩ = some u9 := by
  obtain ⟨hh, h0, h1, h2, h3, h4, h5, h6, h7, h8, h9⟩ := h
  exact ⟨hh.trans (hb.mono hh.size), (hb.cell (p := ⟨A, 0, none⟩) (World.block_lt_of_cell? w _ h0)).trans h0, (hb.cell (p := ⟨A, 1, none⟩) (World.block_lt_of_cell? w _ h1)).trans h1, (hb.cell (p := ⟨A, 2, none⟩) (World.block_lt_of_cell? w _ h2)).trans h2, (hb.cell (p := ⟨A, 3, none⟩) (World.block_lt_of_cell? w _ h3)).trans h3, (hb.cell (p := ⟨A, 4, none⟩) (World.block_lt_of_cell? w _ h4)).trans h4, (hb.cell (p := ⟨A, 5, none⟩) (World.block_lt_of_cell? w _ h5)).trans h5, (hb.cell (p := ⟨A, 6, none⟩) (World.block_lt_of_cell? w _ h6)).trans h6, (hb.cell (p := ⟨A, 7, none⟩) (World.block_lt_of_cell? w _ h7)).trans h7, (hb.cell (p := ⟨A, 8, none⟩) (World.block_lt_of_cell? w _ h8)).trans h8, (hb.cell (p := ⟨A, 9, none⟩) (World.block_lt_of_cell? w _ h9)).trans h9⟩
set_option maxRecDepth 100000 in
set_option maxHeartbeats 8000000 in
theorem of_true (hA : AwakeOk) (hM : MergeOk) (hO : OfOk) (x : WriteV) (w : World) (hI : Ints w x.dp x.dl) (hs : x.value.size ≤ 281474976710656) :
    Calls Try.prog 6 #[x.val] w fun e w' => e = .returned (.bool true) ∧ Below w.heap.size w w' := by
  have HA := Lib.hid hA
  have HI := Lib.hid hI
  have HO := Lib.hid (fun w1 (hw : Below w.heap.size w w1) => hO x w1 (hI.grown hw) hs)
  have HM := Lib.hid (fun w => show Calls Try.prog 13 #[.slice none 0 0] w (fun e w' => e = .returned (.agg #[.int .i64 0, .int .i64 0, .string ⟨#[]⟩, .bool false, .int .i64 0]) ∧ Below w.heap.size w w') from hM none 0 [] w (fun i x h => by simp at h) (by decide) (by omega) (by decide) (fun x hx => by simp at hx))
  have q1 := fun w => eql_reg (ofV x) (ofV x) w
  have q2 := fun w => eql_reg zeroR zeroR w
  rw [decide_eq_true rfl] at q1 q2
  obtain ⟨x0, x1, x2, x3, x4, x5, x6, x7, x8, x9, x10, x11⟩ := x
  simp only [RegV.val, ofV, zeroR] at q1 q2
  simp only [WriteV.val, RegV.val, ofV] at HO ⊢
  have al := (Below.refl w.heap.size w).alloc (Nat.le_refl _) (.cells #[.int .i64 x0, .int .i64 x1, .int .i64 x2, .int .i64 x3, .slice x4 x5.length x6, .string x7, .string x8, .string x9, .bool x10, .int .i64 x11] 41)
  have L1 := Lib.hid (Lies.new w [.int .i64 x0, .int .i64 x1, .int .i64 x2, .int .i64 x3, .slice x4 x5.length x6, .string x7, .string x8, .string x9, .bool x10, .int .i64 x11] 41)
  obtain ⟨W0, hW0⟩ : ∃ W0, W0 = w.alloc (.cells #[.int .i64 x0, .int .i64 x1, .int .i64 x2, .int .i64 x3, .slice x4 x5.length x6, .string x7, .string x8, .string x9, .bool x10, .int .i64 x11] 41) := ⟨_, rfl⟩
  obtain ⟨A, hA⟩ : ∃ A, A = w.heap.size := ⟨_, rfl⟩
  have HB0 := Lib.hid (show Below w.heap.size w W0 by rw [hW0]; exact al)
  replace L1 := Lib.hid (show Lies W0 A [.int .i64 x0, .int .i64 x1, .int .i64 x2, .int .i64 x3, .slice x4 x5.length x6, .string x7, .string x8, .string x9, .bool x10, .int .i64 x11] 41 by rw [hW0, hA]; exact L1.out)
  have HW := Lib.hid hW0
  have HAq := Lib.hid hA
  clear hI hA hM hO hs al hW0
  go_enter Try.func6, Try.ntmps6
  go_wp2_with fail
  rw [← HW.out, ← HAq.out]
  refine (HA.out W0).mono ?_
  rintro e W3 ⟨rfl, hb⟩
  have HB3 := Lib.hid (HB0.out.trans (hb.mono HB0.out.size))
  have L3 := Lib.hid (L1.out.below hb)
  have HZ0 := Lib.hid (show Below W3.heap.size W3 W3 ∧ W3.cell? ⟨A, 0, none⟩ = some (.int .i64 x0) ∧ W3.cell? ⟨A, 1, none⟩ = some (.int .i64 x1) ∧ W3.cell? ⟨A, 2, none⟩ = some (.int .i64 x2) ∧ W3.cell? ⟨A, 3, none⟩ = some (.int .i64 x3) ∧ W3.cell? ⟨A, 4, none⟩ = some (.slice x4 x5.length x6) ∧ W3.cell? ⟨A, 5, none⟩ = some (.string x7) ∧ W3.cell? ⟨A, 6, none⟩ = some (.string x8) ∧ W3.cell? ⟨A, 7, none⟩ = some (.string x9) ∧ W3.cell? ⟨A, 8, none⟩ = some (.bool x10) ∧ W3.cell? ⟨A, 9, none⟩ = some (.int .i64 x11) from ⟨Below.refl _ _, L3.out.cell (i := 0) rfl, L3.out.cell (i := 1) rfl, L3.out.cell (i := 2) rfl, L3.out.cell (i := 3) rfl, L3.out.cell (i := 4) rfl, L3.out.cell (i := 5) rfl, L3.out.cell (i := 6) rfl, L3.out.cell (i := 7) rfl, L3.out.cell (i := 8) rfl, L3.out.cell (i := 9) rfl⟩)
  clear hb
  go_wp2_with fail
  have hz1 := HZ0.out
  have HOS := Lib.hid (fun w' (h : Below W3.heap.size W3 w' ∧ w'.cell? ⟨A, 0, none⟩ = some (.int .i64 x0) ∧ w'.cell? ⟨A, 1, none⟩ = some (.int .i64 x1) ∧ w'.cell? ⟨A, 2, none⟩ = some (.int .i64 x2) ∧ w'.cell? ⟨A, 3, none⟩ = some (.int .i64 x3) ∧ w'.cell? ⟨A, 4, none⟩ = some (.slice x4 x5.length x6) ∧ w'.cell? ⟨A, 5, none⟩ = some (.string x7) ∧ w'.cell? ⟨A, 6, none⟩ = some (.string x8) ∧ w'.cell? ⟨A, 7, none⟩ = some (.string x9) ∧ w'.cell? ⟨A, 8, none⟩ = some (.bool x10) ∧ w'.cell? ⟨A, 9, none⟩ = some (.int .i64 x11)) => HO.out w' (HB3.out.trans (h.1.mono HB3.out.size)))
  go_region_held3 (fun w' => Below W3.heap.size W3 w' ∧ w'.cell? ⟨A, 0, none⟩ = some (.int .i64 x0) ∧ w'.cell? ⟨A, 1, none⟩ = some (.int .i64 x1) ∧ w'.cell? ⟨A, 2, none⟩ = some (.int .i64 x2) ∧ w'.cell? ⟨A, 3, none⟩ = some (.int .i64 x3) ∧ w'.cell? ⟨A, 4, none⟩ = some (.slice x4 x5.length x6) ∧ w'.cell? ⟨A, 5, none⟩ = some (.string x7) ∧ w'.cell? ⟨A, 6, none⟩ = some (.string x8) ∧ w'.cell? ⟨A, 7, none⟩ = some (.string x9) ∧ w'.cell? ⟨A, 8, none⟩ = some (.bool x10) ∧ w'.cell? ⟨A, 9, none⟩ = some (.int .i64 x11))
    (first | (refine keepWrite ?_ hbb; assumption) | exact keepWrite (by assumption) (Below.refl _ _).drew | exact keepWrite hz1 (Below.refl _ _).drew)
    (first
      | (go_at_call 15; refine (HOS.out _ (by assumption)).mono ?_; rintro e wn ⟨rfl, hbb⟩)
      | (go_at_call 13; refine (HM.out _).mono ?_; rintro e wn ⟨rfl, hbb⟩))
  have hz2 : Below W3.heap.size W3 wn ∧ wn.cell? ⟨A, 0, none⟩ = some (.int .i64 x0) ∧ wn.cell? ⟨A, 1, none⟩ = some (.int .i64 x1) ∧ wn.cell? ⟨A, 2, none⟩ = some (.int .i64 x2) ∧ wn.cell? ⟨A, 3, none⟩ = some (.int .i64 x3) ∧ wn.cell? ⟨A, 4, none⟩ = some (.slice x4 x5.length x6) ∧ wn.cell? ⟨A, 5, none⟩ = some (.string x7) ∧ wn.cell? ⟨A, 6, none⟩ = some (.string x8) ∧ wn.cell? ⟨A, 7, none⟩ = some (.string x9) ∧ wn.cell? ⟨A, 8, none⟩ = some (.bool x10) ∧ wn.cell? ⟨A, 9, none⟩ = some (.int .i64 x11) := by assumption
  have HZ2 := Lib.hid (HB3.out.trans (hz2.1.mono HB3.out.size))
  clear hz1 hz2
  go_wp2
  go_ret
  exact ⟨rfl, HZ2.out⟩
end Go.Proofs.Ytkoojfpafgkgiaa
