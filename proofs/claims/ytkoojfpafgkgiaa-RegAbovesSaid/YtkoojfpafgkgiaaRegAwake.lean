/-
  Chapter 15's example, as its laws ask it, out of the program's contracts. No conditions but those typed.
-/
import Derived.Test.YtkoojfpafgkgiaaRegTwo
import Derived.Deep.RegionHeld3
namespace Go.Proofs.Ytkoojfpafgkgiaa
open Go.RowKit TextNat RegMath

def aPut : RegV := ⟨3, 1, ⟨#[120]⟩, false, 0⟩
def aDel : RegV := ⟨3, 2, ⟨#[]⟩, true, 0⟩
def aOld : RegV := ⟨2, 2, ⟨#[]⟩, true, 0⟩
theorem merge_pd : mergeV [aPut, aDel] = aDel := by decide
theorem merge_po : mergeV [aPut, aOld] = aPut := by decide
theorem keep15 {W w w' : World} {A0 A1 A2 : Nat} {uA00 uA01 uA02 uA03 uA04 uA10 uA11 uA12 uA13 uA14 uA20 uA21 uA22 uA23 uA24 : Value} (h : Below W.heap.size W w ∧ w.cell? ⟨A0, 0, none⟩ = some uA00 ∧ w.cell? ⟨A0, 1, none⟩ = some uA01 ∧ w.cell? ⟨A0, 2, none⟩ = some uA02 ∧ w.cell? ⟨A0, 3, none⟩ = some uA03 ∧ w.cell? ⟨A0, 4, none⟩ = some uA04 ∧ w.cell? ⟨A1, 0, none⟩ = some uA10 ∧ w.cell? ⟨A1, 1, none⟩ = some uA11 ∧ w.cell? ⟨A1, 2, none⟩ = some uA12 ∧ w.cell? ⟨A1, 3, none⟩ = some uA13 ∧ w.cell? ⟨A1, 4, none⟩ = some uA14 ∧ w.cell? ⟨A2, 0, none⟩ = some uA20 ∧ w.cell? ⟨A2, 1, none⟩ = some uA21 ∧ w.cell? ⟨A2, 2, none⟩ = some uA22 ∧ w.cell? ⟨A2, 3, none⟩ = some uA23 ∧ w.cell? ⟨A2, 4, none⟩ = some uA24) (hb : Below w.heap.size w w') :
    Below W.heap.size W w' ∧ w'.cell? ⟨A0, 0, none⟩ = some uA00 ∧ w'.cell? ⟨A0, 1, none⟩ = some uA01 ∧ w'.cell? ⟨A0, 2, none⟩ = some uA02 ∧ w'.cell? ⟨A0, 3, none⟩ = some uA03 ∧ w'.cell? ⟨A0, 4, none⟩ = some uA04 ∧ w'.cell? ⟨A1, 0, none⟩ = some uA10 ∧ w'.cell? ⟨A1, 1, none⟩ = some uA11 ∧ w'.cell? ⟨A1, 2, none⟩ = some uA12 ∧ w'.cell? ⟨A1, 3, none⟩ = some uA13 ∧ w'.cell? ⟨A1, 4, none⟩ = some uA14 ∧ w'.cell? ⟨A2, 0, none⟩ = some uA20 ∧ w'.cell? ⟨A2, 1, none⟩ = some uA21 ∧ w'.cell? ⟨A2, 2, none⟩ = some uA22 ∧ w'.cell? ⟨A2, 3, none⟩ = some uA23 ∧ w'.cell? ⟨A2, 4, none⟩ = some uA24 := by
  obtain ⟨h0, hA00, hA01, hA02, hA03, hA04, hA10, hA11, hA12, hA13, hA14, hA20, hA21, hA22, hA23, hA24⟩ := h
  exact ⟨h0.trans (hb.mono h0.size), (hb.cell (p := ⟨A0, 0, none⟩) (World.block_lt_of_cell? w _ hA00)).trans hA00, (hb.cell (p := ⟨A0, 1, none⟩) (World.block_lt_of_cell? w _ hA01)).trans hA01, (hb.cell (p := ⟨A0, 2, none⟩) (World.block_lt_of_cell? w _ hA02)).trans hA02, (hb.cell (p := ⟨A0, 3, none⟩) (World.block_lt_of_cell? w _ hA03)).trans hA03, (hb.cell (p := ⟨A0, 4, none⟩) (World.block_lt_of_cell? w _ hA04)).trans hA04, (hb.cell (p := ⟨A1, 0, none⟩) (World.block_lt_of_cell? w _ hA10)).trans hA10, (hb.cell (p := ⟨A1, 1, none⟩) (World.block_lt_of_cell? w _ hA11)).trans hA11, (hb.cell (p := ⟨A1, 2, none⟩) (World.block_lt_of_cell? w _ hA12)).trans hA12, (hb.cell (p := ⟨A1, 3, none⟩) (World.block_lt_of_cell? w _ hA13)).trans hA13, (hb.cell (p := ⟨A1, 4, none⟩) (World.block_lt_of_cell? w _ hA14)).trans hA14, (hb.cell (p := ⟨A2, 0, none⟩) (World.block_lt_of_cell? w _ hA20)).trans hA20, (hb.cell (p := ⟨A2, 1, none⟩) (World.block_lt_of_cell? w _ hA21)).trans hA21, (hb.cell (p := ⟨A2, 2, none⟩) (World.block_lt_of_cell? w _ hA22)).trans hA22, (hb.cell (p := ⟨A2, 3, none⟩) (World.block_lt_of_cell? w _ hA23)).trans hA23, (hb.cell (p := ⟨A2, 4, none⟩) (World.block_lt_of_cell? w _ hA24)).trans hA24⟩
set_option maxRecDepth 100000 in
set_option maxHeartbeats 8000000 in
theorem awake15 (hM : MergeOk) (hV : VisibleOk) : AwakeOk := by
  intro w
  have HM := Lib.hid (fun (g : Nat) (r : Value) (w : World) (h : (w.heap[g]? = some (.cells #[.int .i64 3, .int .i64 1, .string ⟨#[120]⟩, .bool false, .int .i64 0, .int .i64 3, .int .i64 2, .string ⟨#[]⟩, .bool true, .int .i64 0] 28 (0, 0)) ∧ r = (.agg #[.int .i64 3, .int .i64 2, .string ⟨#[]⟩, .bool true, .int .i64 0] : Value)) ∨ (w.heap[g]? = some (.cells #[.int .i64 3, .int .i64 1, .string ⟨#[120]⟩, .bool false, .int .i64 0, .int .i64 2, .int .i64 2, .string ⟨#[]⟩, .bool true, .int .i64 0] 28 (0, 0)) ∧ r = (.agg #[.int .i64 3, .int .i64 1, .string ⟨#[120]⟩, .bool false, .int .i64 0] : Value))) => show Calls Try.prog 13 #[.slice (some ⟨g, 0, none⟩) 2 2] w (fun e w' => e = .returned r ∧ Below w.heap.size w w') by
    rcases h with ⟨h, rfl⟩ | ⟨h, rfl⟩
    · have := hM (some ⟨g, 0, none⟩) 2 [aPut, aDel] w (regs_two (T := 28) h) (by decide) (by omega) (by decide) (ShortR.two (by decide) (by decide))
      rw [merge_pd] at this
      exact this
    · have := hM (some ⟨g, 0, none⟩) 2 [aPut, aOld] w (regs_two (T := 28) h) (by decide) (by omega) (by decide) (ShortR.two (by decide) (by decide))
      rw [merge_po] at this
      exact this)
  have HV := Lib.hid (fun (v : Value) (r : Bool) (w : World) (h : (v = (.agg #[.int .i64 3, .int .i64 1, .string ⟨#[120]⟩, .bool false, .int .i64 0] : Value) ∧ r = true) ∨ (v = (.agg #[.int .i64 3, .int .i64 2, .string ⟨#[]⟩, .bool true, .int .i64 0] : Value) ∧ r = false)) => show Calls Try.prog 9 #[v] w (fun e w' => e = .returned (.bool r) ∧ Below w.heap.size w w') by
    rcases h with ⟨rfl, rfl⟩ | ⟨rfl, rfl⟩
    · exact hV aPut w
    · exact hV aDel w)
  have q1 := fun w => eql_reg aDel aDel w
  have q2 := fun w => eql_reg aPut aPut w
  rw [decide_eq_true rfl] at q1 q2
  simp only [RegV.val, aDel, aPut] at q1 q2
  clear hM hV
  go_enter Try.func7, Try.ntmps7
  go_wp2_with fail
  obtain ⟨W3, hW3⟩ : ∃ W3, W3 = ((w.alloc (.cells #[.int .i64 3, .int .i64 1, .string ⟨#[120]⟩, .bool false, .int .i64 0] 28)).alloc (.cells #[.int .i64 3, .int .i64 2, .string ⟨#[]⟩, .bool true, .int .i64 0] 28)).alloc (.cells #[.int .i64 2, .int .i64 2, .string ⟨#[]⟩, .bool true, .int .i64 0] 28) := ⟨_, rfl⟩
  obtain ⟨A0, hA0⟩ : ∃ A0, A0 = w.heap.size := ⟨_, rfl⟩
  obtain ⟨A1, hA1⟩ : ∃ A1, A1 = w.heap.size + 1 := ⟨_, rfl⟩
  obtain ⟨A2, hA2⟩ : ∃ A2, A2 = w.heap.size + 1 + 1 := ⟨_, rfl⟩
  have k1 : Below w.heap.size w (w.alloc (.cells #[.int .i64 3, .int .i64 1, .string ⟨#[120]⟩, .bool false, .int .i64 0] 28)) := (Below.refl _ _).alloc (Nat.le_refl _) _
  have k2 : Below (w.alloc (.cells #[.int .i64 3, .int .i64 1, .string ⟨#[120]⟩, .bool false, .int .i64 0] 28)).heap.size (w.alloc (.cells #[.int .i64 3, .int .i64 1, .string ⟨#[120]⟩, .bool false, .int .i64 0] 28)) ((w.alloc (.cells #[.int .i64 3, .int .i64 1, .string ⟨#[120]⟩, .bool false, .int .i64 0] 28)).alloc (.cells #[.int .i64 3, .int .i64 2, .string ⟨#[]⟩, .bool true, .int .i64 0] 28)) := (Below.refl _ _).alloc (Nat.le_refl _) _
  have k3 : Below ((w.alloc (.cells #[.int .i64 3, .int .i64 1, .string ⟨#[120]⟩, .bool false, .int .i64 0] 28)).alloc (.cells #[.int .i64 3, .int .i64 2, .string ⟨#[]⟩, .bool true, .int .i64 0] 28)).heap.size ((w.alloc (.cells #[.int .i64 3, .int .i64 1, .string ⟨#[120]⟩, .bool false, .int .i64 0] 28)).alloc (.cells #[.int .i64 3, .int .i64 2, .string ⟨#[]⟩, .bool true, .int .i64 0] 28)) (((w.alloc (.cells #[.int .i64 3, .int .i64 1, .string ⟨#[120]⟩, .bool false, .int .i64 0] 28)).alloc (.cells #[.int .i64 3, .int .i64 2, .string ⟨#[]⟩, .bool true, .int .i64 0] 28)).alloc (.cells #[.int .i64 2, .int .i64 2, .string ⟨#[]⟩, .bool true, .int .i64 0] 28)) := (Below.refl _ _).alloc (Nat.le_refl _) _
  have l0 : Lies W3 A0 [.int .i64 3, .int .i64 1, .string ⟨#[120]⟩, .bool false, .int .i64 0] 28 := by rw [hW3, hA0]; exact Lies.below (Lies.below (Lies.new w _ _) k2) k3
  have l1 : Lies W3 A1 [.int .i64 3, .int .i64 2, .string ⟨#[]⟩, .bool true, .int .i64 0] 28 := by rw [hW3, hA1]; exact Lies.below (show Lies _ (w.heap.size + 1) [.int .i64 3, .int .i64 2, .string ⟨#[]⟩, .bool true, .int .i64 0] _ by have := Lies.new (w.alloc (.cells #[.int .i64 3, .int .i64 1, .string ⟨#[120]⟩, .bool false, .int .i64 0] 28)) [.int .i64 3, .int .i64 2, .string ⟨#[]⟩, .bool true, .int .i64 0] 28; simpa using this) k3
  have l2 : Lies W3 A2 [.int .i64 2, .int .i64 2, .string ⟨#[]⟩, .bool true, .int .i64 0] 28 := by rw [hW3, hA2]; have := Lies.new ((w.alloc (.cells #[.int .i64 3, .int .i64 1, .string ⟨#[120]⟩, .bool false, .int .i64 0] 28)).alloc (.cells #[.int .i64 3, .int .i64 2, .string ⟨#[]⟩, .bool true, .int .i64 0] 28)) [.int .i64 2, .int .i64 2, .string ⟨#[]⟩, .bool true, .int .i64 0] 28; simpa using this
  have HB3 := Lib.hid (show Below w.heap.size w W3 by rw [hW3]; exact (k1.trans (k2.mono k1.size)).trans (k3.mono (Nat.le_trans k1.size k2.size)))
  have hz0 : Below W3.heap.size W3 W3 ∧ W3.cell? ⟨A0, 0, none⟩ = some (.int .i64 3) ∧ W3.cell? ⟨A0, 1, none⟩ = some (.int .i64 1) ∧ W3.cell? ⟨A0, 2, none⟩ = some (.string ⟨#[120]⟩) ∧ W3.cell? ⟨A0, 3, none⟩ = some (.bool false) ∧ W3.cell? ⟨A0, 4, none⟩ = some (.int .i64 0) ∧ W3.cell? ⟨A1, 0, none⟩ = some (.int .i64 3) ∧ W3.cell? ⟨A1, 1, none⟩ = some (.int .i64 2) ∧ W3.cell? ⟨A1, 2, none⟩ = some (.string ⟨#[]⟩) ∧ W3.cell? ⟨A1, 3, none⟩ = some (.bool true) ∧ W3.cell? ⟨A1, 4, none⟩ = some (.int .i64 0) ∧ W3.cell? ⟨A2, 0, none⟩ = some (.int .i64 2) ∧ W3.cell? ⟨A2, 1, none⟩ = some (.int .i64 2) ∧ W3.cell? ⟨A2, 2, none⟩ = some (.string ⟨#[]⟩) ∧ W3.cell? ⟨A2, 3, none⟩ = some (.bool true) ∧ W3.cell? ⟨A2, 4, none⟩ = some (.int .i64 0) := ⟨Below.refl _ _, l0.cell (i := 0) rfl, l0.cell (i := 1) rfl, l0.cell (i := 2) rfl, l0.cell (i := 3) rfl, l0.cell (i := 4) rfl, l1.cell (i := 0) rfl, l1.cell (i := 1) rfl, l1.cell (i := 2) rfl, l1.cell (i := 3) rfl, l1.cell (i := 4) rfl, l2.cell (i := 0) rfl, l2.cell (i := 1) rfl, l2.cell (i := 2) rfl, l2.cell (i := 3) rfl, l2.cell (i := 4) rfl⟩
  have HZ0 := Lib.hid hz0
  rw [← hW3, ← hA2, ← hA1, ← hA0]
  clear l0 l1 l2 k1 k2 k3 hW3 hA0 hA1 hA2 hz0
  have hz1 := HZ0.out
  go_region_held3 (fun w' => Below W3.heap.size W3 w' ∧ w'.cell? ⟨A0, 0, none⟩ = some (.int .i64 3) ∧ w'.cell? ⟨A0, 1, none⟩ = some (.int .i64 1) ∧ w'.cell? ⟨A0, 2, none⟩ = some (.string ⟨#[120]⟩) ∧ w'.cell? ⟨A0, 3, none⟩ = some (.bool false) ∧ w'.cell? ⟨A0, 4, none⟩ = some (.int .i64 0) ∧ w'.cell? ⟨A1, 0, none⟩ = some (.int .i64 3) ∧ w'.cell? ⟨A1, 1, none⟩ = some (.int .i64 2) ∧ w'.cell? ⟨A1, 2, none⟩ = some (.string ⟨#[]⟩) ∧ w'.cell? ⟨A1, 3, none⟩ = some (.bool true) ∧ w'.cell? ⟨A1, 4, none⟩ = some (.int .i64 0) ∧ w'.cell? ⟨A2, 0, none⟩ = some (.int .i64 2) ∧ w'.cell? ⟨A2, 1, none⟩ = some (.int .i64 2) ∧ w'.cell? ⟨A2, 2, none⟩ = some (.string ⟨#[]⟩) ∧ w'.cell? ⟨A2, 3, none⟩ = some (.bool true) ∧ w'.cell? ⟨A2, 4, none⟩ = some (.int .i64 0))
    (first | (refine keep15 ?_ hbb; assumption) | exact keep15 (by assumption) (Below.refl _ _).drew | exact keep15 hz1 (Below.refl _ _).drew | exact keep15 (by assumption) ((Below.refl _ _).alloc (Nat.le_refl _) _))
    (first
      | (go_at_call 13; refine (HM.out _ _ _ (by first | exact .inl ⟨heap_alloc_new _ _, rfl⟩ | exact .inr ⟨heap_alloc_new _ _, rfl⟩)).mono ?_; rintro e wn ⟨rfl, hbb⟩)
      | (go_at_call 9; refine (HV.out _ _ _ (by first | exact .inl ⟨rfl, rfl⟩ | exact .inr ⟨rfl, rfl⟩)).mono ?_; rintro e wn ⟨rfl, hbb⟩))
  have hz2 : Below W3.heap.size W3 wn ∧ wn.cell? ⟨A0, 0, none⟩ = some (.int .i64 3) ∧ wn.cell? ⟨A0, 1, none⟩ = some (.int .i64 1) ∧ wn.cell? ⟨A0, 2, none⟩ = some (.string ⟨#[120]⟩) ∧ wn.cell? ⟨A0, 3, none⟩ = some (.bool false) ∧ wn.cell? ⟨A0, 4, none⟩ = some (.int .i64 0) ∧ wn.cell? ⟨A1, 0, none⟩ = some (.int .i64 3) ∧ wn.cell? ⟨A1, 1, none⟩ = some (.int .i64 2) ∧ wn.cell? ⟨A1, 2, none⟩ = some (.string ⟨#[]⟩) ∧ wn.cell? ⟨A1, 3, none⟩ = some (.bool true) ∧ wn.cell? ⟨A1, 4, none⟩ = some (.int .i64 0) ∧ wn.cell? ⟨A2, 0, none⟩ = some (.int .i64 2) ∧ wn.cell? ⟨A2, 1, none⟩ = some (.int .i64 2) ∧ wn.cell? ⟨A2, 2, none⟩ = some (.string ⟨#[]⟩) ∧ wn.cell? ⟨A2, 3, none⟩ = some (.bool true) ∧ wn.cell? ⟨A2, 4, none⟩ = some (.int .i64 0) := by assumption
  have HZ2 := Lib.hid (HB3.out.trans (hz2.1.mono HB3.out.size))
  clear hz1 hz2
  go_wp2
  go_ret
  exact ⟨rfl, HZ2.out⟩
end Go.Proofs.Ytkoojfpafgkgiaa
