/-
  The contract of chapter 6's smallest success: it is there. The conditions: the contracts of Join and Rel.
-/
import Derived.Test.YtkdjfeaaojecdaaVecLaws
namespace Go.Proofs.Ytkdjfeaaojecdaa
open Go.RowKit

theorem ints_row {w : World} {b : Nat} {T : TypeId} {l : List Int} (h : w.heap[b]? = some (.cells (l.map (Value.int .i64)).toArray T (0, 0))) (hf : Fits l) : Ints w (some ⟨b, 0, none⟩) l := fun i z hz => by
  refine ⟨hf z (List.mem_of_getElem? hz), b, 0, rfl, ?_⟩
  rw [Nat.zero_add, cell_of_row w b i _ T (0, 0) h]
  simp [hz]
def Vc.val (v : Vc) : Value := .slice v.p v.l.length v.c
theorem vecs_row {w : World} {b : Nat} {T : TypeId} {vs : List Vc} (h : w.heap[b]? = some (.cells (vs.map Vc.val).toArray T (0, 0))) (hv : ∀ v ∈ vs, Ints w v.p v.l) : VecsIn w (some ⟨b, 0, none⟩) vs := fun i v hi => by
  refine ⟨b, 0, rfl, ?_, hv v (List.mem_of_getElem? hi)⟩
  rw [Nat.zero_add, cell_of_row w b i _ T (0, 0) h]
  simp [hi, Vc.val]
theorem heap_alloc3_first (w : World) (a b c : Obj) : (((w.alloc a).alloc b).alloc c).heap[w.heap.size]? = some a := by
  rw [heap_alloc_old _ _ (by simp; omega), heap_alloc_old _ _ (by simp), heap_alloc_new]
theorem heap_alloc3_second (w : World) (a b c : Obj) : (((w.alloc a).alloc b).alloc c).heap[w.heap.size + 1]? = some b := by
  rw [heap_alloc_old _ _ (by simp)]
  have := heap_alloc_new (w.alloc a) b
  simpa using this
theorem heap_alloc3_third (w : World) (a b c : Obj) : (((w.alloc a).alloc b).alloc c).heap[w.heap.size + 1 + 1]? = some c := by
  have := heap_alloc_new ((w.alloc a).alloc b) c
  simpa using this
theorem awake_join : VecMath.join [[1, 0, 2], [0, 5]] = [1, 5, 2] := by decide
theorem awake_rel : VecMath.rel [1] [0, 1] = 2 := by decide
set_option maxRecDepth 100000 in
set_option maxHeartbeats 4000000 in
theorem awake_true (w : World) (hJ : JoinOk) (hR : RelOk) : Calls Try.prog 8 #[] w fun e w' => e = .returned (.bool true) ∧ Below w.heap.size w w' := by
  have HJ := Lib.hid hJ
  have HR := Lib.hid hR
  clear hJ hR
  go_enter Try.func8, Try.ntmps8
  go_wp2_with fail
  refine (HJ.out _ _ [⟨some ⟨w.heap.size, 0, none⟩, [1, 0, 2], 3⟩, ⟨some ⟨w.heap.size + 1, 0, none⟩, [0, 5], 2⟩] _ ?hV (by simp) ?h1 ?h2).mono ?_
  case hV =>
    refine vecs_row (T := 26) (heap_alloc3_third w _ _ _) ?_
    intro v hv
    simp only [List.mem_cons, List.not_mem_nil, or_false] at hv
    rcases hv with rfl | rfl
    · exact ints_row (T := 3) (heap_alloc3_first w _ _ _) (fun z hz => by simp at hz; omega)
    · exact ints_row (T := 3) (heap_alloc3_second w _ _ _) (fun z hz => by simp at hz; omega)
  case h1 =>
    intro v hv
    simp only [List.mem_cons, List.not_mem_nil, or_false] at hv
    rcases hv with rfl | rfl <;> simp
  case h2 =>
    intro v hv
    simp only [List.mem_cons, List.not_mem_nil, or_false] at hv
    rcases hv with rfl | rfl <;> simp
  rintro e w2 ⟨⟨v, rfl, hv⟩, hb⟩
  rw [show VecMath.join (lists [⟨some ⟨w.heap.size, 0, none⟩, [1, 0, 2], 3⟩, ⟨some ⟨w.heap.size + 1, 0, none⟩, [0, 5], 2⟩]) = [1, 5, 2] from awake_join] at hv
  obtain ⟨p, c, rfl, hz, _⟩ := hv.slice (fun z hz => by simp at hz; omega)
  obtain ⟨_, b, off, rfl, c0⟩ := hz 0 1 rfl
  obtain ⟨_, b1, off1, hp1, c1⟩ := hz 1 5 rfl
  obtain ⟨rfl, rfl⟩ : b1 = b ∧ off1 = off := by simpa using hp1.symm
  obtain ⟨_, b2, off2, hp2, c2⟩ := hz 2 2 rfl
  obtain ⟨rfl, rfl⟩ : b2 = b1 ∧ off2 = off1 := by simpa using hp2.symm
  have HB := Lib.hid (show Below w.heap.size w w2 from Below.trans ((((Below.refl _ _).alloc (Nat.le_refl _) _).alloc (by simp) _).alloc (by simp; omega) _) (hb.mono (by simp; omega)))
  rw [Nat.add_zero] at c0
  clear hv hz hp1 hp2 hb
  go_wp2_with fail
  refine (HR.out _ _ 1 2 [1] [0, 1] _ ?i1 ?i2 (by simp) (by simp)).mono ?_
  case i1 => exact ints_row (T := 3) (heap_alloc2_old w2 _ _) (fun z hz => by simp at hz; omega)
  case i2 => exact ints_row (T := 3) (heap_alloc2_new w2 _ _) (fun z hz => by simp at hz; omega)
  rintro e w3 ⟨rfl, hb3⟩
  rw [awake_rel]
  have HB3 := Lib.hid (HB.out.trans ((Below.trans (((Below.refl _ _).alloc (Nat.le_refl _) _).alloc (by simp) _) (hb3.mono (by simp; omega))).mono HB.out.size))
  go_wp2_with fail
  go_ret
  exact ⟨rfl, HB3.out⟩
end Go.Proofs.Ytkdjfeaaojecdaa
