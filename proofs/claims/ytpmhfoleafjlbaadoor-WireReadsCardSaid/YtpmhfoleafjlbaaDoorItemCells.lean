/-
  Things as cells; what is written, as a text. No program is run here.
-/
import Derived.Test.YtpmhfoleafjlbaaDoorRefWritten
namespace Go.Proofs.YtpmhfoleafjlbaaDoor
open Go.RowKit TextNat

def Item.cells (x : Item) : List Value := [.int .i64 x.k, .int .i64 x.n, .string x.s, .bool x.b, .slice x.vp x.vl.length x.vc]
theorem cells_at {xs : List Item} : ∀ {i : Nat} {x : Item}, xs[i]? = some x → ∀ j, j < 5 → (xs.flatMap Item.cells)[i * 5 + j]? = x.cells[j]? := by
  induction xs with
  | nil => intro i x h; simp at h
  | cons y r ih =>
    intro i x h j hj
    have hy : y.cells.length = 5 := rfl
    rw [List.flatMap_cons]
    cases i with
    | zero =>
      obtain rfl : y = x := by simpa using h
      rw [List.getElem?_append_left (by omega), Nat.zero_mul, Nat.zero_add]
    | succ i =>
      rw [List.getElem?_append_right (by omega), show (i + 1) * 5 + j - y.cells.length = i * 5 + j by omega]
      exact ih (by simpa using h) j hj
theorem itemsAt_of {w : World} {b : Nat} {xs : List Item} {T : TypeId} (h : w.heap[b]? = some (.cells (xs.flatMap Item.cells).toArray T (0, 0))) (hv : ∀ x ∈ xs, Ints w x.vp x.vl) : ItemsAt w b xs := by
  intro i x hx
  have hc : ∀ j, j < 5 → w.cell? ⟨b, i * 5 + j, none⟩ = x.cells[j]? := fun j hj => by
    rw [cell_of_row w b _ _ T (0, 0) h, ← cells_at hx j hj]
    simp
  exact ⟨hc 0 (by omega), hc 1 (by omega), hc 2 (by omega), hc 3 (by omega), hc 4 (by omega), hv x (List.mem_of_getElem? hx)⟩
theorem heap_two (w : World) (a b : Obj) : ((w.alloc a).alloc b).heap[w.heap.size + 1]? = some b := by
  have h := heap_alloc_new (w.alloc a) b
  simpa using h
theorem below_two (w : World) (a b : Obj) : Below w.heap.size w ((w.alloc a).alloc b) := ((Below.refl _ _).alloc (Nat.le_refl _) _).alloc (by simp) _
theorem ints_none (w : World) : Ints w none [] := fun i z h => by simp at h

end Go.Proofs.YtpmhfoleafjlbaaDoor
