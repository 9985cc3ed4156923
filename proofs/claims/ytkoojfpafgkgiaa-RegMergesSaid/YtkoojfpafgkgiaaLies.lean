/-
  A row of cells that lies in a block: what its cells are, and that it stays. No program is run here.
-/
import Derived.Test.YtkoojfpafgkgiaaBut
namespace Go.Proofs.Ytkoojfpafgkgiaa
open Go.RowKit

/-- A row of cells that lies in block b. -/
def Lies (w : World) (b : Nat) (l : List Value) (T : TypeId) : Prop := w.heap[b]? = some (.cells l.toArray T (0, 0))
theorem Lies.lt {w : World} {b : Nat} {l : List Value} {T : TypeId} (h : Lies w b l T) : b < w.heap.size := (Array.getElem?_eq_some_iff.1 h).1
theorem Lies.cell {w : World} {b i : Nat} {l : List Value} {T : TypeId} {v : Value} (h : Lies w b l T) (hv : l[i]? = some v) : w.cell? ⟨b, i, none⟩ = some v := by
  rw [cell_of_row w b i _ T (0, 0) h]
  simp [hv]
theorem Lies.free {w : World} {b : Nat} {l : List Value} {T : TypeId} (h : Lies w b l T) (i : Nat) : w.frozen? ⟨b, i, none⟩ = false := frozen_of_row w b i _ T h
theorem Lies.set {w : World} {b : Nat} {l : List Value} {T : TypeId} (h : Lies w b l T) (i : Nat) (v : Value) : Lies (w.setCell ⟨b, i, none⟩ v) b (l.set i v) T := by
  have := heap_setCell_same (i := i) w b _ T v h
  unfold Lies
  rw [this]
  simp
theorem Lies.but {w w' : World} {b pb : Nat} {l : List Value} {T : TypeId} (h : Lies w b l T) (hb : But pb w w') (hn : b ≠ pb) : Lies w' b l T := (hb.block b h.lt hn).trans h
theorem Lies.below {w w' : World} {b : Nat} {l : List Value} {T : TypeId} (h : Lies w b l T) (hb : Below w.heap.size w w') : Lies w' b l T := (hb.block b h.lt).trans h
theorem Lies.new (w : World) (l : List Value) (T : TypeId) : Lies (w.alloc (.cells l.toArray T)) w.heap.size l T := heap_alloc_new w _
end Go.Proofs.Ytkoojfpafgkgiaa
