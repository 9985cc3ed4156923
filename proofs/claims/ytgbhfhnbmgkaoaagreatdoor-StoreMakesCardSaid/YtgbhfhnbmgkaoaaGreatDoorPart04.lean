/-
  Texts of one claim, merged.
  I64: What an int may be. No program is run here.
  But: 'But for one block the world is as it was, as far as it went', and what follows from it. No program is run here.
  Lies: A row of cells that lies in a block: what its cells are, and that it stays. No program is run here.
-/
import Derived.Test.YtgbhfhnbmgkaoaaGreatDoorProg
import Derived.WalkKit
import Derived.LaidEql
import Derived.Handy
import Derived.Outline
import Derived.WideLaws
import Derived.Lib.Hide
import Derived.BigQuiet
namespace Go.Proofs.YtgbhfhnbmgkaoaaGreatDoor
abbrev I64 (n : Int) : Prop := -9223372036854775808 ≤ n ∧ n ≤ 9223372036854775807
end Go.Proofs.YtgbhfhnbmgkaoaaGreatDoor
namespace Go.Proofs.YtgbhfhnbmgkaoaaGreatDoor
open Go.RowKit

theorem cell_lt {w : World} {b o : Nat} {v : Value} (h : w.cell? ⟨b, o, none⟩ = some v) : b < w.heap.size := by
  rcases Nat.lt_or_ge b w.heap.size with g | g
  · exact g
  · simp [World.cell?, Array.getElem?_eq_none g] at h

/-- But for block 'pb' the world w' is as w was, as far as w went. -/
structure But (pb : Nat) (w w' : World) : Prop where
  os : w'.os = w.os
  tape : w'.tape = w.tape
  output : w'.output = w.output
  size : w.heap.size ≤ w'.heap.size
  block : ∀ k, k < w.heap.size → k ≠ pb → w'.heap[k]? = w.heap[k]?

theorem But.refl (pb : Nat) (w : World) : But pb w w := ⟨rfl, rfl, rfl, Nat.le_refl _, fun _ _ _ => rfl⟩

theorem But.trans {pb : Nat} {a b c : World} (h : But pb a b) (k : But pb b c) : But pb a c :=
  ⟨k.os.trans h.os, k.tape.trans h.tape, k.output.trans h.output, Nat.le_trans h.size k.size, fun i hi hn => (k.block i (by have := h.size; omega) hn).trans (h.block i hi hn)⟩

theorem But.of {pb : Nat} {w w' : World} (h : Below w.heap.size w w') : But pb w w' := ⟨h.os, h.tape, h.output, h.size, fun k hk _ => h.block k hk⟩

theorem But.set (pb o : Nat) (w : World) (v : Value) : But pb w (w.setCell ⟨pb, o, none⟩ v) :=
  ⟨rfl, rfl, rfl, by simp [World.setCell], fun k _ hn => Below.heap_setCell _ _ _ _ hn⟩

theorem But.below {pb : Nat} {w w' : World} (h : But pb w w') (hp : pb ≤ w.heap.size) : Below pb w w' :=
  ⟨h.os, h.tape, h.output, h.size, fun k hk => h.block k (by omega) (by omega)⟩

theorem But.cell {pb : Nat} {w w' : World} (h : But pb w w') {k o : Nat} (hk : k < w.heap.size) (hn : k ≠ pb) : w'.cell? ⟨k, o, none⟩ = w.cell? ⟨k, o, none⟩ :=
  World.cell?_of_block (w := w) (a := ⟨k, o, none⟩) (h.block k hk hn)

theorem But.alloc {pb : Nat} {w w' : World} (h : But pb w w') (o : Obj) : But pb w (w'.alloc o) :=
  h.trans ⟨rfl, rfl, rfl, by simp, fun k hk _ => Below.heap_alloc _ _ _ hk⟩
theorem But.drew {pb : Nat} {w w' : World} (h : But pb w w') : But pb w w'.drew := ⟨h.os, h.tape, h.output, h.size, h.block⟩
theorem But.drewN {pb : Nat} {w w' : World} (n : Nat) (h : But pb w w') : But pb w (w'.drewN n) := ⟨h.os, h.tape, h.output, h.size, h.block⟩
theorem But.frozen {pb : Nat} {w w' : World} (h : But pb w w') {k o : Nat} (hk : k < w.heap.size) (hn : k ≠ pb) : w'.frozen? ⟨k, o, none⟩ = w.frozen? ⟨k, o, none⟩ :=
  World.frozen?_of_block (w := w) (a := ⟨k, o, none⟩) (h.block k hk hn)
end Go.Proofs.YtgbhfhnbmgkaoaaGreatDoor
namespace Go.Proofs.YtgbhfhnbmgkaoaaGreatDoor
open Go.RowKit

/-- A row of cells that lies in block b. -/
def Lies (w : World) (b : Nat) (l : List Value) (T : TypeId) : Prop := w.heap[b]? = some (.cells l.toArray T (0, 0))
theorem Lies.lt {w : World} {b : Nat} {l : List Value} {T : TypeId} (h : Lies w b l T) : b < w.heap.size := (Array.getElem?_eq_some_iff.1 h).1
theorem Lies.cell {w : World} {b i : Nat} {l : List Value} {T : TypeId} {v : Value} (h : Lies w b l T) (hv : l[i]? = some v) : w.cell? ⟨b, i, none⟩ = some v := by
  rw [cell_of_row w b i _ T (0, 0) h]
  simp [hv]
theorem Lies.free {w : World} {b : Nat} {l : List Value} {T : TypeId} (h : Lies w b l T) (i : Nat) : w.frozen? ⟨b, i, none⟩ = false := frozen_of_row w b i _ T h
theorem Lies.set {w : World} {b : Nat} {l : List Value} {T : TypeId} (h : Lies w b l T) (i : Nat) (v : Value) : Lies (w.setCell ⟨b, i, none⟩ v) b (l.set i v) T := by
  have := heap_setCell_same (i := i) w b _ T v h
  unfold Lies
  rw [this]
  simp
theorem Lies.but {w w' : World} {b pb : Nat} {l : List Value} {T : TypeId} (h : Lies w b l T) (hb : But pb w w') (hn : b ≠ pb) : Lies w' b l T := (hb.block b h.lt hn).trans h
theorem Lies.below {w w' : World} {b : Nat} {l : List Value} {T : TypeId} (h : Lies w b l T) (hb : Below w.heap.size w w') : Lies w' b l T := (hb.block b h.lt).trans h
theorem Lies.new (w : World) (l : List Value) (T : TypeId) : Lies (w.alloc (.cells l.toArray T)) w.heap.size l T := heap_alloc_new w _
end Go.Proofs.YtgbhfhnbmgkaoaaGreatDoor
