/-
  Texts and operations that stand in a slice. No program is run here.
-/
import Derived.Test.YtfdldjhndfohhaaDoorBlockLaws
namespace Go.Proofs.YtfdldjhndfohhaaDoor
open Go.RowKit BlockMath TextNat

def TextsIn (w : World) (pp : Option Addr) (xs : List ByteArray) : Prop := ∀ (i : Nat) (x : ByteArray), xs[i]? = some x → ∃ b off, pp = some ⟨b, off, none⟩ ∧ w.cell? ⟨b, off + i, none⟩ = some (.string x)
theorem TextsIn.grown {w w' : World} {pp : Option Addr} {xs : List ByteArray} (h : TextsIn w pp xs) (hb : Below w.heap.size w w') : TextsIn w' pp xs := fun i x hx => by
  obtain ⟨b, off, hp, h1⟩ := h i x hx
  exact ⟨b, off, hp, (hb.cell (p := ⟨b, off + i, none⟩) (World.block_lt_of_cell? w _ h1)).trans h1⟩
/-- An operation of a script. -/
structure OpV where
  k : Int
  s : ByteArray
  n : Int
  m : Int
def OpV.cells (o : OpV) : List Value := [.int .i64 o.k, .string o.s, .int .i64 o.n, .int .i64 o.m]
def OpV.right (o : OpV) : Prop := I64 o.k ∧ o.s.size ≤ 9223372036854775807 ∧ I64 o.n ∧ I64 o.m
def OpsIn (w : World) (pp : Option Addr) (xs : List OpV) : Prop := ∀ (i : Nat) (x : OpV), xs[i]? = some x → ∃ b off, pp = some ⟨b, off, none⟩ ∧ ∀ (j : Nat) (v : Value), x.cells[j]? = some v → w.cell? ⟨b, off + i * 4 + j, none⟩ = some v
theorem OpsIn.grown {w w' : World} {pp : Option Addr} {xs : List OpV} (h : OpsIn w pp xs) (hb : Below w.heap.size w w') : OpsIn w' pp xs := fun i x hx => by
  obtain ⟨b, off, hp, h1⟩ := h i x hx
  exact ⟨b, off, hp, fun j v hv => (hb.cell (p := ⟨b, off + i * 4 + j, none⟩) (World.block_lt_of_cell? w _ (h1 j v hv))).trans (h1 j v hv)⟩
theorem OpsIn.at {w : World} {pp : Option Addr} {xs : List OpV} (h : OpsIn w pp xs) {i : Nat} {x : OpV} (hx : xs[i]? = some x) : ∃ b off, pp = some ⟨b, off, none⟩ ∧
    w.cell? ⟨b, off + i * 4, none⟩ = some (.int .i64 x.k) ∧ w.cell? ⟨b, off + i * 4 + 1, none⟩ = some (.string x.s) ∧ w.cell? ⟨b, off + i * 4 + 2, none⟩ = some (.int .i64 x.n) ∧ w.cell? ⟨b, off + i * 4 + 3, none⟩ = some (.int .i64 x.m) := by
  obtain ⟨b, off, hp, h1⟩ := h i x hx
  exact ⟨b, off, hp, h1 0 _ rfl, h1 1 _ rfl, h1 2 _ rfl, h1 3 _ rfl⟩
end Go.Proofs.YtfdldjhndfohhaaDoor
