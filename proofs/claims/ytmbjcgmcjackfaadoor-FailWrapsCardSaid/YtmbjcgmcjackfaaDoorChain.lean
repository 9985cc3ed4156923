/-
  Chains of wraps in memory: what they are, and that they stay where nothing of theirs is written. No program is run here.
-/
import Derived.Test.YtmbjcgmcjackfaaDoorBase
import Derived.Lib.Hide
namespace Go.Proofs.YtmbjcgmcjackfaaDoor
open Go.RowKit Go.Extern.Stop Go.Stop Go.Extern

/-- A wrap: its text and its number. -/
abbrev Wrap := ByteArray × Int

/-- 'v' is the chain of the wraps 'l', the outermost first, around 'last'; all its blocks lie below B. -/
def Chain (B : Nat) (w : World) : List Wrap → Value → Value → Prop
  | [], last, v => v = last
  | x :: l, last, v => ∃ b u, v = .iface 42 (.pointer (some ⟨b, 0, none⟩)) ∧ b < B ∧ w.cell? ⟨b, 0, none⟩ = some (.string x.1) ∧ w.cell? ⟨b, 1, none⟩ = some (.int .i64 x.2) ∧ w.cell? ⟨b, 2, none⟩ = some u ∧ Chain B w l last u

theorem Chain.mono {B B' : Nat} {w w' : World} (hb : Below B w w') (hB : B ≤ B') : ∀ {l : List Wrap} {last v : Value}, Chain B w l last v → Chain B' w' l last v
  | [], _, _, h => h
  | _ :: _, _, _, ⟨b, u, h1, h2, h3, h4, h5, h6⟩ => ⟨b, u, h1, by omega, (hb.cell (p := ⟨b, 0, none⟩) h2).trans h3, (hb.cell (p := ⟨b, 1, none⟩) h2).trans h4, (hb.cell (p := ⟨b, 2, none⟩) h2).trans h5, Chain.mono hb hB h6⟩

/-- A value of type error that these chains end in. -/
def Ends (last : Value) : Prop := last = .nilIface ∨ ∃ c : Int, last = .iface 35 (.int .i64 c)

/-- What a chain is at its head: an interface value, or nil. -/
theorem Chain.head {B : Nat} {w : World} {l : List Wrap} {last v : Value} (he : Ends last) (h : Chain B w l last v) : v = .nilIface ∨ ∃ T x, v = .iface T x := by
  cases l with
  | nil =>
    rcases he with he | ⟨c, he⟩
    · exact .inl (by rw [← he]; exact h)
    · exact .inr ⟨35, .int .i64 c, by rw [← he]; exact h⟩
  | cons x r =>
    obtain ⟨b, u, h1, _⟩ := h
    exact .inr ⟨_, _, h1⟩

/-- But for block 'pb' the world w' is as w was, as far as w went. -/
structure But (pb : Nat) (w w' : World) : Prop where
  os : w'.os = w.os
  tape : w'.tape = w.tape
  output : w'.output = w.output
  size : w.heap.size ≤ w'.heap.size
  block : ∀ k, k < w.heap.size → k ≠ pb → w'.heap[k]? = w.heap[k]?

theorem But.refl (pb : Nat) (w : World) : But pb w w := ⟨rfl, rfl, rfl, Nat.le_refl _, fun _ _ _ => rfl⟩
theorem But.trans {pb : Nat} {a b c : World} (h : But pb a b) (k : But pb b c) : But pb a c :=
  ⟨k.os.trans h.os, k.tape.trans h.tape, k.output.trans h.output, Nat.le_trans h.size k.size, fun i hi hn => (k.block i (by have := h.size; omega) hn).trans (h.block i hi hn)⟩
theorem But.of {pb : Nat} {w w' : World} (h : Below w.heap.size w w') : But pb w w' := ⟨h.os, h.tape, h.output, h.size, fun k hk _ => h.block k hk⟩
theorem But.set (pb o : Nat) (w : World) (v : Value) : But pb w (w.setCell ⟨pb, o, none⟩ v) :=
  ⟨rfl, rfl, rfl, by simp [World.setCell], fun k _ hn => Below.heap_setCell _ _ _ _ hn⟩
theorem But.below {pb : Nat} {w w' : World} (h : But pb w w') (hp : pb ≤ w.heap.size) : Below pb w w' :=
  ⟨h.os, h.tape, h.output, h.size, fun k hk => h.block k (by omega) (by omega)⟩
theorem But.cell {pb : Nat} {w w' : World} (h : But pb w w') {k o : Nat} (hk : k < w.heap.size) (hn : k ≠ pb) : w'.cell? ⟨k, o, none⟩ = w.cell? ⟨k, o, none⟩ :=
  World.cell?_of_block (w := w) (a := ⟨k, o, none⟩) (h.block k hk hn)

/-- The struct that through goes on with: at block pb; the function is 'f'. -/
structure Walk (pb f : Nat) (left : Int) (w : World) : Prop where
  stop : w.cell? ⟨pb, 0, none⟩ = some (.func (.func f) #[] #[])
  left : w.cell? ⟨pb, 1, none⟩ = some (.int .i64 left)
  endless : w.cell? ⟨pb, 2, none⟩ = some (.bool false)
  free : w.frozen? ⟨pb, 1, none⟩ = false

theorem Walk.set {pb f : Nat} {n m : Int} {w : World} (h : Walk pb f n w) : Walk pb f m (w.setCell ⟨pb, 1, none⟩ (.int .i64 m)) :=
  ⟨(World.cell?_setCell_other _ ⟨pb, 1, none⟩ ⟨pb, 0, none⟩ _ (by simp)).trans h.stop, World.cell?_setCell_same _ _ _ h.left, (World.cell?_setCell_other _ ⟨pb, 1, none⟩ ⟨pb, 2, none⟩ _ (by simp)).trans h.endless, by rw [World.frozen?_setCell]; exact h.free⟩

theorem cell_lt {w : World} {b o : Nat} {v : Value} (h : w.cell? ⟨b, o, none⟩ = some v) : b < w.heap.size := by
  rcases Nat.lt_or_ge b w.heap.size with g | g
  · exact g
  · simp [World.cell?, Array.getElem?_eq_none g] at h

theorem Walk.below {pb f : Nat} {n : Int} {w w' : World} (h : Walk pb f n w) (hb : Below w.heap.size w w') : Walk pb f n w' :=
  have hp : pb < w.heap.size := cell_lt h.stop
  ⟨(hb.cell (p := ⟨pb, 0, none⟩) hp).trans h.stop, (hb.cell (p := ⟨pb, 1, none⟩) hp).trans h.left, (hb.cell (p := ⟨pb, 2, none⟩) hp).trans h.endless, (hb.frozen (p := ⟨pb, 1, none⟩) hp).trans h.free⟩

theorem Walk.lt {pb f : Nat} {n : Int} {w : World} (h : Walk pb f n w) : pb < w.heap.size := cell_lt h.stop
end Go.Proofs.YtmbjcgmcjackfaaDoor
