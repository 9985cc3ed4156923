/-
  A world as before but for some blocks, and what is new. No program is run here.
-/
import Derived.Test.YthafeccfcnmefaaDoorBut
import Derived.Below
namespace Go.Proofs.YthafeccfcnmefaaDoor
open Go.RowKit

/-- The world is as before but for these blocks, and what is new. -/
structure Apart (S : Nat → Prop) (w w' : World) : Prop where
  os : w'.os = w.os
  tape : w'.tape = w.tape
  output : w'.output = w.output
  size : w.heap.size ≤ w'.heap.size
  block : ∀ k, k < w.heap.size → ¬ S k → w'.heap[k]? = w.heap[k]?
theorem Apart.of {S : Nat → Prop} {w w' : World} (h : Below w.heap.size w w') : Apart S w w' := ⟨h.os, h.tape, h.output, h.size, fun k hk _ => h.block k hk⟩
theorem Apart.refl (S : Nat → Prop) (w : World) : Apart S w w := .of (Below.refl _ w)
theorem Apart.run {S S1 : Nat → Prop} {a b c : World} (h : Apart S a b) (k : Apart S1 b c) (hi : ∀ k, S1 k → S k ∨ a.heap.size ≤ k) : Apart S a c :=
  ⟨k.os.trans h.os, k.tape.trans h.tape, k.output.trans h.output, Nat.le_trans h.size k.size, fun i hl hn => (k.block i (Nat.lt_of_lt_of_le hl h.size) fun hs => (hi i hs).elim hn fun h => absurd hl (Nat.not_lt.2 h)).trans (h.block i hl hn)⟩
theorem Apart.under {S : Nat → Prop} {B : Nat} {w w' : World} (h : Apart S w w') (hS : ∀ k, S k → B ≤ k) (hB : B ≤ w.heap.size) : Below B w w' :=
  ⟨h.os, h.tape, h.output, h.size, fun k hk => h.block k (Nat.lt_of_lt_of_le hk hB) fun hs => absurd hk (Nat.not_lt.2 (hS k hs))⟩
end Go.Proofs.YthafeccfcnmefaaDoor
