/-
  Two stores of one's own beside a block that stays. No conditions but those typed.
-/
import Derived.Test.YtgbhfhnbmgkaoaaPart16
namespace Go.Proofs.Ytgbhfhnbmgkaoaa
open Go.RowKit TextNat RegMath

/-- Two stores of one's own, and a block beside them. -/
def Two17 (D : Sto) (w0 w : World) (a : Nat) (xs : List RowV) (b : Nat) (ys : List RowV) (g : Nat) (l : List Value) (T : TypeId) : Prop :=
  (∃ S U, D.at_ w a S xs ∧ D.at_ w b U ys ∧ (∀ k, S k → w0.heap.size ≤ k ∧ ¬ U k) ∧ (∀ k, U k → w0.heap.size ≤ k) ∧ ¬ S g ∧ ¬ U g) ∧ Below w0.heap.size w0 w ∧ Lies w g l T
theorem Two17.two {D : Sto} {w0 w : World} {a b g : Nat} {xs ys : List RowV} {l : List Value} {T : TypeId} (h : Two17 D w0 w a xs b ys g l T) : Two16 D w0 w a xs b ys := by
  obtain ⟨⟨S, U, h1, h2, h3, h4, _, _⟩, h5, _⟩ := h
  exact ⟨⟨S, U, h1, h2, h3, h4⟩, h5⟩
theorem Two17.lies {D : Sto} {w0 w : World} {a b g : Nat} {xs ys : List RowV} {l : List Value} {T : TypeId} (h : Two17 D w0 w a xs b ys g l T) : Lies w g l T := h.2.2
theorem Two17.swap {D : Sto} {w0 w : World} {a b g : Nat} {xs ys : List RowV} {l : List Value} {T : TypeId} (h : Two17 D w0 w a xs b ys g l T) : Two17 D w0 w b ys a xs g l T := by
  obtain ⟨⟨S, U, h1, h2, h3, h4, h6, h7⟩, h5, h8⟩ := h
  exact ⟨⟨U, S, h2, h1, fun k hk => ⟨h4 k hk, fun e => (h3 k e).2 hk⟩, fun k hk => (h3 k hk).1, h7, h6⟩, h5, h8⟩
theorem Two17.drew {D : Sto} {w0 w : World} {a b g : Nat} {xs ys : List RowV} {l : List Value} {T : TypeId} (h : Two17 D w0 w a xs b ys g l T) : Two17 D w0 w.drew a xs b ys g l T := by
  obtain ⟨⟨S, U, h1, h2, h3, h4, h6, h7⟩, h5, h8⟩ := h
  exact ⟨⟨S, U, D.stays h1 (Nat.le_refl _) fun k _ => rfl, D.stays h2 (Nat.le_refl _) fun k _ => rfl, h3, h4, h6, h7⟩, ⟨h5.os, h5.tape, h5.output, h5.size, h5.block⟩, h8⟩
/-- A new block beside two stores. -/
theorem two17_new {D : Sto} {w0 w : World} {a b : Nat} {xs ys : List RowV} (h : Two16 D w0 w a xs b ys) (l : List Value) (T : TypeId) : Two17 D w0 (w.alloc (.cells l.toArray T)) a xs b ys w.heap.size l T := by
  have hal : Below w.heap.size w (w.alloc (.cells l.toArray T)) := (Below.refl _ _).alloc (Nat.le_refl _) _
  obtain ⟨⟨S, U, h1, h2, h3, h4⟩, h5⟩ := h
  exact ⟨⟨S, U, D.stays h1 hal.size fun k hk => hal.block k (D.lt h1 k hk), D.stays h2 hal.size fun k hk => hal.block k (D.lt h2 k hk), h3, h4, fun e => by have := D.lt h1 _ e; omega, fun e => by have := D.lt h2 _ e; omega⟩, h5.trans (hal.mono h5.size), Lies.new w l T⟩
/-- Apply of the first one leaves the other one and the block as they are. -/
theorem apply_17 {D : Sto} (hP : Store16 D) {w0 w : World} {a b g : Nat} {xs ys : List RowV} {l : List Value} {T : TypeId} (h : Two17 D w0 w a xs b ys g l T) (hs : Short xs) (hn : xs.length ≤ 900) (y : WriteV) (hy : y.short w) :
    Calls Try.prog 12 #[ptr16 a, y.val] w fun e w' => e = .returned (.bool (applyV xs y).2) ∧ Two17 D w0 w' a (applyV xs y).1 b ys g l T := by
  obtain ⟨⟨S, U, h1, h2, h3, h4, h6, h7⟩, h5, h8⟩ := h
  refine (hP.apply a S xs y w h1 hs hn hy).mono ?_
  rintro e w' ⟨rfl, ⟨S', k1, k2⟩, k3⟩
  refine ⟨rfl, ⟨S', U, k1, D.stays h2 k3.size fun k hk => k3.block k (D.lt h2 k hk) fun e => (h3 k e).2 hk, fun k hk => ?_, h4, fun e => ?_, h7⟩, ⟨k3.os.trans h5.os, k3.tape.trans h5.tape, k3.output.trans h5.output, Nat.le_trans h5.size k3.size, fun k hk => ?_⟩, (k3.block _ h8.lt h6).trans h8⟩
  · rcases k2 k hk with e | e
    · exact h3 k e
    · exact ⟨Nat.le_trans h5.size e, fun t => by have := D.lt h2 k t; omega⟩
  · rcases k2 _ e with e | e
    · exact h6 e
    · have := h8.lt
      omega
  · refine (k3.block k (Nat.lt_of_lt_of_le hk h5.size) fun e => ?_).trans (h5.block k hk)
    have := (h3 k e).1
    omega
end Go.Proofs.Ytgbhfhnbmgkaoaa
