/-
  Texts of one claim, merged.
  StoreTwo: Two stores of one's own beside each other. No conditions but those typed.
  StorePair: A store of the program's own beside the document's: however both lie. No conditions but those typed.
  StorePair17: A store of the program's own beside the document's, and a block that stays: calls of the one, then of the other. No conditions but those typed.
-/
import Derived.Test.YtgbhfhnbmgkaoaaGreatDoorPart15
import Derived.Test.YtgbhfhnbmgkaoaaGreatDoorPart08
import Derived.Test.YtgbhfhnbmgkaoaaGreatDoorPart09
namespace Go.Proofs.YtgbhfhnbmgkaoaaGreatDoor
open Go.RowKit TextNat RegMath

/-- Two stores of one's own that share no block, and all that was before them as it was. -/
def Two16 (D : Sto) (w0 w : World) (a : Nat) (xs : List RowV) (b : Nat) (ys : List RowV) : Prop :=
  (∃ S T, D.at_ w a S xs ∧ D.at_ w b T ys ∧ (∀ k, S k → w0.heap.size ≤ k ∧ ¬ T k) ∧ (∀ k, T k → w0.heap.size ≤ k)) ∧ Below w0.heap.size w0 w
theorem Two16.swap {D : Sto} {w0 w : World} {a b : Nat} {xs ys : List RowV} (h : Two16 D w0 w a xs b ys) : Two16 D w0 w b ys a xs := by
  obtain ⟨⟨S, T, h1, h2, h3, h4⟩, h5⟩ := h
  exact ⟨⟨T, S, h2, h1, fun k hk => ⟨h4 k hk, fun e => (h3 k e).2 hk⟩, fun k hk => (h3 k hk).1⟩, h5⟩
theorem Two16.below {D : Sto} {w0 w w' : World} {a b : Nat} {xs ys : List RowV} (h : Two16 D w0 w a xs b ys) (hb : Below w.heap.size w w') : Two16 D w0 w' a xs b ys := by
  obtain ⟨⟨S, T, h1, h2, h3, h4⟩, h5⟩ := h
  exact ⟨⟨S, T, D.stays h1 hb.size fun k hk => hb.block k (D.lt h1 k hk), D.stays h2 hb.size fun k hk => hb.block k (D.lt h2 k hk), h3, h4⟩, h5.trans (hb.mono h5.size)⟩
theorem Two16.left {D : Sto} {w0 w : World} {a b : Nat} {xs ys : List RowV} (h : Two16 D w0 w a xs b ys) : OwnSto D w0 w a xs := by
  obtain ⟨⟨S, T, h1, h2, h3, h4⟩, h5⟩ := h
  exact ⟨⟨S, h1, fun k hk => (h3 k hk).1⟩, h5⟩
/-- A call of the first one leaves the other one as it is. -/
theorem Two16.does {D : Sto} {w0 w : World} {a b : Nat} {xs ys : List RowV} (h : Two16 D w0 w a xs b ys) : ∃ S, D.at_ w a S xs ∧ ∀ (w' : World) (zs : List RowV), DoesS D w a S zs w' → Two16 D w0 w' a zs b ys := by
  obtain ⟨⟨S, T, h1, h2, h3, h4⟩, h5⟩ := h
  refine ⟨S, h1, fun w' zs ⟨⟨S', k1, k2⟩, k3⟩ => ⟨⟨S', T, k1, D.stays h2 k3.size fun k hk => k3.block k (D.lt h2 k hk) fun e => (h3 k e).2 hk, fun k hk => ?_, h4⟩, ⟨k3.os.trans h5.os, k3.tape.trans h5.tape, k3.output.trans h5.output, Nat.le_trans h5.size k3.size, fun k hk => ?_⟩⟩⟩
  · rcases k2 k hk with e | e
    · exact h3 k e
    · exact ⟨Nat.le_trans h5.size e, fun t => by have := D.lt h2 k t; omega⟩
  · refine (k3.block k (Nat.lt_of_lt_of_le hk h5.size) fun e => ?_).trans (h5.block k hk)
    have := (h3 k e).1
    omega
theorem new_two {D : Sto} (hP : Store16 D) {w0 w : World} {a : Nat} {xs : List RowV} (h : OwnSto D w0 w a xs) : Calls Tryz.prog 14 #[] w fun e w' => ∃ b, e = .returned (ptr16 b) ∧ Two16 D w0 w' a xs b [] := by
  refine (hP.new w).mono ?_
  rintro e w' ⟨⟨b, T, rfl, h1, h2⟩, h3⟩
  obtain ⟨⟨S, k1, k2⟩, k3⟩ := h
  exact ⟨b, rfl, ⟨S, T, D.stays k1 h3.size fun k hk => h3.block k (D.lt k1 k hk), h1, fun k hk => ⟨k2 k hk, fun t => by have := D.lt k1 k hk; have := h2 k t; omega⟩, fun k hk => Nat.le_trans k3.size (h2 k hk)⟩, k3.trans (h3.mono k3.size)⟩
theorem apply_two {D : Sto} (hP : Store16 D) {w0 w : World} {a b : Nat} {xs ys : List RowV} (h : Two16 D w0 w a xs b ys) (hs : Short xs) (hn : xs.length ≤ 900) (y : WriteV) (hy : y.short w) :
    Calls Tryz.prog 12 #[ptr16 a, y.val] w fun e w' => e = .returned (.bool (applyV xs y).2) ∧ Two16 D w0 w' a (applyV xs y).1 b ys := by
  obtain ⟨S, h1, h2⟩ := h.does
  refine (hP.apply a S xs y w h1 hs hn hy).mono ?_
  rintro e w' ⟨rfl, h3⟩
  exact ⟨rfl, h2 _ _ h3⟩
end Go.Proofs.YtgbhfhnbmgkaoaaGreatDoor
namespace Go.Proofs.YtgbhfhnbmgkaoaaGreatDoor
open Go.RowKit TextNat RegMath

/-- The document's store x, whose rows lie at pp, beside a store s of the program's own whose blocks spare those. -/
def Pair16 (D : Sto) (w0 w : World) (s x : Nat) (xs : List RowV) : Prop :=
  (∃ S pp c, D.at_ w s S xs ∧ (∀ k, S k → w0.heap.size ≤ k) ∧ ¬ S x ∧ Lies w x [.slice pp xs.length c] 50 ∧ xs.length ≤ c ∧ c ≤ 9223372036854775807 ∧ RowsIn w pp xs ∧ (∀ a, pp = some a → ¬ S a.block ∧ a.block < w.heap.size) ∧ w0.heap.size ≤ x) ∧ Below w0.heap.size w0 w
theorem Pair16.own {D : Sto} {w0 w : World} {s x : Nat} {xs : List RowV} (h : Pair16 D w0 w s x xs) : OwnSto D w0 w s xs := by
  obtain ⟨⟨S, pp, c, h1, h2, _⟩, h5⟩ := h
  exact ⟨⟨S, h1, h2⟩, h5⟩
theorem Pair16.ref {D : Sto} {w0 w : World} {s x : Nat} {xs : List RowV} (h : Pair16 D w0 w s x xs) : RefSto w x xs := by
  obtain ⟨⟨S, pp, c, h1, h2, h3, h4, h5, h6, h7, _⟩, _⟩ := h
  exact ⟨pp, c, h4, h5, h6, h7⟩
theorem Pair16.below {D : Sto} {w0 w w' : World} {s x : Nat} {xs : List RowV} (h : Pair16 D w0 w s x xs) (hb : Below w.heap.size w w') : Pair16 D w0 w' s x xs := by
  obtain ⟨⟨S, pp, c, h1, h2, h3, h4, h5, h6, h7, h8, h9⟩, hB⟩ := h
  exact ⟨⟨S, pp, c, D.stays h1 hb.size fun k hk => hb.block k (D.lt h1 k hk), h2, h3, h4.below hb, h5, h6, h7.grown hb, fun a ha => ⟨(h8 a ha).1, Nat.lt_of_lt_of_le (h8 a ha).2 hb.size⟩, h9⟩, hB.trans (hb.mono hB.size)⟩
theorem Pair16.drewN {D : Sto} {w0 w : World} {s x : Nat} {xs : List RowV} (h : Pair16 D w0 w s x xs) (n : Nat) : Pair16 D w0 (w.drewN n) s x xs := h.below ⟨rfl, rfl, rfl, Nat.le_refl _, fun _ _ => rfl⟩
/-- Rows stay where only other blocks change. -/
theorem rows_stay {w w' : World} {pp : Option Addr} {xs : List RowV} (h : RowsIn w pp xs) (hb : ∀ a, pp = some a → w'.heap[a.block]? = w.heap[a.block]?) : RowsIn w' pp xs := fun i x hx => by
  obtain ⟨b, off, hp, hc⟩ := h i x hx
  exact ⟨b, off, hp, fun j u hj => (World.cell?_of_block (a := ⟨b, off + i * 7 + j, none⟩) (hb ⟨b, off, none⟩ hp)).trans (hc j u hj)⟩
/-- The two halves of a change: the program's first, then the document's. -/
def Half16 (D : Sto) (w0 w : World) (s x : Nat) (xs ys : List RowV) : Prop :=
  (∃ S pp c, D.at_ w s S ys ∧ (∀ k, S k → w0.heap.size ≤ k) ∧ ¬ S x ∧ Lies w x [.slice pp xs.length c] 50 ∧ xs.length ≤ c ∧ c ≤ 9223372036854775807 ∧ RowsIn w pp xs ∧ (∀ a, pp = some a → ¬ S a.block ∧ a.block < w.heap.size) ∧ w0.heap.size ≤ x) ∧ Below w0.heap.size w0 w
theorem Half16.below {D : Sto} {w0 w w' : World} {s x : Nat} {xs ys : List RowV} (h : Half16 D w0 w s x xs ys) (hb : Below w.heap.size w w') : Half16 D w0 w' s x xs ys := by
  obtain ⟨⟨S, pp, c, h1, h2, h3, h4, h5, h6, h7, h8, h9⟩, hB⟩ := h
  exact ⟨⟨S, pp, c, D.stays h1 hb.size fun k hk => hb.block k (D.lt h1 k hk), h2, h3, h4.below hb, h5, h6, h7.grown hb, fun a ha => ⟨(h8 a ha).1, Nat.lt_of_lt_of_le (h8 a ha).2 hb.size⟩, h9⟩, hB.trans (hb.mono hB.size)⟩
theorem Half16.ref {D : Sto} {w0 w : World} {s x : Nat} {xs ys : List RowV} (h : Half16 D w0 w s x xs ys) : RefSto w x xs := by
  obtain ⟨⟨S, pp, c, h1, h2, h3, h4, h5, h6, h7, _⟩, _⟩ := h
  exact ⟨pp, c, h4, h5, h6, h7⟩
/-- A change of the program's store. -/
theorem Pair16.does {D : Sto} {w0 w : World} {s x : Nat} {xs : List RowV} (h : Pair16 D w0 w s x xs) : ∃ S, D.at_ w s S xs ∧ ∀ (w' : World) (ys : List RowV), DoesS D w s S ys w' → Half16 D w0 w' s x xs ys ∧ ∀ g l T, ¬ S g → Lies w g l T → Lies w' g l T := by
  obtain ⟨⟨S, pp, c, h1, h2, h3, h4, h5, h6, h7, h8, h9⟩, hB⟩ := h
  refine ⟨S, h1, fun w' ys ⟨⟨S', k1, k2⟩, k3⟩ => ⟨⟨⟨S', pp, c, k1, fun k hk => ?_, fun e => ?_, (k3.block x h4.lt h3).trans h4, h5, h6, rows_stay h7 fun a ha => k3.block _ (h8 a ha).2 (h8 a ha).1, fun a ha => ⟨fun e => ?_, Nat.lt_of_lt_of_le (h8 a ha).2 k3.size⟩, h9⟩, ⟨k3.os.trans hB.os, k3.tape.trans hB.tape, k3.output.trans hB.output, Nat.le_trans hB.size k3.size, fun k hk => ?_⟩⟩, fun g l T hg hl => (k3.block g hl.lt hg).trans hl⟩⟩
  · rcases k2 k hk with e | e
    · exact h2 k e
    · exact Nat.le_trans hB.size e
  · rcases k2 x e with e | e
    · exact h3 e
    · have := h4.lt
      omega
  · rcases k2 _ e with e | e
    · exact (h8 a ha).1 e
    · have := (h8 a ha).2
      omega
  · refine (k3.block k (Nat.lt_of_lt_of_le hk hB.size) fun e => ?_).trans (hB.block k hk)
    have := h2 k e
    omega
/-- The same change of the document's store. -/
theorem Half16.done {D : Sto} {w0 w w' : World} {s x : Nat} {xs ys : List RowV} (h : Half16 D w0 w s x xs ys) (hr : RefStoX w w' x xs ys) (hb : But x w w') : Pair16 D w0 w' s x ys := by
  obtain ⟨⟨S, pp, c, h1, h2, h3, h4, h5, h6, h7, h8, h9⟩, hB⟩ := h
  obtain ⟨qq, d, k1, k2, k3, k4, k5⟩ := hr
  have hne : ∀ k, S k → k ≠ x := fun k hk e => h3 (e ▸ hk)
  refine ⟨⟨S, qq, d, D.stays h1 hb.size fun k hk => hb.block k (D.lt h1 k hk) (hne k hk), h2, h3, k1, k2, k3, k4, fun a ha => ?_, h9⟩, hB.trans (hb.below (w := w) ?_ |>.mono h9)⟩
  · rcases k5 with k5 | ⟨c0, k5⟩
    · have h10 := k5 a ha
      exact ⟨fun e => by have := D.lt h1 _ e; omega, h10.2⟩
    · have h10 : pp = qq := by
        have := (Lies.cell (i := 0) h4 rfl).symm.trans (Lies.cell (i := 0) k5 rfl)
        simp at this
        exact this.1
      subst h10
      exact ⟨(h8 a ha).1, Nat.lt_of_lt_of_le (h8 a ha).2 hb.size⟩
  · exact Nat.le_of_lt h4.lt
end Go.Proofs.YtgbhfhnbmgkaoaaGreatDoor
namespace Go.Proofs.YtgbhfhnbmgkaoaaGreatDoor
open Go.RowKit TextNat RegMath

/-- The program's store has ys, the document's xs; a block beside both. -/
def Half17 (D : Sto) (w0 w : World) (s x : Nat) (xs ys : List RowV) (g : Nat) (l : List Value) (T : TypeId) : Prop :=
  (∃ S pp c, D.at_ w s S ys ∧ (∀ k, S k → w0.heap.size ≤ k) ∧ ¬ S x ∧ Lies w x [.slice pp xs.length c] 50 ∧ xs.length ≤ c ∧ c ≤ 9223372036854775807 ∧ RowsIn w pp xs ∧ (∀ a, pp = some a → ¬ S a.block ∧ a.block < w.heap.size) ∧ w0.heap.size ≤ x ∧ ¬ S g) ∧ Below w0.heap.size w0 w ∧ Lies w g l T ∧ g ≠ x
section
variable {D : Sto} {w0 w w' : World} {s x g : Nat} {xs ys : List RowV} {l : List Value} {T : TypeId}
theorem Half17.lies (h : Half17 D w0 w s x xs ys g l T) : Lies w g l T := h.2.2.1
theorem Half17.ref (h : Half17 D w0 w s x xs ys g l T) : RefSto w x xs := by
  obtain ⟨⟨S, pp, c, h1, h2, h3, h4, h5, h6, h7, _⟩, _⟩ := h
  exact ⟨pp, c, h4, h5, h6, h7⟩
theorem Half17.pair (h : Half17 D w0 w s x xs xs g l T) : Pair16 D w0 w s x xs := by
  obtain ⟨⟨S, pp, c, h1, h2, h3, h4, h5, h6, h7, h8, h9, _⟩, hB, _⟩ := h
  exact ⟨⟨S, pp, c, h1, h2, h3, h4, h5, h6, h7, h8, h9⟩, hB⟩
theorem Half17.below (h : Half17 D w0 w s x xs ys g l T) (hb : Below w.heap.size w w') : Half17 D w0 w' s x xs ys g l T := by
  obtain ⟨⟨S, pp, c, h1, h2, h3, h4, h5, h6, h7, h8, h9, h10⟩, hB, hl, hn⟩ := h
  exact ⟨⟨S, pp, c, D.stays h1 hb.size fun k hk => hb.block k (D.lt h1 k hk), h2, h3, h4.below hb, h5, h6, h7.grown hb, fun a ha => ⟨(h8 a ha).1, Nat.lt_of_lt_of_le (h8 a ha).2 hb.size⟩, h9, h10⟩, hB.trans (hb.mono hB.size), hl.below hb, hn⟩
theorem Half17.drew (h : Half17 D w0 w s x xs ys g l T) : Half17 D w0 w.drew s x xs ys g l T := h.below ⟨rfl, rfl, rfl, Nat.le_refl _, fun _ _ => rfl⟩
theorem Half17.drewN (h : Half17 D w0 w s x xs ys g l T) (n : Nat) : Half17 D w0 (w.drewN n) s x xs ys g l T := h.below ⟨rfl, rfl, rfl, Nat.le_refl _, fun _ _ => rfl⟩
/-- A new block beside both. -/
theorem half17_new (h : Pair16 D w0 w s x xs) (l : List Value) (T : TypeId) : Half17 D w0 (w.alloc (.cells l.toArray T)) s x xs xs w.heap.size l T := by
  have hb : Below w.heap.size w (w.alloc (.cells l.toArray T)) := (Below.refl _ _).alloc (Nat.le_refl _) _
  obtain ⟨⟨S, pp, c, h1, h2, h3, h4, h5, h6, h7, h8, h9⟩, hB⟩ := h
  exact ⟨⟨S, pp, c, D.stays h1 hb.size fun k hk => hb.block k (D.lt h1 k hk), h2, h3, h4.below hb, h5, h6, h7.grown hb, fun a ha => ⟨(h8 a ha).1, Nat.lt_of_lt_of_le (h8 a ha).2 hb.size⟩, h9, fun e => by have := D.lt h1 _ e; omega⟩, hB.trans (hb.mono hB.size), Lies.new w l T, fun e => by have := h4.lt; omega⟩
/-- A change of the program's store. -/
theorem Half17.does (h : Half17 D w0 w s x xs ys g l T) : ∃ S, D.at_ w s S ys ∧ ∀ (w' : World) (zs : List RowV), DoesS D w s S zs w' → Half17 D w0 w' s x xs zs g l T := by
  obtain ⟨⟨S, pp, c, h1, h2, h3, h4, h5, h6, h7, h8, h9, h10⟩, hB, hl, hn⟩ := h
  refine ⟨S, h1, fun w' ys ⟨⟨S', k1, k2⟩, k3⟩ => ⟨⟨S', pp, c, k1, fun k hk => ?_, fun e => ?_, (k3.block x h4.lt h3).trans h4, h5, h6, rows_stay h7 fun a ha => k3.block _ (h8 a ha).2 (h8 a ha).1, fun a ha => ⟨fun e => ?_, Nat.lt_of_lt_of_le (h8 a ha).2 k3.size⟩, h9, fun e => ?_⟩, ⟨k3.os.trans hB.os, k3.tape.trans hB.tape, k3.output.trans hB.output, Nat.le_trans hB.size k3.size, fun k hk => ?_⟩, (k3.block g hl.lt h10).trans hl, hn⟩⟩
  · rcases k2 k hk with e | e
    · exact h2 k e
    · exact Nat.le_trans hB.size e
  · rcases k2 x e with e | e
    · exact h3 e
    · have := h4.lt
      omega
  · rcases k2 _ e with e | e
    · exact (h8 a ha).1 e
    · have := (h8 a ha).2
      omega
  · rcases k2 _ e with e | e
    · exact h10 e
    · have := hl.lt
      omega
  · refine (k3.block k (Nat.lt_of_lt_of_le hk hB.size) fun e => ?_).trans (hB.block k hk)
    have := h2 k e
    omega
/-- A change of the document's store. -/
theorem Half17.done {zs : List RowV} (h : Half17 D w0 w s x xs ys g l T) (hr : RefStoX w w' x xs zs) (hb : But x w w') : Half17 D w0 w' s x zs ys g l T := by
  obtain ⟨⟨S, pp, c, h1, h2, h3, h4, h5, h6, h7, h8, h9, h10⟩, hB, hl, hn⟩ := h
  obtain ⟨qq, d, k1, k2, k3, k4, k5⟩ := hr
  have hne : ∀ k, S k → k ≠ x := fun k hk e => h3 (e ▸ hk)
  refine ⟨⟨S, qq, d, D.stays h1 hb.size fun k hk => hb.block k (D.lt h1 k hk) (hne k hk), h2, h3, k1, k2, k3, k4, fun a ha => ?_, h9, h10⟩, hB.trans ((hb.below (Nat.le_of_lt h4.lt)).mono h9), hl.but hb hn, hn⟩
  rcases k5 with k5 | ⟨c0, k5⟩
  · have h11 := k5 a ha
    exact ⟨fun e => by have := D.lt h1 _ e; omega, h11.2⟩
  · have h11 : pp = qq := by
      have := (Lies.cell (i := 0) h4 rfl).symm.trans (Lies.cell (i := 0) k5 rfl)
      simp at this
      exact this.1
    subst h11
    exact ⟨(h8 a ha).1, Nat.lt_of_lt_of_le (h8 a ha).2 hb.size⟩
theorem half_apply_s (hP : Store16 D) (h : Half17 D w0 w s x xs xs g l T) (hs : Short xs) (hn : xs.length ≤ 900) (y : WriteV) (hy : y.short w) :
    Calls Tryz.prog 12 #[ptr16 s, y.val] w fun e w' => e = .returned (.bool (applyV xs y).2) ∧ Half17 D w0 w' s x xs (applyV xs y).1 g l T := by
  obtain ⟨S, h1, h2⟩ := h.does
  refine (hP.apply s S xs y w h1 hs hn hy).mono ?_
  rintro e w' ⟨rfl, h3⟩
  exact ⟨rfl, h2 _ _ h3⟩
theorem half_apply_x (h : Half17 D w0 w s x xs ys g l T) (hn : xs.length ≤ 900) (y : WriteV) :
    Calls Tryz.prog 13 #[ptr16 x, y.val] w fun e w' => e = .returned (.bool (applyV xs y).2) ∧ Half17 D w0 w' s x (applyV xs y).1 ys g l T := by
  refine (refApply16 x xs y w h.ref (by omega)).mono ?_
  rintro e w' ⟨rfl, h3, h4⟩
  exact ⟨rfl, h.done h3 h4⟩
end
/-- The document's empty store in a new block beside one of the program's own that has nothing. -/
theorem pair_new {D : Sto} {w0 w : World} {s : Nat} (h : OwnSto D w0 w s []) : Pair16 D w0 (w.alloc (.cells #[.slice none 0 0] 50)) s w.heap.size [] := by
  have hb : Below w.heap.size w (w.alloc (.cells #[.slice none 0 0] 50)) := (Below.refl _ _).alloc (Nat.le_refl _) _
  obtain ⟨⟨S, h1, h2⟩, h3⟩ := h
  exact ⟨⟨S, none, 0, D.stays h1 hb.size fun k hk => hb.block k (D.lt h1 k hk), h2, fun e => by have := D.lt h1 _ e; omega, Lies.new w [.slice none 0 0] _, Nat.le_refl _, by omega, RowsIn.nil _ _, fun a ha => (by cases ha), h3.size⟩, h3.trans (hb.mono h3.size)⟩
end Go.Proofs.YtgbhfhnbmgkaoaaGreatDoor
