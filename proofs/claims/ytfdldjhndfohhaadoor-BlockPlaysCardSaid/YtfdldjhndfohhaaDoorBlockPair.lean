/-
  A device of the program beside the document's own, as chapter 8's law plays them. No program is run here.
-/
import Derived.Test.YtfdldjhndfohhaaDoorBlockTold
namespace Go.Proofs.YtfdldjhndfohhaaDoor
open Go.RowKit BlockMath TextNat

/-- Both devices, of one state, in blocks apart, behind B; the variable that fail.Place reads lies ahead of B. -/
structure Pair (D : Dev) (B : Nat) (w : World) (b v : Nat) (d : Dk) : Prop where
  own : ∃ S, D.at_ w b S d ∧ (∀ k, S k → B ≤ k) ∧ ¬ S v
  rd : Rd w v d
  ok : Ok d
  le : B ≤ v
  bs : B ≤ w.heap.size
  handle : Handle w
  hb : 0 < B
theorem Pair.below {D : Dev} {B b v : Nat} {w w' : World} {d : Dk} (h : Pair D B w b v d) (hb : Below w.heap.size w w') : Pair D B w' b v d := by
  obtain ⟨S, h1, h2, h3⟩ := h.own
  exact ⟨⟨S, D.stays h1 hb.size fun j hj => hb.block j (D.lt h1 j hj), h2, h3⟩, h.rd.below hb, h.ok, h.le, Nat.le_trans h.bs hb.size, h.handle.below hb h.handle.lt, h.hb⟩
theorem Apart.mono {S T : Nat → Prop} {w w' : World} (h : Apart S w w') (hs : ∀ k, S k → T k) : Apart T w w' := ⟨h.os, h.tape, h.output, h.size, fun k hk hn => h.block k hk fun hk2 => hn (hs k hk2)⟩
theorem Apart.below {S : Nat → Prop} {B : Nat} {w w' : World} (h : Apart S w w') (hB : B ≤ w.heap.size) (hs : ∀ k, S k → B ≤ k) : Below B w w' :=
  ⟨h.os, h.tape, h.output, h.size, fun k hk => h.block k (by omega) fun hk2 => by have := hs k hk2; omega⟩
theorem Apart.cell_at {S : Nat → Prop} {w w' : World} (h : Apart S w w') {k o : Nat} (hk : k < w.heap.size) (hn : ¬ S k) : w'.cell? ⟨k, o, none⟩ = w.cell? ⟨k, o, none⟩ := by
  have := h.block k hk hn
  simp [World.cell?, this]
/-- The program's device has gone on, the document's not yet: an error, if there is one, lies in new blocks. -/
structure Half (D : Dev) (B : Nat) (w w1 : World) (b v : Nat) (d d' : Dk) : Prop where
  own : ∃ S, D.at_ w1 b S d' ∧ (∀ k, S k → B ≤ k) ∧ ¬ S v
  rd : Rd w1 v d
  bel : Below B w w1
  handle : Handle w1
  size : w.heap.size ≤ w1.heap.size
  lt : v < w.heap.size
theorem Pair.half {D : Dev} {B b v : Nat} {w w1 : World} {d d' : Dk} (h : Pair D B w b v d) {S : Nat → Prop} (hS : ∀ k, S k → B ≤ k) (hv : ¬ S v) (hd : Does D w b S d' w1) : Half D B w w1 b v d d' := by
  obtain ⟨⟨S', h1, h2⟩, h3⟩ := hd
  have hlt := Lies.lt h.rd
  refine ⟨⟨S', h1, fun k hk => ?_, fun hk => ?_⟩, (h3.block v hlt hv).trans h.rd, h3.below h.bs hS, ?_, h3.size, hlt⟩
  · rcases h2 k hk with h | h
    · exact hS k h
    · have := h2; have := ‹Pair D B w b v d›.bs; omega
  · rcases h2 v hk with h | h
    · exact hv h
    · omega
  · exact h.handle.below (h3.below h.bs hS) h.hb
/-- Then the document's goes on, too. -/
theorem Half.full {D : Dev} {B b v : Nat} {w w1 w2 : World} {d d' : Dk} (h : Half D B w w1 b v d d') (ok : Ok d') (le : B ≤ v) (bs : B ≤ w.heap.size) (hB : 0 < B) (hr : Rd w2 v d') (hb : But v w1 w2) : Pair D B w2 b v d' ∧ Below B w w2 := by
  obtain ⟨S, h1, h2, h3⟩ := h.own
  have hbel : Below B w1 w2 := ⟨hb.os, hb.tape, hb.output, hb.size, fun k hk => hb.block k (by have := h.size; omega) (by omega)⟩
  refine ⟨⟨⟨S, D.stays h1 hb.size fun j hj => hb.block j (D.lt h1 j hj) (fun e => h3 (e ▸ hj)), h2, h3⟩, hr, ok, le, by have := hb.size; have := h.size; omega, h.handle.below hbel hB, hB⟩, h.bel.trans hbel⟩
theorem ErrOf.full {B : Nat} {v : Nat} {w1 w2 : World} {c n : Int} {x : Value} (h : ErrOf B w1 c n x) (hv : v < B) (hb : But v w1 w2) : ErrOf B w2 c n x := by
  unfold ErrOf at *
  split
  · rename_i hc
    rwa [if_pos hc] at h
  · rename_i hc
    rw [if_neg hc] at h
    exact h.keep hb.size fun k h1 h2 => hb.block k h2 (by omega)
theorem ErrOf.drewN {B : Nat} {w : World} {c n : Int} {x : Value} (h : ErrOf B w c n x) (m : Nat) : ErrOf B (w.drewN m) c n x := by
  unfold ErrOf at *
  split
  · rename_i hc
    rwa [if_pos hc] at h
  · rename_i hc
    rw [if_neg hc] at h
    exact h.keep (Nat.le_refl _) fun k _ _ => rfl
theorem append_code (s : ByteArray) (d : Dk) : (append s d).1 = 0 ∨ (append s d).1 = 1 ∨ (append s d).1 = 4 ∨ (append s d).1 = 5 := by
  unfold append
  split <;> (try split) <;> simp
theorem sync_code (d : Dk) : (sync d).1 = 0 ∨ (sync d).1 = 1 ∨ (sync d).1 = 4 ∨ (sync d).1 = 5 := by
  unfold sync
  split <;> simp
theorem cut_code (n : Int) (d : Dk) : (cut n d).1 = 0 ∨ (cut n d).1 = 1 ∨ (cut n d).1 = 4 ∨ (cut n d).1 = 5 := by
  unfold cut
  split <;> (try split) <;> simp
theorem read_code (n m : Int) (d : Dk) : (BlockMath.read n m d).2 = 0 ∨ (BlockMath.read n m d).2 = 1 ∨ (BlockMath.read n m d).2 = 4 ∨ (BlockMath.read n m d).2 = 5 := by
  unfold BlockMath.read
  split <;> (try split) <;> simp
end Go.Proofs.YtfdldjhndfohhaaDoor
