/-
  A store whose cells stand in a map of maps: how it lies; what a look-up in it answers. No program is run here.
-/
import Derived.Test.YtgbhfhnbmgkaoaaGreatDoorPart21
import Derived.Test.YtgbhfhnbmgkaoaaGreatDoorNestMath
import Derived.Test.YtgbhfhnbmgkaoaaGreatDoorPart14
namespace Go.Proofs.YtgbhfhnbmgkaoaaGreatDoor
open Go.RowKit Go.Maps TextNat RegMath

abbrev sesE (p : ByteArray × Nat) : ByteArray × Option Nat := (p.1, some p.2)
/-- b: the store's block; m: its map, or none; os: the sessions, each with its map's block. -/
structure Nest (w : World) (b : Nat) (m : Option Nat) (os : List (ByteArray × Nat)) (xs : List RowV) : Prop where
  top : Lies w b [.map m] 91
  map : MapAt mapE w m (os.map sesE)
  inner : ∀ p ∈ os, MapAt cellE w (some p.2) (entS xs p.1)
  all : ∀ x ∈ xs, ∃ p ∈ os, p.1 = x.session
  apart : os.Pairwise fun p q => p.2 ≠ q.2
  out : ∀ p ∈ os, p.2 ≠ b ∧ m ≠ some p.2
  ne : m ≠ some b
def NestS (b : Nat) (m : Option Nat) (os : List (ByteArray × Nat)) : Nat → Prop := fun k => k = b ∨ m = some k ∨ ∃ p ∈ os, p.2 = k
theorem Nest.same {w w' : World} {b : Nat} {m : Option Nat} {os : List (ByteArray × Nat)} {xs : List RowV} (h : Nest w b m os xs) (e : ∀ k, NestS b m os k → w'.heap[k]? = w.heap[k]?) : Nest w' b m os xs where
  top := (e b (.inl rfl)).trans h.top
  map := h.map.same fun bm hm => e bm (.inr (.inl hm))
  inner p hp := (h.inner p hp).same fun k hk => by
    obtain rfl := Option.some.inj hk
    exact e _ (.inr (.inr ⟨p, hp, rfl⟩))
  all := h.all
  apart := h.apart
  out := h.out
  ne := h.ne
theorem Nest.lt {w : World} {b : Nat} {m : Option Nat} {os : List (ByteArray × Nat)} {xs : List RowV} (h : Nest w b m os xs) : ∀ k, NestS b m os k → k < w.heap.size := by
  rintro k (rfl | rfl | ⟨p, hp, rfl⟩)
  · exact h.top.lt
  · exact h.map.lt
  · exact (h.inner p hp).lt
theorem Nest.below {w w' : World} {b : Nat} {m : Option Nat} {os : List (ByteArray × Nat)} {xs : List RowV} (h : Nest w b m os xs) (hb : Below w.heap.size w w') : Nest w' b m os xs := h.same fun k hk => hb.block k (h.lt k hk)
/-- No session without a cell. -/
def Full16 (os : List (ByteArray × Nat)) (xs : List RowV) : Prop := ∀ p ∈ os, ∃ x ∈ xs, x.session = p.1
def NestAt (w : World) (b : Nat) (S : Nat → Prop) (xs : List RowV) : Prop := ∃ m os, Nest w b m os xs ∧ Full16 os xs ∧ S = NestS b m os
def sto16 : Sto where
  at_ := NestAt
  stays := by
    rintro w w' b S xs ⟨m, os, h, hf, rfl⟩ _ hs
    exact ⟨m, os, h.same hs, hf, rfl⟩
  lt := by
    rintro w b S xs ⟨m, os, h, hf, rfl⟩ k hk
    exact h.lt k hk
theorem Nest.keys {w : World} {b : Nat} {m : Option Nat} {os : List (ByteArray × Nat)} {xs : List RowV} (h : Nest w b m os xs) : os.Pairwise fun p q => p.1 ≠ q.1 := by
  have := h.map.apart
  rw [List.pairwise_map] at this
  exact this
theorem Nest.one {w : World} {b : Nat} {m : Option Nat} {os : List (ByteArray × Nat)} {xs : List RowV} (h : Nest w b m os xs) {p q : ByteArray × Nat} (hp : p ∈ os) (hq : q ∈ os) (e : p.1 = q.1) : p = q := by
  have := h.map.one (List.mem_map_of_mem (f := sesE) hp) (List.mem_map_of_mem (f := sesE) hq) e
  obtain ⟨s, k⟩ := p
  obtain ⟨t, j⟩ := q
  obtain ⟨h1, h2⟩ := Prod.mk.inj this
  simp only at h1 h2
  rw [h1, Option.some.inj h2]
theorem entS_none {xs : List RowV} {s : ByteArray} (h : ∀ x ∈ xs, x.session ≠ s) : entS xs s = [] := by
  unfold entS
  rw [show xs.filter (inS s) = [] from List.filter_eq_nil_iff.2 fun x hx e => h x hx (of_decide_eq_true e)]
  rfl
theorem nodup_len {α : Type} [DecidableEq α] : ∀ (l l' : List α), l.Nodup → (∀ x ∈ l, x ∈ l') → l.length ≤ l'.length := by
  intro l
  induction l with
  | nil => intro l' _ _; exact Nat.zero_le _
  | cons a l ih =>
    intro l' h1 h2
    obtain ⟨h3, h4⟩ := List.nodup_cons.1 h1
    have ha := h2 a (by simp)
    have := ih (l'.erase a) h4 fun x hx => (List.mem_erase_of_ne (fun e => h3 (by rw [← e]; exact hx))).2 (h2 x (List.mem_cons_of_mem _ hx))
    rw [List.length_erase_of_mem ha] at this
    have := List.length_pos_of_mem ha
    rw [List.length_cons]
    omega
/-- As many sessions as cells at most. -/
theorem few_sessions {os : List (ByteArray × Nat)} {xs : List RowV} (hk : os.Pairwise fun p q => p.1 ≠ q.1) (hf : Full16 os xs) : os.length ≤ xs.length := by
  have hn : (os.map Prod.fst).Nodup := List.pairwise_map.2 hk
  have hs : ∀ s ∈ os.map Prod.fst, s ∈ xs.map RowV.session := fun s hs => by
    obtain ⟨p, hp, rfl⟩ := List.mem_map.1 hs
    obtain ⟨x, hx, e⟩ := hf p hp
    exact List.mem_map.2 ⟨x, hx, e⟩
  have := nodup_len _ _ hn hs
  rwa [List.length_map, List.length_map] at this
theorem zero_cell (w : World) : (zeroValue 58).run Tryz.prog w = .ok (cellE.val zeroR) w := Tryz.zeroValue58 w
theorem zero_map (w : World) : (zeroValue 88).run Tryz.prog w = .ok (mapE.val none) w := Tryz.zeroValue88 w
/-- What a look-up of a session answers: its map, or none. -/
theorem Nest.sess {w : World} {b : Nat} {m : Option Nat} {os : List (ByteArray × Nat)} {xs : List RowV} (h : Nest w b m os xs) {s : ByteArray} (hs : s.size ≤ 1000) :
    ∃ m', (Instr.lookup 89 (.map m) (.string s) false).run Tryz.prog w = .ok (.map m') w ∧ MapAt cellE w m' (entS xs s) ∧ (∀ k, m' = some k → (s, k) ∈ os) ∧ (m' = none → ∀ p ∈ os, p.1 ≠ s) := by
  by_cases he : ∃ p ∈ os, p.1 = s
  · obtain ⟨p, hp, rfl⟩ := he
    refine ⟨some p.2, ?_, h.inner p hp, fun k hk => ?_, fun hn => by cases hn⟩
    · exact (h.map.look Tryz.underlying89 (zero_map w) (s := p.1) (by have := tk_fits hs; exact this) (r := some (some p.2)) (List.mem_map_of_mem (f := sesE) hp)).1
    · obtain rfl := Option.some.inj hk
      exact hp
  · have hn : ∀ p ∈ os, p.1 ≠ s := fun p hp e => he ⟨p, hp, e⟩
    refine ⟨none, ?_, ?_, fun k hk => (by cases hk), fun _ => hn⟩
    · refine (h.map.look Tryz.underlying89 (zero_map w) (s := s) (by have := tk_fits hs; exact this) (r := none) ?_).1
      intro c hc
      obtain ⟨p, hp, e⟩ := List.mem_map.1 hc
      exact hn p hp (Prod.mk.inj e).1
    · show entS xs s = []
      exact entS_none fun x hx e => by
        obtain ⟨p, hp, e2⟩ := h.all x hx
        exact hn p hp (e2.trans e)
/-- What a look-up of a key answers in a session's map. -/
theorem key_look {w : World} {m' : Option Nat} {xs : List RowV} {s : ByteArray} (h : MapAt cellE w m' (entS xs s)) {k : ByteArray} (hk : k.size ≤ 1000) :
    (Instr.lookup 88 (.map m') (.string k) false).run Tryz.prog w = .ok ((lookV xs s k).getD zeroR).val w ∧
    (Instr.lookup 88 (.map m') (.string k) true).run Tryz.prog w = .ok (.tuple #[((lookV xs s k).getD zeroR).val, .bool (lookV xs s k).isSome]) w :=
  h.look Tryz.underlying88 (zero_cell w) (by have := tk_fits hk; exact this) (finds_key xs s k)
theorem lookV_short {xs : List RowV} (h : Short xs) (s k : ByteArray) : ((lookV xs s k).getD zeroR).value.size ≤ 1000 := by
  unfold lookV
  cases hi : idxV xs s k with
  | none =>
    show zeroR.value.size ≤ 1000
    decide
  | some i =>
    obtain ⟨x, hx, _, _⟩ := idx_lt hi
    rw [show ((some i).bind fun i => xs[i]?.map RowV.cell) = some x.cell by simp [hx]]
    exact (h.texts x (List.mem_of_getElem? hx)).2.2
theorem text_isEmpty (k : ByteArray) : k.toList.isEmpty = decide (k.size = 0) := by
  rw [ByteArray.toList_eq, Bool.eq_iff_iff, List.isEmpty_iff, decide_eq_true_eq]
  constructor
  · intro h
    show k.data.size = 0
    rw [← Array.length_toList, h]
    rfl
  · intro h
    have : k.data.toList.length = 0 := by rw [Array.length_toList]; exact h
    exact List.length_eq_zero_iff.1 this
theorem OwnT16.same {w w' : World} {B : Nat} {v : Value} {A : List ByteArray} (h : OwnT16 w B v A) (hh : ∀ g, B ≤ g → g < w.heap.size → w'.heap[g]? = w.heap[g]?) : OwnT16 w' B v A := by
  refine ⟨h.1, ?_⟩
  rcases h.2 with h2 | ⟨g, cap, cur, h3, h4, h5, h6⟩
  · exact .inl h2
  · exact .inr ⟨g, cap, cur, h3, h4, (hh g h4 (Array.getElem?_eq_some_iff.1 h5).1).trans h5, h6⟩
theorem OwnS.sameS {T : TypeId} {w w' : World} {B : Nat} {v : Value} {A : List RowV} (h : OwnS T w B v A) (hh : ∀ g, B ≤ g → g < w.heap.size → w'.heap[g]? = w.heap[g]?) : OwnS T w' B v A := by
  refine ⟨h.1, ?_⟩
  rcases h.2 with h2 | ⟨g, cap, cur, h3, h4, h5, h6⟩
  · exact .inl h2
  · exact .inr ⟨g, cap, cur, h3, h4, (hh g h4 (Array.getElem?_eq_some_iff.1 h5).1).trans h5, h6⟩
theorem ent_short {xs : List RowV} (h : Short xs) {s : ByteArray} (hf : ∃ x ∈ xs, x.session = s) : s.size ≤ 1000 := by
  obtain ⟨x, hx, rfl⟩ := hf
  exact (h.texts x hx).1
theorem entS_short {xs : List RowV} (h : Short xs) {s : ByteArray} {p : ByteArray × RegV} (hp : p ∈ entS xs s) : p.1.size ≤ 1000 ∧ p.2.value.size ≤ 1000 := by
  obtain ⟨k, c⟩ := p
  have := h.texts _ (mem_entS.1 hp)
  exact ⟨this.2.1, this.2.2⟩
theorem entS_few {xs : List RowV} (h : Short xs) (s : ByteArray) : (entS xs s).length ≤ 1000 := by
  unfold entS
  rw [List.length_map]
  exact Nat.le_trans (List.length_filter_le _ _) h.few
end Go.Proofs.YtgbhfhnbmgkaoaaGreatDoor
