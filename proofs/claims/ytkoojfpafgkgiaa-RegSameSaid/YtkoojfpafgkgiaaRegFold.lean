/-
  Plain mathematics of chapter 15: which cell wins, however the cells are merged; a row of cells stored into. No program is run here.
-/
import Derived.Test.YtkoojfpafgkgiaaRegOwn
import Derived.Test.YtkoojfpafgkgiaaRegTwo
import Derived.Test.YtkoojfpafgkgiaaBut
namespace Go.Proofs.Ytkoojfpafgkgiaa
open Go.RowKit TextNat RegMath

theorem mergeV_same {l l' : List RegV} (h : ∀ x, x ∈ l ↔ x ∈ l') : mergeV l = mergeV l' := by
  unfold mergeV
  rw [merge_same (l := l.map RegV.c) (l' := l'.map RegV.c)]
  intro x
  simp only [List.mem_map]
  exact ⟨fun ⟨y, hy, e⟩ => ⟨y, (h y).1 hy, e⟩, fun ⟨y, hy, e⟩ => ⟨y, (h y).2 hy, e⟩⟩
theorem mergeV_turn (xs : List RegV) (k : Nat) : mergeV (xs.drop k ++ xs.take k) = mergeV xs := mergeV_same fun x => by
  rw [List.mem_append]
  conv => rhs; rw [← List.take_append_drop k xs, List.mem_append]
  exact Or.comm
theorem mergeV_back (xs : List RegV) : mergeV xs.reverse = mergeV xs := mergeV_same fun _ => List.mem_reverse
theorem mergeV_two {a b : List RegV} (ha : a ≠ []) (hb : b ≠ []) : mergeV [mergeV a, mergeV b] = mergeV (a ++ b) := by
  show RegV.of (merge [(mergeV a).c, (mergeV b).c]) = RegV.of (merge ((a ++ b).map RegV.c))
  rw [mergeV_c ha, mergeV_c hb, List.map_append, merge_parts (by simpa using ha) (by simpa using hb)]
theorem mergeV_parts {xs : List RegV} {c : Nat} (h0 : 0 < c) (hc : c < xs.length) : mergeV [mergeV (xs.take c), mergeV (xs.drop c)] = mergeV xs := by
  rw [mergeV_two (fun e => by have := congrArg List.length e; rw [List.length_take, List.length_nil] at this; omega) (fun e => by have := congrArg List.length e; rw [List.length_drop, List.length_nil] at this; omega), List.take_append_drop]
theorem mergeV_again {xs : List RegV} (h : xs ≠ []) : mergeV (xs.reverse ++ [mergeV xs]) = mergeV xs := by
  refine mergeV_same fun x => ?_
  have := mergeV_mem h
  simp only [List.mem_append, List.mem_reverse, List.mem_singleton]
  exact ⟨fun hx => hx.elim id fun e => e ▸ this, .inl⟩
/-- What is reached, one by one, from the k-th on. -/
def oneV (xs : List RegV) (a : RegV) (i : Nat) : RegV := (xs.take i).foldl (fun o x => mergeV [x, o]) a
theorem oneV_zero (xs : List RegV) (a : RegV) : oneV xs a 0 = a := rfl
theorem oneV_step {xs : List RegV} {i : Nat} {x : RegV} (a : RegV) (h : xs[i]? = some x) : oneV xs a (i + 1) = mergeV [x, oneV xs a i] := by
  unfold oneV
  rw [List.take_add_one, h, List.foldl_append]
  rfl
theorem oneV_short {xs : List RegV} {a : RegV} (h : ShortR xs) (ha : a ∈ xs) : ∀ i : Nat, (oneV xs a i).value.size ≤ 281474976710656 := by
  intro i
  induction i with
  | zero => exact h a ha
  | succ i ih =>
    cases hx : xs[i]? with
    | some x =>
      rw [oneV_step a hx]
      exact (ShortR.two (h x (List.mem_of_getElem? hx)) ih).one (by simp)
    | none =>
      have h1 : xs.length ≤ i := List.getElem?_eq_none_iff.1 hx
      unfold oneV at ih ⊢
      rw [List.take_of_length_le (by omega)] at ih ⊢
      exact ih
theorem fold_c (l : List RegV) : ∀ a : RegV, (l.foldl (fun o x => mergeV [x, o]) a).c = (l.map RegV.c).foldl (fun o x => merge [x, o]) a.c := by
  induction l with
  | nil => intro a; rfl
  | cons x r ih =>
    intro a
    rw [List.foldl_cons, List.map_cons, List.foldl_cons, ih, mergeV_c (by simp)]
    rfl
theorem oneV_all {xs : List RegV} {a : RegV} (ha : a ∈ xs) : oneV xs a xs.length = mergeV xs := by
  apply RegV.c_one
  unfold oneV
  rw [List.take_length, fold_c, merge_fold [a.c] (xs.map RegV.c) a.c ⟨by simp, fun x hx => by rw [List.mem_singleton.1 hx]; exact above_self _⟩, mergeV_c (List.ne_nil_of_mem ha)]
  refine merge_same fun x => ?_
  simp only [List.mem_append, List.mem_singleton]
  exact ⟨fun h => h.elim (fun e => e ▸ List.mem_map_of_mem ha) id, .inr⟩
/-- The list of which the first i cells stand the other way round. -/
def turned15 (xs : List RegV) (i : Nat) : List RegV := xs.reverse.take i ++ xs.drop i
theorem turned15_zero (xs : List RegV) : turned15 xs 0 = xs := rfl
theorem turned15_len {xs : List RegV} {i : Nat} (h : i ≤ xs.length) : (turned15 xs i).length = xs.length := by
  unfold turned15
  rw [List.length_append, List.length_take, List.length_reverse, List.length_drop]
  omega
theorem turned15_all (xs : List RegV) : turned15 xs xs.length = xs.reverse := by
  unfold turned15
  rw [List.drop_length, List.append_nil, List.take_of_length_le (by rw [List.length_reverse]; exact Nat.le_refl _)]
theorem turned15_step {xs : List RegV} {i : Nat} {x : RegV} (hi : i < xs.length) (h : xs[xs.length - 1 - i]? = some x) : (turned15 xs i).set i x = turned15 xs (i + 1) := by
  unfold turned15
  have h1 : xs.reverse[i]? = some x := by rw [List.getElem?_reverse hi]; exact h
  rw [List.take_add_one, h1, List.drop_eq_getElem_cons hi]
  rw [List.set_append_right _ _ (by rw [List.length_take, List.length_reverse]; omega), List.length_take, List.length_reverse, Nat.min_eq_left (by omega), Nat.sub_self, List.set_cons_zero, List.append_assoc]
  rfl
theorem cells_set : ∀ {A : List RegV} {i : Nat} (a : RegV), i < A.length → (((((A.flatMap RegV.cells).set (i * 5) (.int .i64 a.time)).set (i * 5 + 1) (.int .i64 a.region)).set (i * 5 + 2) (.string a.value)).set (i * 5 + 3) (.bool a.gone)).set (i * 5 + 4) (.int .i64 a.life) = (A.set i a).flatMap RegV.cells
  | y :: r, 0, a, _ => rfl
  | y :: r, i + 1, a, h => by
    have ih := cells_set (A := r) (i := i) a (by simpa using h)
    rw [List.flatMap_cons, List.set_cons_succ, List.flatMap_cons, ← ih]
    have hl : (RegV.cells y).length = 5 := rfl
    rw [List.set_append_right _ _ (by rw [hl]; omega), List.set_append_right _ _ (by rw [hl]; omega), List.set_append_right _ _ (by rw [hl]; omega), List.set_append_right _ _ (by rw [hl]; omega), List.set_append_right _ _ (by rw [hl]; omega), hl]
    rw [show (i + 1) * 5 - 5 = i * 5 by omega, show (i + 1) * 5 + 1 - 5 = i * 5 + 1 by omega, show (i + 1) * 5 + 2 - 5 = i * 5 + 2 by omega, show (i + 1) * 5 + 3 - 5 = i * 5 + 3 by omega, show (i + 1) * 5 + 4 - 5 = i * 5 + 4 by omega]
/-- A cell stored into a row of one's own. -/
theorem OwnR.set {T : TypeId} {w : World} {B g n c : Nat} {A : List RegV} (h : OwnR T w B (.slice (some ⟨g, 0, none⟩) n c) A) {i : Nat} (a : RegV) (hi : i < A.length) :
    OwnR T (((((w.setCell ⟨g, i * 5, none⟩ (.int .i64 a.time)).setCell ⟨g, i * 5 + 1, none⟩ (.int .i64 a.region)).setCell ⟨g, i * 5 + 2, none⟩ (.string a.value)).setCell ⟨g, i * 5 + 3, none⟩ (.bool a.gone)).setCell ⟨g, i * 5 + 4, none⟩ (.int .i64 a.life)) B (.slice (some ⟨g, 0, none⟩) n c) (A.set i a) := by
  obtain ⟨p2, c2, hv⟩ := h.shape
  obtain ⟨_, rfl, rfl⟩ : p2 = some ⟨g, 0, none⟩ ∧ n = A.length ∧ c = c2 := by simp at hv; exact ⟨hv.1.symm, hv.2.1, hv.2.2⟩
  have h0 : w.ownsRow B T 5 (.slice (some ⟨g, 0, none⟩) A.length c) A.length (A.flatMap RegV.cells) := h
  have h5 := (((((h0.stored (i * 5) (.int .i64 a.time)).1.stored (i * 5 + 1) (.int .i64 a.region)).1.stored (i * 5 + 2) (.string a.value)).1.stored (i * 5 + 3) (.bool a.gone)).1.stored (i * 5 + 4) (.int .i64 a.life)).1
  unfold OwnR
  rw [List.length_set, ← cells_set a hi]
  exact h5
theorem but_five (w : World) (g a b c d e : Nat) (u v x y z : Value) : But g w (((((w.setCell ⟨g, a, none⟩ u).setCell ⟨g, b, none⟩ v).setCell ⟨g, c, none⟩ x).setCell ⟨g, d, none⟩ y).setCell ⟨g, e, none⟩ z) :=
  ((((But.set g a w u).trans (But.set g b _ v)).trans (But.set g c _ x)).trans (But.set g d _ y)).trans (But.set g e _ z)
/-- Five places of a block stored into. -/
theorem lies_five {w : World} {g : Nat} {T : TypeId} {a : RegV} (b : RegV) (h : Lies w g a.cells T) : Lies (((((w.setCell ⟨g, 0, none⟩ (.int .i64 b.time)).setCell ⟨g, 1, none⟩ (.int .i64 b.region)).setCell ⟨g, 2, none⟩ (.string b.value)).setCell ⟨g, 3, none⟩ (.bool b.gone)).setCell ⟨g, 4, none⟩ (.int .i64 b.life)) g b.cells T :=
  ((((h.set 0 _).set 1 _).set 2 _).set 3 _).set 4 _
end Go.Proofs.Ytkoojfpafgkgiaa
