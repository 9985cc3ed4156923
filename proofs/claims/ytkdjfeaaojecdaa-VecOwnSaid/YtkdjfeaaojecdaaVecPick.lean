/-
  Plain mathematics of a merge of vectors in which no vector is gone through beyond its own end: what stands in the row half-way, and that it comes to the greatest (the least) counts. No program, no conditions but those typed.
-/
import Derived.Test.YtkdjfeaaojecdaaVecJoin
namespace VecMath

/-- One of two is taken, the one that stands behind by R. -/
structure Picks (g : Int → Int → Int) (R : Int → Int → Prop) : Prop where
  sel : ∀ a b, g a b = a ∨ g a b = b
  left : ∀ a b, R a (g a b)
  right : ∀ a b, R b (g a b)
  trans : ∀ {a b c}, R a b → R b c → R a c
  anti : ∀ {a b}, R a b → R b a → a = b
theorem picks_max : Picks max (fun a b => a ≤ b) := ⟨fun a b => by omega, fun a b => by omega, fun a b => by omega, fun h k => Int.le_trans h k, fun h k => Int.le_antisymm h k⟩
theorem picks_min : Picks min (fun a b => b ≤ a) := ⟨fun a b => by omega, fun a b => by omega, fun a b => by omega, fun h k => Int.le_trans k h, fun h k => Int.le_antisymm k h⟩
/-- The one that is taken of all counts at a place. -/
def pick (g : Int → Int → Int) (l : List (List Int)) (i : Nat) : Int := match l with
  | [] => 0
  | v :: r => r.foldl (fun n u => g n (cnt u i)) (cnt v i)
theorem most_pick (l : List (List Int)) (i : Nat) : most l i = pick max l i := by cases l <;> rfl
theorem few_pick (l : List (List Int)) (i : Nat) : few l i = pick min l i := by cases l <;> rfl
theorem pick_snoc (g : Int → Int → Int) {l : List (List Int)} (h : l ≠ []) (v : List Int) (i : Nat) : pick g (l ++ [v]) i = g (pick g l i) (cnt v i) := by
  cases l with
  | nil => exact absurd rfl h
  | cons u r => simp [pick]
section
variable {g : Int → Int → Int} {R : Int → Int → Prop} (hg : Picks g R)
include hg
theorem Picks.same (a : Int) : g a a = a := by rcases hg.sel a a with h | h <;> exact h
theorem Picks.refl (a : Int) : R a a := by
  have := hg.left a a
  rwa [hg.same] at this
theorem fold_in : ∀ (r : List (List Int)) (n : Int) (i : Nat), r.foldl (fun n u => g n (cnt u i)) n = n ∨ ∃ u ∈ r, r.foldl (fun n u => g n (cnt u i)) n = cnt u i
  | [], n, i => .inl rfl
  | v :: r, n, i => by
    rw [List.foldl_cons]
    rcases fold_in r (g n (cnt v i)) i with h | ⟨u, hu, h⟩
    · rw [h]
      rcases hg.sel n (cnt v i) with k | k
      · exact .inl k
      · exact .inr ⟨v, by simp, k⟩
    · exact .inr ⟨u, by simp [hu], h⟩
theorem fold_ge : ∀ (r : List (List Int)) (n : Int) (i : Nat), R n (r.foldl (fun n u => g n (cnt u i)) n) ∧ ∀ u ∈ r, R (cnt u i) (r.foldl (fun n u => g n (cnt u i)) n)
  | [], n, i => ⟨hg.refl n, by simp⟩
  | v :: r, n, i => by
    obtain ⟨h1, h2⟩ := fold_ge r (g n (cnt v i)) i
    rw [List.foldl_cons]
    refine ⟨hg.trans (hg.left _ _) h1, fun u hu => ?_⟩
    rcases List.mem_cons.1 hu with rfl | hu
    · exact hg.trans (hg.right _ _) h1
    · exact h2 u hu
theorem pick_in {l : List (List Int)} (h : l ≠ []) (i : Nat) : ∃ v ∈ l, pick g l i = cnt v i := by
  cases l with
  | nil => exact absurd rfl h
  | cons v r =>
    rcases fold_in hg r (cnt v i) i with h | ⟨u, hu, h⟩
    · exact ⟨v, by simp, h⟩
    · exact ⟨u, by simp [hu], h⟩
theorem pick_ge {l : List (List Int)} {v : List Int} (h : v ∈ l) (i : Nat) : R (cnt v i) (pick g l i) := by
  cases l with
  | nil => simp at h
  | cons u r =>
    obtain ⟨h1, h2⟩ := fold_ge hg r (cnt u i) i
    rcases List.mem_cons.1 h with rfl | h
    · exact h1
    · exact h2 v h
end
/-- The vectors that have a count at the place k of their own. -/
def longer (l : List (List Int)) (k : Nat) : List (List Int) := l.filter fun v => decide (k < v.length)
theorem longer_take {l : List (List Int)} {i : Nat} {v : List Int} (h : l[i]? = some v) (k : Nat) : longer (l.take (i + 1)) k = longer (l.take i) k ++ (if k < v.length then [v] else []) := by
  unfold longer
  rw [List.take_add_one, h, List.filter_append]
  by_cases hk : k < v.length
  · simp [hk]
  · simp [hk]
theorem longer_none {l : List (List Int)} {k : Nat} (h : longest l ≤ k) : longer l k = [] := by
  unfold longer
  rw [List.filter_eq_nil_iff]
  intro v hv
  have := longest_ge hv
  simpa using (by omega : v.length ≤ k)
theorem longer_some {l : List (List Int)} {k : Nat} (h : k < longest l) : longer l k ≠ [] := fun he => by
  obtain ⟨v, hv, hl⟩ := longest_is l (by omega)
  have : v ∈ longer l k := List.mem_filter.2 ⟨hv, by simpa using (by omega : k < v.length)⟩
  rw [he] at this
  simp at this
/-- What is taken of those alone. -/
def part (g : Int → Int → Int) (l : List (List Int)) (k : Nat) : Int := pick g (longer l k) k
theorem part_short {g : Int → Int → Int} {l : List (List Int)} {i : Nat} {v : List Int} (h : l[i]? = some v) {k : Nat} (hk : v.length ≤ k) : part g (l.take (i + 1)) k = part g (l.take i) k := by
  unfold part
  rw [longer_take h, if_neg (by omega), List.append_nil]
theorem part_first {g : Int → Int → Int} {l : List (List Int)} {i : Nat} {v : List Int} (h : l[i]? = some v) {k : Nat} (hk : k < v.length) (hL : longest (l.take i) ≤ k) : part g (l.take (i + 1)) k = cnt v k := by
  unfold part
  rw [longer_take h, if_pos hk, longer_none hL]
  rfl
theorem part_next {g : Int → Int → Int} {l : List (List Int)} {i : Nat} {v : List Int} (h : l[i]? = some v) {k : Nat} (hk : k < v.length) (hL : k < longest (l.take i)) : part g (l.take (i + 1)) k = g (part g (l.take i) k) (cnt v k) := by
  unfold part
  rw [longer_take h, if_pos hk, pick_snoc g (longer_some hL)]
/-- Half-way through the i-th vector, and from there on. -/
def half (g : Int → Int → Int) (l : List (List Int)) (i j k : Nat) : Int := if k < j then part g (l.take (i + 1)) k else part g (l.take i) k
theorem made_ext {L : List Int} {n : Nat} {f : Nat → Int} (hl : L.length = n) (h : ∀ k, k < n → L[k]? = some (f k)) : L = made n f := by
  refine List.ext_getElem? fun k => ?_
  by_cases hk : k < n
  · rw [h k hk, made_at hk]
  · rw [List.getElem?_eq_none (by omega), List.getElem?_eq_none (by rw [made_len]; omega)]
theorem made_congr {n : Nat} {f f' : Nat → Int} (h : ∀ k, k < n → f k = f' k) : made n f = made n f' := made_ext (made_len n f) fun k hk => by rw [made_at hk, h k hk]
theorem made_set {n : Nat} {f f' : Nat → Int} {j : Nat} {x : Int} (hj : f' j = x) (h : ∀ k, k ≠ j → f' k = f k) : (made n f).set j x = made n f' := by
  refine made_ext (by rw [List.length_set, made_len]) fun k hk => ?_
  rw [List.getElem?_set]
  by_cases e : j = k
  · subst e
    rw [if_pos rfl, made_len, if_pos hk, hj]
  · rw [if_neg e, made_at hk, h k (fun q => e q.symm)]
theorem half_start (g : Int → Int → Int) (l : List (List Int)) (i n : Nat) : made n (half g l i 0) = made n (part g (l.take i)) := made_congr fun k _ => by unfold half; rw [if_neg (by omega)]
theorem half_new {g : Int → Int → Int} {R : Int → Int → Prop} (hg : Picks g R) {l : List (List Int)} {i j : Nat} {v : List Int} (h : l[i]? = some v) (hj : j < v.length) (hL : longest (l.take i) ≤ j) :
    (made j (half g l i j) ++ [cnt v j]).set j (g (cnt v j) (cnt v j)) = made (j + 1) (half g l i (j + 1)) := by
  rw [hg.same]
  refine made_ext (by simp [made_len]) fun k hk => ?_
  rw [List.getElem?_set]
  by_cases e : j = k
  · subst e
    rw [if_pos rfl, if_pos (by simp [made_len])]
    unfold half
    rw [if_pos (by omega), part_first h hj hL]
  · rw [if_neg e, List.getElem?_append_left (by rw [made_len]; omega), made_at (by omega)]
    unfold half
    rw [if_pos (by omega), if_pos (by omega)]
theorem half_on {g : Int → Int → Int} {l : List (List Int)} {i j : Nat} {v : List Int} (h : l[i]? = some v) (hj : j < v.length) (hL : j < longest (l.take i)) (n : Nat) :
    (made n (half g l i j)).set j (g (half g l i j j) (cnt v j)) = made n (half g l i (j + 1)) := by
  refine made_set ?_ fun k hk => ?_
  · unfold half
    rw [if_pos (by omega), if_neg (by omega), part_next h hj hL]
  · unfold half
    by_cases hkj : k < j
    · rw [if_pos (by omega), if_pos hkj]
    · rw [if_neg (by omega), if_neg hkj]
theorem half_done {g : Int → Int → Int} {l : List (List Int)} {i : Nat} {v : List Int} (h : l[i]? = some v) :
    made (max (longest (l.take i)) v.length) (half g l i v.length) = made (longest (l.take (i + 1))) (part g (l.take (i + 1))) := by
  rw [longest_take h]
  refine made_congr fun k _ => ?_
  unfold half
  by_cases hk : k < v.length
  · rw [if_pos hk]
  · rw [if_neg hk, part_short h (by omega)]
/-- Behind all: from the place s on the noughts of the shorter ones, as far as k. -/
def last (g : Int → Int → Int) (l : List (List Int)) (s k q : Nat) : Int := if s ≤ q ∧ q < k then g (part g l q) 0 else part g l q
theorem last_start (g : Int → Int → Int) (l : List (List Int)) (s n : Nat) : made n (last g l s s) = made n (part g l) := made_congr fun k _ => by unfold last; rw [if_neg (by omega)]
theorem last_on {g : Int → Int → Int} {l : List (List Int)} {s k : Nat} (hs : s ≤ k) (n : Nat) : (made n (last g l s k)).set k (g (last g l s k k) 0) = made n (last g l s (k + 1)) := by
  refine made_set ?_ fun q hq => ?_
  · unfold last
    rw [if_pos ⟨hs, by omega⟩, if_neg (by omega)]
  · unfold last
    by_cases h : s ≤ q ∧ q < k
    · rw [if_pos ⟨h.1, by omega⟩, if_pos h]
    · rw [if_neg (by omega), if_neg h]
theorem last_done {g : Int → Int → Int} {R : Int → Int → Prop} (hg : Picks g R) {l : List (List Int)} {s : Nat} (h1 : ∀ v ∈ l, s ≤ v.length) (h2 : ∃ v ∈ l, v.length ≤ s) : made (longest l) (last g l s (longest l)) = made (longest l) (pick g l) := by
  refine made_congr fun q hq => ?_
  unfold last
  by_cases h : s ≤ q
  · rw [if_pos ⟨h, hq⟩]
    obtain ⟨u, hu, hul⟩ := h2
    have hu0 : cnt u q = 0 := cnt_behind (by omega)
    have hne := longer_some hq
    have hl : l ≠ [] := fun e => by rw [e] at hu; simp at hu
    obtain ⟨v, hv, hve⟩ := pick_in hg hl q
    refine hg.anti ?_ ?_
    · rcases hg.sel (part g l q) 0 with k | k
      · rw [k]
        obtain ⟨x, hx, hxe⟩ := pick_in hg hne q
        unfold part
        rw [hxe]
        exact pick_ge hg (List.mem_filter.1 hx).1 q
      · rw [k, ← hu0]
        exact pick_ge hg hu q
    · rw [hve]
      by_cases hvq : q < v.length
      · exact hg.trans (pick_ge (l := longer l q) hg (List.mem_filter.2 ⟨hv, by simpa using hvq⟩) q) (hg.left _ _)
      · rw [cnt_behind (by omega)]
        exact hg.right _ _
  · rw [if_neg (by omega)]
    unfold part
    congr 1
    unfold longer
    rw [List.filter_eq_self]
    intro v hv
    have := h1 v hv
    simpa using (by omega : q < v.length)
end VecMath
