/-
  Plain mathematics of chapter 6 over lists of integers: the count of a region, trimmed vectors, another count, the greatest and the least counts, covering. No program, no conditions but those typed.
-/
import Derived.Test.YtkdjfeaaojecdaaInts
namespace VecMath

/-- The count at the place i, from 0 on; behind the end it is 0. -/
def cnt (v : List Int) (i : Nat) : Int := v.getD i 0
theorem cnt_nil (i : Nat) : cnt [] i = 0 := by simp [cnt]
theorem cnt_zero (x : Int) (r : List Int) : cnt (x :: r) 0 = x := by simp [cnt]
theorem cnt_succ (x : Int) (r : List Int) (i : Nat) : cnt (x :: r) (i + 1) = cnt r i := by simp [cnt]
theorem cnt_behind {v : List Int} {i : Nat} (h : v.length ≤ i) : cnt v i = 0 := by simp [cnt, h]
theorem cnt_at {v : List Int} {i : Nat} {z : Int} (h : v[i]? = some z) : cnt v i = z := by simp [cnt, List.getD, h]
/-- The count of the region r. -/
def at_ (v : List Int) (r : Int) : Int := if 1 ≤ r then cnt v (r.toNat - 1) else 0
theorem at_nat (v : List Int) (i : Nat) : at_ v ((i + 1 : Nat) : Int) = cnt v i := by
  unfold at_
  rw [if_pos (by omega)]
  congr 1
/-- Without noughts at its end. -/
def trim : List Int → List Int
  | [] => []
  | x :: r => if (x :: r).all (· == 0) then [] else x :: trim r
theorem trim_all {v : List Int} (h : v.all (· == 0) = true) : trim v = [] := by
  cases v with
  | nil => rfl
  | cons x r => unfold trim; rw [if_pos h]
theorem trim_cons {x : Int} {r : List Int} (h : (x :: r).all (· == 0) = false) : trim (x :: r) = x :: trim r := by
  rw [trim, if_neg (by rw [h]; decide)]
theorem all_cnt {v : List Int} : v.all (· == 0) = true ↔ ∀ i, cnt v i = 0 := by
  constructor
  · intro h i
    rw [List.all_eq_true] at h
    by_cases hi : i < v.length
    · have h2 : v[i]? = some (v[i]'hi) := List.getElem?_eq_getElem hi
      rw [cnt_at h2]
      have := h _ (List.mem_of_getElem? h2)
      simpa using this
    · exact cnt_behind (by omega)
  · intro h
    rw [List.all_eq_true]
    intro z hz
    obtain ⟨i, hi⟩ := List.getElem?_of_mem hz
    have := h i
    rw [cnt_at hi] at this
    simp [this]
theorem cnt_trim : ∀ (v : List Int) (i : Nat), cnt (trim v) i = cnt v i
  | [], i => rfl
  | x :: r, i => by
    cases h : (x :: r).all (· == 0) with
    | true =>
      rw [trim_all h, cnt_nil]
      exact (all_cnt.1 h i).symm
    | false =>
      rw [trim_cons h]
      cases i with
      | zero => rw [cnt_zero, cnt_zero]
      | succ i => rw [cnt_succ, cnt_succ, cnt_trim r i]
theorem trim_len : ∀ v : List Int, (trim v).length ≤ v.length
  | [] => Nat.le_refl _
  | x :: r => by
    cases h : (x :: r).all (· == 0) with
    | true => rw [trim_all h]; exact Nat.zero_le _
    | false =>
      have := trim_len r
      rw [trim_cons h, List.length_cons, List.length_cons]
      omega
/-- Trimmed vectors are one if their counts are. -/
theorem trim_ext : ∀ {v u : List Int}, (∀ i, cnt v i = cnt u i) → trim v = trim u
  | [], u, h => by
    have : u.all (· == 0) = true := all_cnt.2 fun i => by rw [← h i, cnt_nil]
    rw [trim_all this]
    rfl
  | x :: r, [], h => by
    have : (x :: r).all (· == 0) = true := all_cnt.2 fun i => by rw [h i, cnt_nil]
    rw [trim_all this]
    rfl
  | x :: r, y :: s, h => by
    have h0 := h 0
    rw [cnt_zero, cnt_zero] at h0
    subst h0
    have hr : ∀ i, cnt r i = cnt s i := fun i => by have := h (i + 1); rwa [cnt_succ, cnt_succ] at this
    have ha : (x :: r).all (· == 0) = (x :: s).all (· == 0) := by
      rw [Bool.eq_iff_iff, all_cnt, all_cnt]
      exact ⟨fun k i => by rw [← h i]; exact k i, fun k i => by rw [h i]; exact k i⟩
    cases hx : (x :: r).all (· == 0) with
    | true => rw [trim_all hx, trim_all (by rw [← ha]; exact hx)]
    | false => rw [trim_cons hx, trim_cons (by rw [← ha]; exact hx), trim_ext hr]
theorem trim_trim (v : List Int) : trim (trim v) = trim v := trim_ext fun i => cnt_trim v i
theorem trim_eq {v u : List Int} : trim v = trim u ↔ ∀ i, cnt v i = cnt u i :=
  ⟨fun h i => by rw [← cnt_trim v, h, cnt_trim], trim_ext⟩
/-- So many counts, each by its place. -/
def made (n : Nat) (f : Nat → Int) : List Int := (List.range n).map f
theorem made_len (n : Nat) (f : Nat → Int) : (made n f).length = n := by simp [made]
theorem made_succ (n : Nat) (f : Nat → Int) : made (n + 1) f = made n f ++ [f n] := by simp [made, List.range_succ]
theorem made_at {n : Nat} {f : Nat → Int} {i : Nat} (h : i < n) : (made n f)[i]? = some (f i) := by simp [made, h]
theorem cnt_made {n : Nat} {f : Nat → Int} (h : ∀ i, n ≤ i → f i = 0) (i : Nat) : cnt (made n f) i = f i := by
  by_cases hi : i < n
  · exact cnt_at (made_at hi)
  · rw [cnt_behind (by rw [made_len]; omega), h i (by omega)]
/-- With another count at the place k. -/
def withN (v : List Int) (k : Nat) (n : Int) : List Int := trim (made (max v.length (k + 1)) fun i => if i = k then n else cnt v i)
def with_ (v : List Int) (r n : Int) : List Int := if 1 ≤ r ∧ r ≤ 16 then withN v (r.toNat - 1) n else trim v
theorem cnt_with (v : List Int) (k : Nat) (n : Int) (i : Nat) : cnt (withN v k n) i = if i = k then n else cnt v i := by
  unfold withN
  rw [cnt_trim, cnt_made]
  intro i hi
  rw [if_neg (by omega), cnt_behind (by omega)]
theorem with_at {v : List Int} {r n : Int} (h : 1 ≤ r ∧ r ≤ 16) : at_ (with_ v r n) r = n := by
  unfold with_ at_
  rw [if_pos h, if_pos h.1, cnt_with, if_pos rfl]
/-- How many places any has. -/
def longest (l : List (List Int)) : Nat := l.foldl (fun n v => max n v.length) 0
theorem longest_from : ∀ (l : List (List Int)) (n : Nat), n ≤ l.foldl (fun n v => max n v.length) n ∧ ∀ v ∈ l, v.length ≤ l.foldl (fun n v => max n v.length) n
  | [], n => ⟨Nat.le_refl _, by simp⟩
  | v :: l, n => by
    obtain ⟨h1, h2⟩ := longest_from l (max n v.length)
    rw [List.foldl_cons]
    refine ⟨by omega, fun u hu => ?_⟩
    rcases List.mem_cons.1 hu with rfl | hu
    · omega
    · exact h2 u hu
theorem longest_ge {l : List (List Int)} {v : List Int} (h : v ∈ l) : v.length ≤ longest l := (longest_from l 0).2 v h
/-- The greatest, the least count at a place of some vectors; 0 of none. -/
def most (l : List (List Int)) (i : Nat) : Int := match l with
  | [] => 0
  | v :: r => r.foldl (fun n u => max n (cnt u i)) (cnt v i)
def few (l : List (List Int)) (i : Nat) : Int := match l with
  | [] => 0
  | v :: r => r.foldl (fun n u => min n (cnt u i)) (cnt v i)
theorem fold_zero (g : Int → Int → Int) (hg : g 0 0 = 0) : ∀ (r : List (List Int)) (i : Nat), (∀ u ∈ r, u.length ≤ i) → r.foldl (fun n u => g n (cnt u i)) 0 = 0
  | [], _, _ => rfl
  | u :: r, i, h => by
    rw [List.foldl_cons, cnt_behind (h u (by simp)), hg]
    exact fold_zero g hg r i fun x hx => h x (by simp [hx])
theorem most_behind {l : List (List Int)} {i : Nat} (h : longest l ≤ i) : most l i = 0 := by
  cases l with
  | nil => rfl
  | cons v r =>
    show r.foldl (fun n u => max n (cnt u i)) (cnt v i) = 0
    rw [cnt_behind (Nat.le_trans (longest_ge (by simp)) h)]
    exact fold_zero max (by omega) r i fun u hu => Nat.le_trans (longest_ge (by simp [hu])) h
theorem few_behind {l : List (List Int)} {i : Nat} (h : longest l ≤ i) : few l i = 0 := by
  cases l with
  | nil => rfl
  | cons v r =>
    show r.foldl (fun n u => min n (cnt u i)) (cnt v i) = 0
    rw [cnt_behind (Nat.le_trans (longest_ge (by simp)) h)]
    exact fold_zero min (by omega) r i fun u hu => Nat.le_trans (longest_ge (by simp [hu])) h
def join (l : List (List Int)) : List Int := trim (made (longest l) (most l))
def least (l : List (List Int)) : List Int := trim (made (longest l) (few l))
theorem cnt_join (l : List (List Int)) (i : Nat) : cnt (join l) i = most l i := by
  unfold join
  rw [cnt_trim, cnt_made]
  exact fun i hi => most_behind hi
theorem cnt_least (l : List (List Int)) (i : Nat) : cnt (least l) i = few l i := by
  unfold least
  rw [cnt_trim, cnt_made]
  exact fun i hi => few_behind hi
theorem join_trim (l : List (List Int)) : trim (join l) = join l := trim_trim _
theorem least_trim (l : List (List Int)) : trim (least l) = least l := trim_trim _
theorem join_ext {l m : List (List Int)} (h : ∀ i, most l i = most m i) : join l = join m := by
  rw [← join_trim l, ← join_trim m]
  exact trim_ext fun i => by rw [cnt_join, cnt_join, h i]
theorem most_two (a b : List Int) (i : Nat) : most [a, b] i = max (cnt a i) (cnt b i) := rfl
theorem few_two (a b : List Int) (i : Nat) : few [a, b] i = min (cnt a i) (cnt b i) := rfl
/-- Is each count at least the other's? -/
def covers (a b : List Int) : Bool := (List.range (max a.length b.length)).all fun i => decide (cnt b i ≤ cnt a i)
theorem covers_iff {a b : List Int} : covers a b = true ↔ ∀ i, cnt b i ≤ cnt a i := by
  unfold covers
  rw [List.all_eq_true]
  constructor
  · intro h i
    by_cases hi : i < max a.length b.length
    · simpa using h i (List.mem_range.2 hi)
    · rw [cnt_behind (v := a) (by omega), cnt_behind (v := b) (by omega)]
      exact Int.le_refl _
  · intro h i _
    simpa using h i
theorem covers_refl (a : List Int) : covers a a = true := covers_iff.2 fun _ => Int.le_refl _
theorem covers_trans {a b c : List Int} (h : covers a b = true) (k : covers b c = true) : covers a c = true :=
  covers_iff.2 fun i => Int.le_trans (covers_iff.1 k i) (covers_iff.1 h i)
def rel (a b : List Int) : Int := if covers a b && covers b a then 0 else if covers a b then 1 else if covers b a then -1 else 2
theorem rel_zero (a b : List Int) : rel a b = 0 ↔ trim a = trim b := by
  unfold rel
  rw [trim_eq]
  cases h : covers a b with
  | true =>
    cases k : covers b a with
    | true =>
      have h1 := covers_iff.1 h
      have h2 := covers_iff.1 k
      simp
      intro i
      have := h1 i
      have := h2 i
      omega
    | false =>
      have hne : ¬ ∀ i, cnt a i = cnt b i := fun hc => by
        have : covers b a = true := covers_iff.2 fun i => by rw [hc i]; exact Int.le_refl _
        rw [k] at this
        cases this
      exact ⟨fun hh => absurd hh (by simp), fun hc => absurd hc hne⟩
  | false =>
    have hne : ¬ ∀ i, cnt a i = cnt b i := fun hc => by
      have : covers a b = true := covers_iff.2 fun i => by rw [hc i]; exact Int.le_refl _
      rw [h] at this
      cases this
    cases k : covers b a <;> exact ⟨fun hh => absurd hh (by simp), fun hc => absurd hc hne⟩
theorem rel_two (a b : List Int) : rel a b = 2 ↔ rel b a = 2 := by
  unfold rel
  cases covers a b <;> cases covers b a <;> simp
/-- What is joined covers each. -/
theorem join_covers_left (a b : List Int) : covers (join [a, b]) a = true := covers_iff.2 fun i => by rw [cnt_join, most_two]; omega
theorem join_covers_right (a b : List Int) : covers (join [a, b]) b = true := covers_iff.2 fun i => by rw [cnt_join, most_two]; omega
theorem join_least {a b c : List Int} (h : covers c a = true) (k : covers c b = true) : covers c (join [a, b]) = true :=
  covers_iff.2 fun i => by
    have := covers_iff.1 h i
    have := covers_iff.1 k i
    rw [cnt_join, most_two]
    omega
theorem join_comm (a b : List Int) : join [a, b] = join [b, a] := join_ext fun i => by rw [most_two, most_two]; omega
theorem join_again (a b : List Int) : join [join [a, b], a] = join [a, b] := join_ext fun i => by rw [most_two, cnt_join, most_two]; omega
theorem join_assoc (a b c : List Int) : join [join [a, b], c] = join [a, join [b, c]] := join_ext fun i => by rw [most_two, most_two, cnt_join, cnt_join, most_two, most_two]; omega
theorem least_left (a b : List Int) : covers a (least [a, b]) = true := covers_iff.2 fun i => by rw [cnt_least, few_two]; omega
theorem least_right (a b : List Int) : covers b (least [a, b]) = true := covers_iff.2 fun i => by rw [cnt_least, few_two]; omega
end VecMath
