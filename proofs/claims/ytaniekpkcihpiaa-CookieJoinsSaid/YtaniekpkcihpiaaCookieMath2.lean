/-
  Plain mathematics of chapter 13: two headers joined, the one pair with a name, lengths. No program is run here.
-/
import Derived.Test.YtaniekpkcihpiaaCookieMath
namespace CookieMath
open TextMath

/-- What stands ahead of a semicolon and a blank is a header of its own, and what stands behind is read anew. -/
theorem run_app (r : List Nat) : ∀ (s : List Nat) (st : Nat) (cur name : List Nat) (out : List Pair) (i : Nat),
    (∀ L, run st cur name out s i = .inl L → run st cur name out (s ++ 59 :: 32 :: r) i = run 0 [] [] L r (i + s.length + 2)) ∧
    (∀ k, run st cur name out s i = .inr k → ∃ k', run st cur name out (s ++ 59 :: 32 :: r) i = .inr k')
  | [], st, cur, name, out, i => by
    by_cases h1 : st = 1
    · subst h1
      refine ⟨fun L h => ?_, fun k h => ?_⟩
      · rw [run, if_pos rfl] at h
        obtain rfl := Sum.inl.inj h
        rw [List.nil_append, run_cons, if_neg (by decide), if_pos rfl, if_neg (by rw [semi_no]; decide), if_neg (fun h => h rfl)]
        rw [run_cons, if_neg (by decide), if_neg (by decide), if_neg (fun h => h rfl)]
        rfl
      · rw [run, if_pos rfl] at h
        cases h
    · refine ⟨fun L h => ?_, fun k _ => ?_⟩
      · rw [run, if_neg h1] at h
        cases h
      · rw [List.nil_append, run_cons]
        by_cases h0 : st = 0
        · rw [if_pos h0, if_neg (by decide), if_pos (.inl (by decide))]
          exact ⟨_, rfl⟩
        · rw [if_neg h0, if_neg h1, if_pos (by decide)]
          exact ⟨_, rfl⟩
  | c :: s, st, cur, name, out, i => by
    rw [List.cons_append, run_cons, run_cons, List.length_cons, show i + (s.length + 1) + 2 = (i + 1) + s.length + 2 by omega]
    by_cases h0 : st = 0
    · rw [if_pos h0, if_pos h0]
      by_cases ht : tokenOctet c = true
      · rw [if_pos ht, if_pos ht]
        exact run_app r s _ _ _ _ _
      · rw [if_neg ht, if_neg ht]
        by_cases he : c ≠ 61 ∨ cur = []
        · rw [if_pos he, if_pos he]
          exact ⟨fun L h => (by cases h), fun k _ => ⟨_, rfl⟩⟩
        · rw [if_neg he, if_neg he]
          exact run_app r s _ _ _ _ _
    · rw [if_neg h0, if_neg h0]
      by_cases h1 : st = 1
      · rw [if_pos h1, if_pos h1]
        by_cases ht : octet c = true
        · rw [if_pos ht, if_pos ht]
          exact run_app r s _ _ _ _ _
        · rw [if_neg ht, if_neg ht]
          by_cases he : c ≠ 59
          · rw [if_pos he, if_pos he]
            exact ⟨fun L h => (by cases h), fun k _ => ⟨_, rfl⟩⟩
          · rw [if_neg he, if_neg he]
            exact run_app r s _ _ _ _ _
      · rw [if_neg h1, if_neg h1]
        by_cases he : c ≠ 32
        · rw [if_pos he, if_pos he]
          exact ⟨fun L h => (by cases h), fun k _ => ⟨_, rfl⟩⟩
        · rw [if_neg he, if_neg he]
          exact run_app r s _ _ _ _ _
/-- What was read before stays ahead, and the place plays no part. -/
theorem run_shift (o : List Pair) : ∀ (r : List Nat) (st : Nat) (cur name : List Nat) (out : List Pair) (i j : Nat),
    (∀ L, run st cur name out r i = .inl L → run st cur name (o ++ out) r j = .inl (o ++ L)) ∧
    (∀ k, run st cur name out r i = .inr k → ∃ k', run st cur name (o ++ out) r j = .inr k')
  | [], st, cur, name, out, i, j => by
    rw [run, run]
    by_cases h1 : st = 1
    · rw [if_pos h1, if_pos h1]
      refine ⟨fun L h => ?_, fun k h => (by cases h)⟩
      obtain rfl := Sum.inl.inj h
      rw [List.append_assoc]
    · rw [if_neg h1, if_neg h1]
      exact ⟨fun L h => (by cases h), fun k _ => ⟨_, rfl⟩⟩
  | c :: r, st, cur, name, out, i, j => by
    rw [run_cons, run_cons]
    by_cases h0 : st = 0
    · rw [if_pos h0, if_pos h0]
      by_cases ht : tokenOctet c = true
      · rw [if_pos ht, if_pos ht]
        exact run_shift o r _ _ _ _ _ _
      · rw [if_neg ht, if_neg ht]
        by_cases he : c ≠ 61 ∨ cur = []
        · rw [if_pos he, if_pos he]
          exact ⟨fun L h => (by cases h), fun k _ => ⟨_, rfl⟩⟩
        · rw [if_neg he, if_neg he]
          exact run_shift o r _ _ _ _ _ _
    · rw [if_neg h0, if_neg h0]
      by_cases h1 : st = 1
      · rw [if_pos h1, if_pos h1]
        by_cases ht : octet c = true
        · rw [if_pos ht, if_pos ht]
          exact run_shift o r _ _ _ _ _ _
        · rw [if_neg ht, if_neg ht]
          by_cases he : c ≠ 59
          · rw [if_pos he, if_pos he]
            exact ⟨fun L h => (by cases h), fun k _ => ⟨_, rfl⟩⟩
          · rw [if_neg he, if_neg he]
            have := run_shift o r 2 [] [] (out ++ [(name, cur)]) (i + 1) (j + 1)
            rw [← List.append_assoc] at this
            exact this
      · rw [if_neg h1, if_neg h1]
        by_cases he : c ≠ 32
        · rw [if_pos he, if_pos he]
          exact ⟨fun L h => (by cases h), fun k _ => ⟨_, rfl⟩⟩
        · rw [if_neg he, if_neg he]
          exact run_shift o r _ _ _ _ _ _
/-- Two headers, joined, and what isn't one. -/
theorem parse_join {s t : List Nat} (hs : s ≠ []) (ht : t ≠ []) :
    (∀ a b, parse s = .inl a → parse t = .inl b → parse (s ++ 59 :: 32 :: t) = .inl (a ++ b)) ∧
    (∀ a k, parse s = .inl a → parse t = .inr k → ∃ k', parse (s ++ 59 :: 32 :: t) = .inr k') ∧
    (∀ k, parse s = .inr k → ∃ k', parse (s ++ 59 :: 32 :: t) = .inr k') := by
  have hj : s ++ 59 :: 32 :: t ≠ [] := fun h => hs (List.append_eq_nil_iff.1 h).1
  unfold parse
  rw [if_neg hs, if_neg ht, if_neg hj]
  obtain ⟨h1, h2⟩ := run_app t s 0 [] [] [] 0
  refine ⟨fun a b ha hb => ?_, fun a k ha hk => ?_, fun k hk => h2 k hk⟩
  · rw [h1 a ha]
    have := (run_shift a t 0 [] [] [] 0 (0 + s.length + 2)).1 b hb
    rw [List.append_nil] at this
    exact this
  · rw [h1 a ha]
    have := (run_shift a t 0 [] [] [] 0 (0 + s.length + 2)).2 k hk
    rw [List.append_nil] at this
    exact this
/-- What Find looks for: the value of the one pair, or what is wrong. -/
def findF (s name : List Nat) : Sum (List Nat) Nat :=
  if 4096 < s.length then .inr 3 else
  match parse s with
  | .inr _ => .inr 2
  | .inl l => match l.filter (fun p => p.1 == name) with
    | [] => .inr 7
    | [p] => .inl p.2
    | _ :: _ :: _ => .inr 8
theorem findF_long {s name : List Nat} (h : 4096 < s.length) : findF s name = .inr 3 := if_pos h
theorem findF_bad {s name : List Nat} {k : Nat} (h : ¬ 4096 < s.length) (hp : parse s = .inr k) : findF s name = .inr 2 := by
  unfold findF
  rw [if_neg h, hp]
theorem findF_is {s name : List Nat} {l : List Pair} (h : ¬ 4096 < s.length) (hp : parse s = .inl l) : findF s name = match l.filter (fun p => p.1 == name) with
    | [] => .inr 7
    | [p] => .inl p.2
    | _ :: _ :: _ => .inr 8 := by
  unfold findF
  rw [if_neg h, hp]
/-- How long a header is. -/
def total : List Pair → Nat
  | [] => 0
  | p :: l => p.1.length + p.2.length + 3 + total l
theorem total_append : ∀ (a b : List Pair), total (a ++ b) = total a + total b
  | [], b => by simp [total]
  | p :: a, b => by
    rw [List.cons_append, total, total, total_append a b]
    omega
theorem one_len (p : Pair) : (one p).length = p.1.length + p.2.length + 1 := by
  unfold one
  rw [List.length_append, List.length_cons]
  omega
theorem header_len : ∀ (p : Pair) (l : List Pair), (header (p :: l)).length + 2 = total (p :: l)
  | p, [] => by
    rw [header_cons]
    show (one p ++ []).length + 2 = _
    rw [List.append_nil, one_len]
    rfl
  | p, q :: r => by
    rw [header_cons]
    show (one p ++ 59 :: 32 :: header (q :: r)).length + 2 = _
    rw [List.length_append, List.length_cons, List.length_cons, one_len]
    have := header_len q r
    rw [total]
    omega
theorem header_le (l : List Pair) : (header l).length ≤ total l := by
  cases l with
  | nil => exact Nat.le_refl _
  | cons p r => have := header_len p r; omega
theorem total_le (l : List Pair) : total l ≤ (header l).length + 2 := by
  cases l with
  | nil => exact Nat.zero_le _
  | cons p r => have := header_len p r; omega
theorem length_le : ∀ l : List Pair, 3 * l.length ≤ total l
  | [] => Nat.le_refl _
  | p :: l => by
    have := length_le l
    rw [List.length_cons, total]
    omega
theorem total_bound (k m : Nat) : ∀ l : List Pair, (∀ p ∈ l, p.1.length ≤ k ∧ p.2.length ≤ m) → total l ≤ l.length * (k + m + 3)
  | [], _ => Nat.zero_le _
  | p :: l, h => by
    have h1 := h p (by simp)
    have h2 := total_bound k m l (fun q hq => h q (by simp [hq]))
    rw [List.length_cons, total, Nat.add_mul]
    omega
end CookieMath
