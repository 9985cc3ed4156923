/-
  Plain mathematics of chapter 13: headers, read byte by byte. No program is run here.
-/
import Derived.Test.YtaniekpkcihpiaaTextMath
namespace CookieMath
open TextMath

abbrev Pair := List Nat × List Nat
/-- May a pair be? -/
structure Right (p : Pair) : Prop where
  some : p.1 ≠ []
  name : ∀ c ∈ p.1, tokenOctet c = true
  value : ∀ c ∈ p.2, octet c = true
def one (p : Pair) : List Nat := p.1 ++ 61 :: p.2
def header : List Pair → List Nat
  | [] => []
  | [p] => one p
  | p :: q :: r => one p ++ 59 :: 32 :: header (q :: r)
/-- What stands behind a pair. -/
def behind : List Pair → List Nat
  | [] => []
  | q :: r => 59 :: 32 :: header (q :: r)
theorem header_cons (p : Pair) (l : List Pair) : header (p :: l) = one p ++ behind l := by
  cases l with
  | nil => simp [header, behind]
  | cons q r => rfl
/-- The document's machine: what is read (0 a name, 1 a value, 2 a blank), what is read of it, the name, the pairs; or the place that can't be. -/
def run (st : Nat) (cur name : List Nat) (out : List Pair) : List Nat → Nat → Sum (List Pair) Nat
  | [], i => if st = 1 then .inl (out ++ [(name, cur)]) else .inr i
  | c :: r, i =>
    if st = 0 then (if tokenOctet c = true then run 0 (cur ++ [c]) name out r (i + 1) else if c ≠ 61 ∨ cur = [] then .inr i else run 1 [] cur out r (i + 1))
    else if st = 1 then (if octet c = true then run 1 (cur ++ [c]) name out r (i + 1) else if c ≠ 59 then .inr i else run 2 [] [] (out ++ [(name, cur)]) r (i + 1))
    else if c ≠ 32 then .inr i else run 0 [] [] out r (i + 1)
def parse (s : List Nat) : Sum (List Pair) Nat := if s = [] then .inl [] else run 0 [] [] [] s 0
theorem run_cons (st : Nat) (cur name : List Nat) (out : List Pair) (c : Nat) (r : List Nat) (i : Nat) : run st cur name out (c :: r) i = if st = 0 then (if tokenOctet c = true then run 0 (cur ++ [c]) name out r (i + 1) else if c ≠ 61 ∨ cur = [] then .inr i else run 1 [] cur out r (i + 1))
    else if st = 1 then (if octet c = true then run 1 (cur ++ [c]) name out r (i + 1) else if c ≠ 59 then .inr i else run 2 [] [] (out ++ [(name, cur)]) r (i + 1))
    else if c ≠ 32 then .inr i else run 0 [] [] out r (i + 1) := by rw [run]
theorem eq_no : tokenOctet 61 = false := by decide
theorem semi_no : octet 59 = false := by decide
/-- What is read is what is written. -/
theorem run_name : ∀ (n : List Nat) (cur name : List Nat) (out : List Pair) (r : List Nat) (i : Nat), (∀ c ∈ n, tokenOctet c = true) → run 0 cur name out (n ++ r) i = run 0 (cur ++ n) name out r (i + n.length)
  | [], cur, name, out, r, i, _ => by simp
  | c :: n, cur, name, out, r, i, h => by
    rw [List.cons_append]
    rw [run_cons, if_pos rfl, if_pos (h c (by simp)), run_name n (cur ++ [c]) name out r (i + 1) (fun d hd => h d (by simp [hd]))]
    rw [List.append_assoc, List.length_cons, show i + 1 + n.length = i + (n.length + 1) by omega]
    rfl
theorem run_value : ∀ (v : List Nat) (cur name : List Nat) (out : List Pair) (r : List Nat) (i : Nat), (∀ c ∈ v, octet c = true) → run 1 cur name out (v ++ r) i = run 1 (cur ++ v) name out r (i + v.length)
  | [], cur, name, out, r, i, _ => by simp
  | c :: v, cur, name, out, r, i, h => by
    rw [List.cons_append]
    rw [run_cons, if_neg (by decide), if_pos rfl, if_pos (h c (by simp)), run_value v (cur ++ [c]) name out r (i + 1) (fun d hd => h d (by simp [hd]))]
    rw [List.append_assoc, List.length_cons, show i + 1 + v.length = i + (v.length + 1) by omega]
    rfl
theorem run_one {p : Pair} (h : Right p) (name : List Nat) (out : List Pair) (r : List Nat) (i : Nat) : run 0 [] name out (one p ++ r) i = run 1 p.2 p.1 out r (i + (one p).length) := by
  unfold one
  rw [List.append_assoc, run_name p.1 [] name out _ i h.name, List.nil_append, List.cons_append]
  rw [run, if_pos rfl, if_neg (by rw [eq_no]; decide), if_neg (by
    rintro (h1 | h1)
    · exact h1 rfl
    · exact h.some h1)]
  rw [run_value p.2 [] p.1 out r _ h.value, List.nil_append]
  congr 1
  rw [List.length_append, List.length_cons]
  omega
theorem run_header : ∀ (l : List Pair) (p : Pair), Right p → (∀ q ∈ l, Right q) → ∀ (name : List Nat) (out : List Pair) (i : Nat), run 0 [] name out (header (p :: l)) i = .inl (out ++ p :: l)
  | [], p, hp, _, name, out, i => by
    rw [header_cons, run_one hp]
    unfold behind run
    rw [if_pos rfl]
  | q :: r, p, hp, hl, name, out, i => by
    rw [header_cons, run_one hp]
    show run 1 p.2 p.1 out (59 :: 32 :: header (q :: r)) _ = _
    rw [run, if_neg (by decide), if_pos rfl, if_neg (by rw [semi_no]; decide), if_neg (fun h => h rfl)]
    rw [run, if_neg (by decide), if_neg (by decide), if_neg (fun h => h rfl)]
    rw [run_header r q (hl q (by simp)) (fun x hx => hl x (by simp [hx])), List.append_assoc]
    rfl
theorem one_some {p : Pair} : one p ≠ [] := by
  unfold one
  intro h
  have := congrArg List.length h
  simp at this
theorem header_some (p : Pair) (l : List Pair) : header (p :: l) ≠ [] := by
  rw [header_cons]
  intro h
  exact one_some (List.append_eq_nil_iff.1 h).1
theorem parse_header {l : List Pair} (h : ∀ p ∈ l, Right p) : parse (header l) = .inl l := by
  cases l with
  | nil => rfl
  | cons p r =>
    unfold parse
    rw [if_neg (header_some p r), run_header r p (h p (by simp)) (fun q hq => h q (by simp [hq]))]
    rfl
/-- What is taken is what is written. -/
theorem run_is : ∀ (r : List Nat),
    (∀ (cur name : List Nat) (out L : List Pair) (i : Nat), (∀ c ∈ cur, tokenOctet c = true) → run 0 cur name out r i = .inl L → ∃ q l, L = out ++ q :: l ∧ cur ++ r = header (q :: l) ∧ Right q ∧ ∀ x ∈ l, Right x) ∧
    (∀ (cur name : List Nat) (out L : List Pair) (i : Nat), name ≠ [] → (∀ c ∈ name, tokenOctet c = true) → (∀ c ∈ cur, octet c = true) → run 1 cur name out r i = .inl L → ∃ v l, L = out ++ (name, v) :: l ∧ cur ++ r = v ++ behind l ∧ Right (name, v) ∧ ∀ x ∈ l, Right x) ∧
    (∀ (cur name : List Nat) (out L : List Pair) (i : Nat), run 2 cur name out r i = .inl L → ∃ q l, L = out ++ q :: l ∧ r = 32 :: header (q :: l) ∧ Right q ∧ ∀ x ∈ l, Right x)
  | [] => by
    refine ⟨fun cur name out L i _ h => ?_, fun cur name out L i hn hn2 hc h => ?_, fun cur name out L i h => ?_⟩
    · rw [run, if_neg (by decide)] at h
      cases h
    · rw [run, if_pos rfl] at h
      obtain rfl := Sum.inl.inj h
      exact ⟨cur, [], rfl, rfl, ⟨hn, hn2, hc⟩, fun x hx => by cases hx⟩
    · rw [run, if_neg (by decide)] at h
      cases h
  | c :: r => by
    obtain ⟨i0, i1, i2⟩ := run_is r
    refine ⟨fun cur name out L i hc h => ?_, fun cur name out L i hn hn2 hc h => ?_, fun cur name out L i h => ?_⟩
    · rw [run, if_pos rfl] at h
      split at h
      · rename_i ht
        obtain ⟨q, l, h1, h2, h3, h4⟩ := i0 (cur ++ [c]) name out L (i + 1) (fun d hd => by
          rcases List.mem_append.1 hd with hd | hd
          · exact hc d hd
          · simp at hd
            rw [hd]
            exact ht) h
        exact ⟨q, l, h1, by rw [← h2, List.append_assoc]; rfl, h3, h4⟩
      · split at h
        · cases h
        · rename_i hne
          simp only [not_or, Classical.not_not, ne_eq] at hne
          obtain ⟨rfl, hcur⟩ := hne
          obtain ⟨v, l, h1, h2, h3, h4⟩ := i1 [] cur out L (i + 1) hcur hc (fun d hd => by cases hd) h
          refine ⟨(cur, v), l, h1, ?_, h3, h4⟩
          rw [header_cons]
          unfold one
          rw [List.append_assoc, List.cons_append, ← h2]
          rfl
    · rw [run, if_neg (by decide), if_pos rfl] at h
      split at h
      · rename_i ht
        obtain ⟨v, l, h1, h2, h3, h4⟩ := i1 (cur ++ [c]) name out L (i + 1) hn hn2 (fun d hd => by
          rcases List.mem_append.1 hd with hd | hd
          · exact hc d hd
          · simp at hd
            rw [hd]
            exact ht) h
        exact ⟨v, l, h1, by rw [← h2, List.append_assoc]; rfl, h3, h4⟩
      · split at h
        · cases h
        · rename_i hne
          obtain rfl : c = 59 := Classical.not_not.1 hne
          obtain ⟨q, l, h1, h2, h3, h4⟩ := i2 [] [] (out ++ [(name, cur)]) L (i + 1) h
          refine ⟨cur, q :: l, by rw [h1, List.append_assoc]; rfl, ?_, ⟨hn, hn2, hc⟩, fun x hx => ?_⟩
          · rw [h2]
            rfl
          · rcases List.mem_cons.1 hx with rfl | hx
            · exact h3
            · exact h4 x hx
    · rw [run, if_neg (by decide), if_neg (by decide)] at h
      split at h
      · cases h
      · rename_i hne
        obtain rfl : c = 32 := Classical.not_not.1 hne
        obtain ⟨q, l, h1, h2, h3, h4⟩ := i0 [] [] out L (i + 1) (fun d hd => by cases hd) h
        exact ⟨q, l, h1, by rw [← h2]; rfl, h3, h4⟩
theorem parse_is {s : List Nat} {l : List Pair} (h : parse s = .inl l) : s = header l ∧ ∀ p ∈ l, Right p := by
  unfold parse at h
  split at h
  · rename_i hs
    obtain rfl := Sum.inl.inj h
    exact ⟨hs, fun p hp => by cases hp⟩
  · obtain ⟨q, r, h1, h2, h3, h4⟩ := (run_is s).1 [] [] [] l 0 (fun c hc => by cases hc) h
    rw [List.nil_append] at h1 h2
    subst h1
    refine ⟨h2, fun p hp => ?_⟩
    rcases List.mem_cons.1 hp with rfl | hp
    · exact h3
    · exact h4 p hp
/-- Two headers, joined. -/
theorem header_join : ∀ (a b : List Pair), a ≠ [] → b ≠ [] → header a ++ 59 :: 32 :: header b = header (a ++ b)
  | [], _, h, _ => absurd rfl h
  | _, [], _, h => absurd rfl h
  | [p], q :: r, _, _ => rfl
  | p :: p2 :: a, q :: r, _, hb => by
    have ih := header_join (p2 :: a) (q :: r) (by simp) hb
    show (one p ++ 59 :: 32 :: header (p2 :: a)) ++ _ = one p ++ 59 :: 32 :: header ((p2 :: a) ++ q :: r)
    rw [← ih]
    simp [List.append_assoc]
end CookieMath
