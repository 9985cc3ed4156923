/-
  Texts of one claim, merged.
  TextMath: Plain mathematics of chapter 4 over lists of numbers: letters by bits, and back; cookie octets, tokens, blanks around. No program, no conditions but those typed.
  CookieMath: Plain mathematics of chapter 13: headers, read byte by byte. No program is run here.
-/

namespace TextMath

def letter (n : Nat) : Nat := if n < 26 then 65 + n else if n < 52 then 71 + n else if n < 62 then n - 4 else if n = 62 then 45 else 95
/-- The number of a letter; 64: it is none. -/
def number (c : Nat) : Nat := ((List.range 64).find? fun n => letter n == c).getD 64

theorem letter_lt (n : Nat) (h : n < 64) : letter n < 256 := by
  unfold letter
  repeat' split
  all_goals omega
theorem letter_inj_table : ((List.range 64).all fun m => (List.range 64).all fun n => !(letter m == letter n) || m == n) = true := by decide
theorem letter_inj {m n : Nat} (hm : m < 64) (hn : n < 64) (h : letter m = letter n) : m = n := by
  have h1 := letter_inj_table
  rw [List.all_eq_true] at h1
  have h2 := h1 m (List.mem_range.2 hm)
  rw [List.all_eq_true] at h2
  have h3 := h2 n (List.mem_range.2 hn)
  simp [h] at h3
  exact h3
theorem number_of {n c : Nat} (hn : n < 64) (h : letter n = c) : number c = n := by
  unfold number
  have hf : (List.range 64).find? (fun n => letter n == c) = some n := by
    rw [List.find?_range_eq_some]
    refine ⟨by simp [h], by simp [hn], fun j hj => ?_⟩
    have : letter j ≠ c := fun e => by
      have := letter_inj (by omega) hn (e.trans h.symm)
      omega
    simp [this]
  rw [hf]
  rfl
theorem number_none {c : Nat} (h : ∀ n, n < 64 → letter n ≠ c) : number c = 64 := by
  unfold number
  rw [List.find?_eq_none.2]
  · rfl
  · intro n hn
    have := h n (List.mem_range.1 hn)
    simpa using this
theorem number_le (c : Nat) : number c ≤ 64 := by
  unfold number
  cases h : (List.range 64).find? fun n => letter n == c with
  | none => exact Nat.le_refl _
  | some n =>
    have := List.mem_range.1 (List.mem_of_find?_eq_some h)
    simp
    omega
theorem letter_number {c : Nat} (h : number c < 64) : letter (number c) = c := by
  unfold number at h ⊢
  cases hq : (List.range 64).find? fun n => letter n == c with
  | none => rw [hq] at h; exact absurd h (by decide)
  | some n => simpa using List.find?_some hq

/-- The bits of a number below 256, the highest first; of one below 64. -/
def bits8 (b : Nat) : List Nat := [b / 128 % 2, b / 64 % 2, b / 32 % 2, b / 16 % 2, b / 8 % 2, b / 4 % 2, b / 2 % 2, b % 2]
def bits6 (n : Nat) : List Nat := [n / 32 % 2, n / 16 % 2, n / 8 % 2, n / 4 % 2, n / 2 % 2, n % 2]
def num (l : List Nat) : Nat := l.foldl (fun n b => n * 2 + b) 0
def padTo6 (m : List Nat) : List Nat := m ++ List.replicate ((6 - m.length % 6) % 6) 0
/-- Group j of so many bits. -/
def group (m : List Nat) (k j : Nat) : List Nat := (m.drop (k * j)).take k
def enc (l : List Nat) : List Nat := (List.range ((padTo6 (l.flatMap bits8)).length / 6)).map fun j => letter (num (group (padTo6 (l.flatMap bits8)) 6 j))

/-- The bytes of some letters' bits. -/
def decBits (l : List Nat) : List Nat := l.flatMap fun c => bits6 (number c)
def decBytes (l : List Nat) : List Nat := (List.range ((decBits l).length / 8)).map fun j => num (group (decBits l) 8 j)
/-- The place of the first letter that can't be; none: there is none such. -/
def fault (l : List Nat) : Option Nat :=
  match l.findIdx? (fun c => number c == 64) with
  | some i => some i
  | none => if l.length % 4 = 1 then some l.length else if ((decBits l).drop (8 * ((decBits l).length / 8))).any (· != 0) then some (l.length - 1) else none

def octet (c : Nat) : Bool := c == 33 || (decide (35 ≤ c) && decide (c ≤ 43)) || (decide (45 ≤ c) && decide (c ≤ 58)) || (decide (60 ≤ c) && decide (c ≤ 91)) || (decide (93 ≤ c) && decide (c ≤ 126))
def signs : List Nat := [33, 35, 36, 37, 38, 39, 42, 43, 45, 46, 94, 95, 96, 124, 126]
def tokenOctet (c : Nat) : Bool := (decide (97 ≤ c) && decide (c ≤ 122)) || (decide (65 ≤ c) && decide (c ≤ 90)) || (decide (48 ≤ c) && decide (c ≤ 57)) || signs.contains c
def token (l : List Nat) : Bool := l.all tokenOctet && !l.isEmpty
def blank (c : Nat) : Bool := c == 32 || c == 9
def trimLeft (l : List Nat) : List Nat := l.dropWhile blank
def trim (l : List Nat) : List Nat := ((l.dropWhile blank).reverse.dropWhile blank).reverse
end TextMath
namespace CookieMath
open TextMath

abbrev Pair := List Nat × List Nat
/-- May a pair be? -/
structure Right (p : Pair) : Prop where
  some : p.1 ≠ []
  name : ∀ c ∈ p.1, tokenOctet c = true
  value : ∀ c ∈ p.2, octet c = true
def one (p : Pair) : List Nat := p.1 ++ 61 :: p.2
def header : List Pair → List Nat
  | [] => []
  | [p] => one p
  | p :: q :: r => one p ++ 59 :: 32 :: header (q :: r)
/-- What stands behind a pair. -/
def behind : List Pair → List Nat
  | [] => []
  | q :: r => 59 :: 32 :: header (q :: r)
theorem header_cons (p : Pair) (l : List Pair) : header (p :: l) = one p ++ behind l := by
  cases l with
  | nil => simp [header, behind]
  | cons q r => rfl
/-- The document's machine: what is read (0 a name, 1 a value, 2 a blank), what is read of it, the name, the pairs; or the place that can't be. -/
def run (st : Nat) (cur name : List Nat) (out : List Pair) : List Nat → Nat → Sum (List Pair) Nat
  | [], i => if st = 1 then .inl (out ++ [(name, cur)]) else .inr i
  | c :: r, i =>
    if st = 0 then (if tokenOctet c = true then run 0 (cur ++ [c]) name out r (i + 1) else if c ≠ 61 ∨ cur = [] then .inr i else run 1 [] cur out r (i + 1))
    else if st = 1 then (if octet c = true then run 1 (cur ++ [c]) name out r (i + 1) else if c ≠ 59 then .inr i else run 2 [] [] (out ++ [(name, cur)]) r (i + 1))
    else if c ≠ 32 then .inr i else run 0 [] [] out r (i + 1)
def parse (s : List Nat) : Sum (List Pair) Nat := if s = [] then .inl [] else run 0 [] [] [] s 0
theorem run_cons (st : Nat) (cur name : List Nat) (out : List Pair) (c : Nat) (r : List Nat) (i : Nat) : run st cur name out (c :: r) i = if st = 0 then (if tokenOctet c = true then run 0 (cur ++ [c]) name out r (i + 1) else if c ≠ 61 ∨ cur = [] then .inr i else run 1 [] cur out r (i + 1))
    else if st = 1 then (if octet c = true then run 1 (cur ++ [c]) name out r (i + 1) else if c ≠ 59 then .inr i else run 2 [] [] (out ++ [(name, cur)]) r (i + 1))
    else if c ≠ 32 then .inr i else run 0 [] [] out r (i + 1) := by rw [run]
theorem eq_no : tokenOctet 61 = false := by decide
theorem semi_no : octet 59 = false := by decide
/-- What is read is what is written. -/
theorem run_name : ∀ (n : List Nat) (cur name : List Nat) (out : List Pair) (r : List Nat) (i : Nat), (∀ c ∈ n, tokenOctet c = true) → run 0 cur name out (n ++ r) i = run 0 (cur ++ n) name out r (i + n.length)
  | [], cur, name, out, r, i, _ => by simp
  | c :: n, cur, name, out, r, i, h => by
    rw [List.cons_append]
    rw [run_cons, if_pos rfl, if_pos (h c (by simp)), run_name n (cur ++ [c]) name out r (i + 1) (fun d hd => h d (by simp [hd]))]
    rw [List.append_assoc, List.length_cons, show i + 1 + n.length = i + (n.length + 1) by omega]
    rfl
theorem run_value : ∀ (v : List Nat) (cur name : List Nat) (out : List Pair) (r : List Nat) (i : Nat), (∀ c ∈ v, octet c = true) → run 1 cur name out (v ++ r) i = run 1 (cur ++ v) name out r (i + v.length)
  | [], cur, name, out, r, i, _ => by simp
  | c :: v, cur, name, out, r, i, h => by
    rw [List.cons_append]
    rw [run_cons, if_neg (by decide), if_pos rfl, if_pos (h c (by simp)), run_value v (cur ++ [c]) name out r (i + 1) (fun d hd => h d (by simp [hd]))]
    rw [List.append_assoc, List.length_cons, show i + 1 + v.length = i + (v.length + 1) by omega]
    rfl
theorem run_one {p : Pair} (h : Right p) (name : List Nat) (out : List Pair) (r : List Nat) (i : Nat) : run 0 [] name out (one p ++ r) i = run 1 p.2 p.1 out r (i + (one p).length) := by
  unfold one
  rw [List.append_assoc, run_name p.1 [] name out _ i h.name, List.nil_append, List.cons_append]
  rw [run, if_pos rfl, if_neg (by rw [eq_no]; decide), if_neg (by
    rintro (h1 | h1)
    · exact h1 rfl
    · exact h.some h1)]
  rw [run_value p.2 [] p.1 out r _ h.value, List.nil_append]
  congr 1
  rw [List.length_append, List.length_cons]
  omega
theorem run_header : ∀ (l : List Pair) (p : Pair), Right p → (∀ q ∈ l, Right q) → ∀ (name : List Nat) (out : List Pair) (i : Nat), run 0 [] name out (header (p :: l)) i = .inl (out ++ p :: l)
  | [], p, hp, _, name, out, i => by
    rw [header_cons, run_one hp]
    unfold behind run
    rw [if_pos rfl]
  | q :: r, p, hp, hl, name, out, i => by
    rw [header_cons, run_one hp]
    show run 1 p.2 p.1 out (59 :: 32 :: header (q :: r)) _ = _
    rw [run, if_neg (by decide), if_pos rfl, if_neg (by rw [semi_no]; decide), if_neg (fun h => h rfl)]
    rw [run, if_neg (by decide), if_neg (by decide), if_neg (fun h => h rfl)]
    rw [run_header r q (hl q (by simp)) (fun x hx => hl x (by simp [hx])), List.append_assoc]
    rfl
theorem one_some {p : Pair} : one p ≠ [] := by
  unfold one
  intro h
  have := congrArg List.length h
  simp at this
theorem header_some (p : Pair) (l : List Pair) : header (p :: l) ≠ [] := by
  rw [header_cons]
  intro h
  exact one_some (List.append_eq_nil_iff.1 h).1
theorem parse_header {l : List Pair} (h : ∀ p ∈ l, Right p) : parse (header l) = .inl l := by
  cases l with
  | nil => rfl
  | cons p r =>
    unfold parse
    rw [if_neg (header_some p r), run_header r p (h p (by simp)) (fun q hq => h q (by simp [hq]))]
    rfl
/-- What is taken is what is written. -/
theorem run_is : ∀ (r : List Nat),
    (∀ (cur name : List Nat) (out L : List Pair) (i : Nat), (∀ c ∈ cur, tokenOctet c = true) → run 0 cur name out r i = .inl L → ∃ q l, L = out ++ q :: l ∧ cur ++ r = header (q :: l) ∧ Right q ∧ ∀ x ∈ l, Right x) ∧
    (∀ (cur name : List Nat) (out L : List Pair) (i : Nat), name ≠ [] → (∀ c ∈ name, tokenOctet c = true) → (∀ c ∈ cur, octet c = true) → run 1 cur name out r i = .inl L → ∃ v l, L = out ++ (name, v) :: l ∧ cur ++ r = v ++ behind l ∧ Right (name, v) ∧ ∀ x ∈ l, Right x) ∧
    (∀ (cur name : List Nat) (out L : List Pair) (i : Nat), run 2 cur name out r i = .inl L → ∃ q l, L = out ++ q :: l ∧ r = 32 :: header (q :: l) ∧ Right q ∧ ∀ x ∈ l, Right x)
  | [] => by
    refine ⟨fun cur name out L i _ h => ?_, fun cur name out L i hn hn2 hc h => ?_, fun cur name out L i h => ?_⟩
    · rw [run, if_neg (by decide)] at h
      cases h
    · rw [run, if_pos rfl] at h
      obtain rfl := Sum.inl.inj h
      exact ⟨cur, [], rfl, rfl, ⟨hn, hn2, hc⟩, fun x hx => by cases hx⟩
    · rw [run, if_neg (by decide)] at h
      cases h
  | c :: r => by
    obtain ⟨i0, i1, i2⟩ := run_is r
    refine ⟨fun cur name out L i hc h => ?_, fun cur name out L i hn hn2 hc h => ?_, fun cur name out L i h => ?_⟩
    · rw [run, if_pos rfl] at h
      split at h
      · rename_i ht
        obtain ⟨q, l, h1, h2, h3, h4⟩ := i0 (cur ++ [c]) name out L (i + 1) (fun d hd => by
          rcases List.mem_append.1 hd with hd | hd
          · exact hc d hd
          · simp at hd
            rw [hd]
            exact ht) h
        exact ⟨q, l, h1, by rw [← h2, List.append_assoc]; rfl, h3, h4⟩
      · split at h
        · cases h
        · rename_i hne
          simp only [not_or, Classical.not_not, ne_eq] at hne
          obtain ⟨rfl, hcur⟩ := hne
          obtain ⟨v, l, h1, h2, h3, h4⟩ := i1 [] cur out L (i + 1) hcur hc (fun d hd => by cases hd) h
          refine ⟨(cur, v), l, h1, ?_, h3, h4⟩
          rw [header_cons]
          unfold one
          rw [List.append_assoc, List.cons_append, ← h2]
          rfl
    · rw [run, if_neg (by decide), if_pos rfl] at h
      split at h
      · rename_i ht
        obtain ⟨v, l, h1, h2, h3, h4⟩ := i1 (cur ++ [c]) name out L (i + 1) hn hn2 (fun d hd => by
          rcases List.mem_append.1 hd with hd | hd
          · exact hc d hd
          · simp at hd
            rw [hd]
            exact ht) h
        exact ⟨v, l, h1, by rw [← h2, List.append_assoc]; rfl, h3, h4⟩
      · split at h
        · cases h
        · rename_i hne
          obtain rfl : c = 59 := Classical.not_not.1 hne
          obtain ⟨q, l, h1, h2, h3, h4⟩ := i2 [] [] (out ++ [(name, cur)]) L (i + 1) h
          refine ⟨cur, q :: l, by rw [h1, List.append_assoc]; rfl, ?_, ⟨hn, hn2, hc⟩, fun x hx => ?_⟩
          · rw [h2]
            rfl
          · rcases List.mem_cons.1 hx with rfl | hx
            · exact h3
            · exact h4 x hx
    · rw [run, if_neg (by decide), if_neg (by decide)] at h
      split at h
      · cases h
      · rename_i hne
        obtain rfl : c = 32 := Classical.not_not.1 hne
        obtain ⟨q, l, h1, h2, h3, h4⟩ := i0 [] [] out L (i + 1) (fun d hd => by cases hd) h
        exact ⟨q, l, h1, by rw [← h2]; rfl, h3, h4⟩
theorem parse_is {s : List Nat} {l : List Pair} (h : parse s = .inl l) : s = header l ∧ ∀ p ∈ l, Right p := by
  unfold parse at h
  split at h
  · rename_i hs
    obtain rfl := Sum.inl.inj h
    exact ⟨hs, fun p hp => by cases hp⟩
  · obtain ⟨q, r, h1, h2, h3, h4⟩ := (run_is s).1 [] [] [] l 0 (fun c hc => by cases hc) h
    rw [List.nil_append] at h1 h2
    subst h1
    refine ⟨h2, fun p hp => ?_⟩
    rcases List.mem_cons.1 hp with rfl | hp
    · exact h3
    · exact h4 p hp
/-- Two headers, joined. -/
theorem header_join : ∀ (a b : List Pair), a ≠ [] → b ≠ [] → header a ++ 59 :: 32 :: header b = header (a ++ b)
  | [], _, h, _ => absurd rfl h
  | _, [], _, h => absurd rfl h
  | [p], q :: r, _, _ => rfl
  | p :: p2 :: a, q :: r, _, hb => by
    have ih := header_join (p2 :: a) (q :: r) (by simp) hb
    show (one p ++ 59 :: 32 :: header (p2 :: a)) ++ _ = one p ++ 59 :: 32 :: header ((p2 :: a) ++ q :: r)
    rw [← ih]
    simp [List.append_assoc]
end CookieMath
