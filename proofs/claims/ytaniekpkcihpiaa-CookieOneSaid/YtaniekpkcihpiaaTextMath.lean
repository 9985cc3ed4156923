/-
  Plain mathematics of chapter 4 over lists of numbers: letters by bits, and back; cookie octets, tokens, blanks around. No program, no conditions but those typed.
-/
namespace TextMath

def letter (n : Nat) : Nat := if n < 26 then 65 + n else if n < 52 then 71 + n else if n < 62 then n - 4 else if n = 62 then 45 else 95
/-- The number of a letter; 64: it is none. -/
def number (c : Nat) : Nat := ((List.range 64).find? fun n => letter n == c).getD 64

theorem letter_lt (n : Nat) (h : n < 64) : letter n < 256 := by
  unfold letter
  repeat' split
  all_goals omega
theorem letter_inj_table : ((List.range 64).all fun m => (List.range 64).all fun n => !(letter m == letter n) || m == n) = true := by decide
theorem letter_inj {m n : Nat} (hm : m < 64) (hn : n < 64) (h : letter m = letter n) : m = n := by
  have h1 := letter_inj_table
  rw [List.all_eq_true] at h1
  have h2 := h1 m (List.mem_range.2 hm)
  rw [List.all_eq_true] at h2
  have h3 := h2 n (List.mem_range.2 hn)
  simp [h] at h3
  exact h3
theorem number_of {n c : Nat} (hn : n < 64) (h : letter n = c) : number c = n := by
  unfold number
  have hf : (List.range 64).find? (fun n => letter n == c) = some n := by
    rw [List.find?_range_eq_some]
    refine ⟨by simp [h], by simp [hn], fun j hj => ?_⟩
    have : letter j ≠ c := fun e => by
      have := letter_inj (by omega) hn (e.trans h.symm)
      omega
    simp [this]
  rw [hf]
  rfl
theorem number_none {c : Nat} (h : ∀ n, n < 64 → letter n ≠ c) : number c = 64 := by
  unfold number
  rw [List.find?_eq_none.2]
  · rfl
  · intro n hn
    have := h n (List.mem_range.1 hn)
    simpa using this
theorem number_le (c : Nat) : number c ≤ 64 := by
  unfold number
  cases h : (List.range 64).find? fun n => letter n == c with
  | none => exact Nat.le_refl _
  | some n =>
    have := List.mem_range.1 (List.mem_of_find?_eq_some h)
    simp
    omega
theorem letter_number {c : Nat} (h : number c < 64) : letter (number c) = c := by
  unfold number at h ⊢
  cases hq : (List.range 64).find? fun n => letter n == c with
  | none => rw [hq] at h; exact absurd h (by decide)
  | some n => simpa using List.find?_some hq

/-- The bits of a number below 256, the highest first; of one below 64. -/
def bits8 (b : Nat) : List Nat := [b / 128 % 2, b / 64 % 2, b / 32 % 2, b / 16 % 2, b / 8 % 2, b / 4 % 2, b / 2 % 2, b % 2]
def bits6 (n : Nat) : List Nat := [n / 32 % 2, n / 16 % 2, n / 8 % 2, n / 4 % 2, n / 2 % 2, n % 2]
def num (l : List Nat) : Nat := l.foldl (fun n b => n * 2 + b) 0
def padTo6 (m : List Nat) : List Nat := m ++ List.replicate ((6 - m.length % 6) % 6) 0
/-- Group j of so many bits. -/
def group (m : List Nat) (k j : Nat) : List Nat := (m.drop (k * j)).take k
def enc (l : List Nat) : List Nat := (List.range ((padTo6 (l.flatMap bits8)).length / 6)).map fun j => letter (num (group (padTo6 (l.flatMap bits8)) 6 j))

/-- The bytes of some letters' bits. -/
def decBits (l : List Nat) : List Nat := l.flatMap fun c => bits6 (number c)
def decBytes (l : List Nat) : List Nat := (List.range ((decBits l).length / 8)).map fun j => num (group (decBits l) 8 j)
/-- The place of the first letter that can't be; none: there is none such. -/
def fault (l : List Nat) : Option Nat :=
  match l.findIdx? (fun c => number c == 64) with
  | some i => some i
  | none => if l.length % 4 = 1 then some l.length else if ((decBits l).drop (8 * ((decBits l).length / 8))).any (· != 0) then some (l.length - 1) else none

def octet (c : Nat) : Bool := c == 33 || (decide (35 ≤ c) && decide (c ≤ 43)) || (decide (45 ≤ c) && decide (c ≤ 58)) || (decide (60 ≤ c) && decide (c ≤ 91)) || (decide (93 ≤ c) && decide (c ≤ 126))
def signs : List Nat := [33, 35, 36, 37, 38, 39, 42, 43, 45, 46, 94, 95, 96, 124, 126]
def tokenOctet (c : Nat) : Bool := (decide (97 ≤ c) && decide (c ≤ 122)) || (decide (65 ≤ c) && decide (c ≤ 90)) || (decide (48 ≤ c) && decide (c ≤ 57)) || signs.contains c
def token (l : List Nat) : Bool := l.all tokenOctet && !l.isEmpty
def blank (c : Nat) : Bool := c == 32 || c == 9
def trimLeft (l : List Nat) : List Nat := l.dropWhile blank
def trim (l : List Nat) : List Nat := ((l.dropWhile blank).reverse.dropWhile blank).reverse
end TextMath
