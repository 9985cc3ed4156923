/-
  Texts of one claim, merged.
  RingLaws: The contracts of the program's functions of chapter 11, as sentences that its laws start from; however a ring lies in memory. No conditions but those typed.
  TextMath: Plain mathematics of chapter 4 over lists of numbers: letters by bits, and back; cookie octets, tokens, blanks around. No program, no conditions but those typed.
  TextBits: Plain mathematics of chapter 4, bit by bit: where each bit stands, a group's number step by step. No program, no conditions but those typed.
-/
import Derived.Test.YtajhegjemhegiaaDoorPart05
import Derived.Test.YtajhegjemhegiaaDoorPart06
import Derived.Test.YtajhegjemhegiaaDoorPart07
import Derived.Test.YtajhegjemhegiaaDoorPart01
import Derived.Test.YtajhegjemhegiaaDoorPart04
namespace Go.Proofs.YtajhegjemhegiaaDoor
open Go.RowKit TextNat

/-- May a ring be? -/
def rightB (m : ByteArray) (c : Int) : Bool := decide (0 < m.size) && decide (m.size < 65) && decide (0 ≤ c) && decide (c ≤ 1099511627776)
/-- Is a number alive? -/
def aliveB (c n : Int) : Bool := decide (0 ≤ n) && decide (n ≤ 1099511627776) && decide (c - 2 ≤ n)
/-- Does a number become the current one? -/
def upB (c n : Int) : Bool := decide (c < n) && decide (n ≤ 1099511627776)
/-- The key of a number. -/
def keyOf (m : ByteArray) (n : Int) : ByteArray := txt (ShaMath.derive (nats m) (n % 18446744073709551616).toNat)
abbrev rptr (b : Nat) : Value := .pointer (some ⟨b, 0, none⟩)
/-- How a ring of the program lies in memory: in which blocks, its master and its current number, and that it stays while those blocks do. -/
structure Rng where
  at_ : World → Nat → (Nat → Prop) → ByteArray → Int → Prop
  stays : ∀ {w w' : World} {b : Nat} {S : Nat → Prop} {m : ByteArray} {c : Int}, at_ w b S m c → w.heap.size ≤ w'.heap.size → (∀ k, S k → w'.heap[k]? = w.heap[k]?) → at_ w' b S m c
  lt : ∀ {w : World} {b : Nat} {S : Nat → Prop} {m : ByteArray} {c : Int}, at_ w b S m c → ∀ k, S k → k < w.heap.size
/-- A ring of one's own. -/
def HasR (R : Rng) (B : Nat) (w : World) (b : Nat) (m : ByteArray) (c : Int) : Prop := ∃ S, R.at_ w b S m c ∧ ∀ k, S k → B ≤ k
theorem HasR.below {R : Rng} {B b : Nat} {w w' : World} {m : ByteArray} {c : Int} (h : HasR R B w b m c) (hb : Below w.heap.size w w') : HasR R B w' b m c := by
  obtain ⟨S, h1, h2⟩ := h
  exact ⟨S, R.stays h1 hb.size fun k hk => hb.block k (R.lt h1 k hk), h2⟩
def RNewOk (R : Rng) : Prop := ∀ (m : ByteArray) (c : Int) (w : World), m.size ≤ 9223372036854775807 → I64 c → Calls Tryd.prog 9 #[.string m, .int .i64 c] w fun e w' =>
  (if rightB m c = true then ∃ b, e = .returned (.tuple #[rptr b, .nilIface]) ∧ HasR R w.heap.size w' b m c else ∃ x, e = .returned (.tuple #[.pointer none, x]) ∧ ErrIs w' 1 x) ∧ Below w.heap.size w w'
def CurrentOk (R : Rng) : Prop := ∀ (b : Nat) (S : Nat → Prop) (m : ByteArray) (c : Int) (w : World), R.at_ w b S m c → rightB m c = true → Calls Tryd.prog 24 #[rptr b] w fun e w' => e = .returned (.int .i64 c) ∧ Below w.heap.size w w'
def AliveOk (R : Rng) : Prop := ∀ (b : Nat) (S : Nat → Prop) (m : ByteArray) (c n : Int) (w : World), R.at_ w b S m c → rightB m c = true → I64 n → Calls Tryd.prog 36 #[rptr b, .int .i64 n] w fun e w' => e = .returned (.bool (aliveB c n)) ∧ Below w.heap.size w w'
def KeyOk (R : Rng) : Prop := ∀ (b : Nat) (S : Nat → Prop) (m : ByteArray) (c n : Int) (w : World), R.at_ w b S m c → rightB m c = true → I64 n → Parts w → Calls Tryd.prog 21 #[rptr b, .int .i64 n] w fun e w' =>
  (if aliveB c n = true then e = .returned (.tuple #[.string (keyOf m n), .nilIface]) else ∃ x, e = .returned (.tuple #[.string ⟨#[]⟩, x]) ∧ ErrIs w' 9 x) ∧ Below w.heap.size w w'
section
variable {R : Rng} {B b : Nat} {w : World} {m : ByteArray} {c : Int}
theorem HasR.current (hC : CurrentOk R) (h : HasR R B w b m c) (hr : rightB m c = true) : Calls Tryd.prog 24 #[rptr b] w fun e w' => e = .returned (.int .i64 c) ∧ Below w.heap.size w w' := by
  obtain ⟨S, h1, h2⟩ := h
  exact hC b S m c w h1 hr
theorem HasR.alive (hA : AliveOk R) (h : HasR R B w b m c) (hr : rightB m c = true) {n : Int} (hn : I64 n) : Calls Tryd.prog 36 #[rptr b, .int .i64 n] w fun e w' => e = .returned (.bool (aliveB c n)) ∧ Below w.heap.size w w' := by
  obtain ⟨S, h1, h2⟩ := h
  exact hA b S m c n w h1 hr hn
theorem HasR.key (hK : KeyOk R) (h : HasR R B w b m c) (hr : rightB m c = true) {n : Int} (hn : I64 n) (hP : Parts w) : Calls Tryd.prog 21 #[rptr b, .int .i64 n] w fun e w' =>
    (if aliveB c n = true then e = .returned (.tuple #[.string (keyOf m n), .nilIface]) else ∃ x, e = .returned (.tuple #[.string ⟨#[]⟩, x]) ∧ ErrIs w' 9 x) ∧ Below w.heap.size w w' := by
  obtain ⟨S, h1, h2⟩ := h
  exact hK b S m c n w h1 hr hn hP
end
theorem right_up {m : ByteArray} {c n : Int} (h : rightB m c = true) : rightB m (if upB c n = true then n else c) = true := by
  split
  · rename_i hu
    unfold upB at hu
    unfold rightB at h ⊢
    simp only [Bool.and_eq_true, decide_eq_true_eq] at h hu ⊢
    omega
  · exact h
theorem right_bounds {m : ByteArray} {c : Int} (h : rightB m c = true) : 0 ≤ c ∧ c ≤ 1099511627776 ∧ 0 < m.size ∧ m.size ≤ 64 := by
  unfold rightB at h
  simp only [Bool.and_eq_true, decide_eq_true_eq] at h
  omega
end Go.Proofs.YtajhegjemhegiaaDoor
namespace TextMath

def letter (n : Nat) : Nat := if n < 26 then 65 + n else if n < 52 then 71 + n else if n < 62 then n - 4 else if n = 62 then 45 else 95
/-- The number of a letter; 64: it is none. -/
def number (c : Nat) : Nat := ((List.range 64).find? fun n => letter n == c).getD 64

theorem letter_lt (n : Nat) (h : n < 64) : letter n < 256 := by
  unfold letter
  repeat' split
  all_goals omega
theorem letter_inj_table : ((List.range 64).all fun m => (List.range 64).all fun n => !(letter m == letter n) || m == n) = true := by decide
theorem letter_inj {m n : Nat} (hm : m < 64) (hn : n < 64) (h : letter m = letter n) : m = n := by
  have h1 := letter_inj_table
  rw [List.all_eq_true] at h1
  have h2 := h1 m (List.mem_range.2 hm)
  rw [List.all_eq_true] at h2
  have h3 := h2 n (List.mem_range.2 hn)
  simp [h] at h3
  exact h3
theorem number_of {n c : Nat} (hn : n < 64) (h : letter n = c) : number c = n := by
  unfold number
  have hf : (List.range 64).find? (fun n => letter n == c) = some n := by
    rw [List.find?_range_eq_some]
    refine ⟨by simp [h], by simp [hn], fun j hj => ?_⟩
    have : letter j ≠ c := fun e => by
      have := letter_inj (by omega) hn (e.trans h.symm)
      omega
    simp [this]
  rw [hf]
  rfl
theorem number_none {c : Nat} (h : ∀ n, n < 64 → letter n ≠ c) : number c = 64 := by
  unfold number
  rw [List.find?_eq_none.2]
  · rfl
  · intro n hn
    have := h n (List.mem_range.1 hn)
    simpa using this
theorem number_le (c : Nat) : number c ≤ 64 := by
  unfold number
  cases h : (List.range 64).find? fun n => letter n == c with
  | none => exact Nat.le_refl _
  | some n =>
    have := List.mem_range.1 (List.mem_of_find?_eq_some h)
    simp
    omega
theorem letter_number {c : Nat} (h : number c < 64) : letter (number c) = c := by
  unfold number at h ⊢
  cases hq : (List.range 64).find? fun n => letter n == c with
  | none => rw [hq] at h; exact absurd h (by decide)
  | some n => simpa using List.find?_some hq

/-- The bits of a number below 256, the highest first; of one below 64. -/
def bits8 (b : Nat) : List Nat := [b / 128 % 2, b / 64 % 2, b / 32 % 2, b / 16 % 2, b / 8 % 2, b / 4 % 2, b / 2 % 2, b % 2]
def bits6 (n : Nat) : List Nat := [n / 32 % 2, n / 16 % 2, n / 8 % 2, n / 4 % 2, n / 2 % 2, n % 2]
def num (l : List Nat) : Nat := l.foldl (fun n b => n * 2 + b) 0
def padTo6 (m : List Nat) : List Nat := m ++ List.replicate ((6 - m.length % 6) % 6) 0
/-- Group j of so many bits. -/
def group (m : List Nat) (k j : Nat) : List Nat := (m.drop (k * j)).take k
def enc (l : List Nat) : List Nat := (List.range ((padTo6 (l.flatMap bits8)).length / 6)).map fun j => letter (num (group (padTo6 (l.flatMap bits8)) 6 j))

/-- The bytes of some letters' bits. -/
def decBits (l : List Nat) : List Nat := l.flatMap fun c => bits6 (number c)
def decBytes (l : List Nat) : List Nat := (List.range ((decBits l).length / 8)).map fun j => num (group (decBits l) 8 j)
/-- The place of the first letter that can't be; none: there is none such. -/
def fault (l : List Nat) : Option Nat :=
  match l.findIdx? (fun c => number c == 64) with
  | some i => some i
  | none => if l.length % 4 = 1 then some l.length else if ((decBits l).drop (8 * ((decBits l).length / 8))).any (· != 0) then some (l.length - 1) else none

def octet (c : Nat) : Bool := c == 33 || (decide (35 ≤ c) && decide (c ≤ 43)) || (decide (45 ≤ c) && decide (c ≤ 58)) || (decide (60 ≤ c) && decide (c ≤ 91)) || (decide (93 ≤ c) && decide (c ≤ 126))
def signs : List Nat := [33, 35, 36, 37, 38, 39, 42, 43, 45, 46, 94, 95, 96, 124, 126]
def tokenOctet (c : Nat) : Bool := (decide (97 ≤ c) && decide (c ≤ 122)) || (decide (65 ≤ c) && decide (c ≤ 90)) || (decide (48 ≤ c) && decide (c ≤ 57)) || signs.contains c
def token (l : List Nat) : Bool := l.all tokenOctet && !l.isEmpty
def blank (c : Nat) : Bool := c == 32 || c == 9
def trimLeft (l : List Nat) : List Nat := l.dropWhile blank
def trim (l : List Nat) : List Nat := ((l.dropWhile blank).reverse.dropWhile blank).reverse
end TextMath
namespace TextMath

theorem bits8_len (b : Nat) : (bits8 b).length = 8 := rfl
theorem bits6_len (b : Nat) : (bits6 b).length = 6 := rfl
theorem bits8_at (z m : Nat) (h : m < 8) : (bits8 z)[m]? = some (z / 2 ^ (7 - m) % 2) := by
  have : m = 0 ∨ m = 1 ∨ m = 2 ∨ m = 3 ∨ m = 4 ∨ m = 5 ∨ m = 6 ∨ m = 7 := by omega
  rcases this with rfl | rfl | rfl | rfl | rfl | rfl | rfl | rfl <;> simp [bits8]
theorem bits6_at (z m : Nat) (h : m < 6) : (bits6 z)[m]? = some (z / 2 ^ (5 - m) % 2) := by
  have : m = 0 ∨ m = 1 ∨ m = 2 ∨ m = 3 ∨ m = 4 ∨ m = 5 := by omega
  rcases this with rfl | rfl | rfl | rfl | rfl | rfl <;> simp [bits6]
/-- Where a row's piece stands among all pieces. -/
theorem flat_at {f : Nat → List Nat} {k : Nat} (hf : ∀ z, (f z).length = k) : ∀ (l : List Nat) (q m : Nat), m < k → (l.flatMap f)[k * q + m]? = (l[q]?).bind fun z => (f z)[m]?
  | [], q, m, _ => by simp
  | a :: l, 0, m, h => by
    rw [List.flatMap_cons, List.getElem?_append_left (by rw [hf]; omega)]
    simp
  | a :: l, q + 1, m, h => by
    rw [List.flatMap_cons, List.getElem?_append_right (by rw [hf, Nat.mul_succ]; omega), hf, show k * (q + 1) + m - k = k * q + m by rw [Nat.mul_succ]; omega, flat_at hf l q m h]
    simp
theorem flat_len {f : Nat → List Nat} {k : Nat} (hf : ∀ z, (f z).length = k) : ∀ l : List Nat, (l.flatMap f).length = k * l.length
  | [] => by simp
  | a :: l => by rw [List.flatMap_cons, List.length_append, hf, flat_len hf l, List.length_cons, Nat.mul_succ]; omega
theorem take_step {l : List Nat} {i z : Nat} (h : l[i]? = some z) : l.take (i + 1) = l.take i ++ [z] := by
  rw [List.take_add_one, h]
  rfl

theorem num_snoc (l : List Nat) (b : Nat) : num (l ++ [b]) = num l * 2 + b := by
  unfold num
  rw [List.foldl_append]
  rfl
theorem num_lt_from : ∀ (l : List Nat) (n : Nat), (∀ b ∈ l, b < 2) → l.foldl (fun n b => n * 2 + b) n < (n + 1) * 2 ^ l.length
  | [], n, _ => by simp
  | b :: l, n, h => by
    have hb := h b (by simp)
    have ih := num_lt_from l (n * 2 + b) (fun c hc => h c (by simp [hc]))
    rw [List.foldl_cons, List.length_cons, Nat.pow_succ]
    have : (n * 2 + b + 1) * 2 ^ l.length ≤ (n + 1) * (2 ^ l.length * 2) := by
      rw [Nat.mul_comm (2 ^ l.length), ← Nat.mul_assoc]
      exact Nat.mul_le_mul_right _ (by omega)
    omega
theorem num_lt {l : List Nat} (h : ∀ b ∈ l, b < 2) : num l < 2 ^ l.length := by
  have := num_lt_from l 0 h
  unfold num
  omega
theorem bits8_lt (z : Nat) : ∀ b ∈ bits8 z, b < 2 := by
  intro b hb
  simp only [bits8, List.mem_cons, List.not_mem_nil, or_false] at hb
  rcases hb with rfl | rfl | rfl | rfl | rfl | rfl | rfl | rfl <;> exact Nat.mod_lt _ (by decide)
theorem bits6_lt (z : Nat) : ∀ b ∈ bits6 z, b < 2 := by
  intro b hb
  simp only [bits6, List.mem_cons, List.not_mem_nil, or_false] at hb
  rcases hb with rfl | rfl | rfl | rfl | rfl | rfl <;> exact Nat.mod_lt _ (by decide)
theorem flat_lt {f : Nat → List Nat} (hf : ∀ z, ∀ b ∈ f z, b < 2) (l : List Nat) : ∀ b ∈ l.flatMap f, b < 2 := by
  intro b hb
  obtain ⟨z, _, h⟩ := List.mem_flatMap.1 hb
  exact hf z b h
theorem padTo6_lt {m : List Nat} (h : ∀ b ∈ m, b < 2) : ∀ b ∈ padTo6 m, b < 2 := by
  intro b hb
  rcases List.mem_append.1 hb with h1 | h1
  · exact h b h1
  · rw [(List.mem_replicate.1 h1).2]; decide
theorem padTo6_len (m : List Nat) : (padTo6 m).length % 6 = 0 := by
  simp only [padTo6, List.length_append, List.length_replicate]
  omega
theorem group_lt {m : List Nat} (h : ∀ b ∈ m, b < 2) (k j : Nat) : ∀ b ∈ group m k j, b < 2 := fun b hb => h b (List.mem_of_mem_drop (List.mem_of_mem_take hb))
theorem group_at (m : List Nat) (k j q : Nat) (h : q < k) : (group m k j)[q]? = m[k * j + q]? := by
  unfold group
  rw [List.getElem?_take, if_pos h, List.getElem?_drop]
theorem group_len (m : List Nat) (k j : Nat) (h : k * j + k ≤ m.length) : (group m k j).length = k := by
  unfold group
  rw [List.length_take, List.length_drop]
  omega
/-- The letters, one after the other. -/
theorem enc_len (l : List Nat) : (enc l).length = (padTo6 (l.flatMap bits8)).length / 6 := by simp [enc]
theorem enc_at (l : List Nat) (j : Nat) (h : 6 * j + 6 ≤ (padTo6 (l.flatMap bits8)).length) : (enc l)[j]? = some (letter (num (group (padTo6 (l.flatMap bits8)) 6 j))) := by
  unfold enc
  rw [List.getElem?_map, List.getElem?_range (by omega)]
  rfl
theorem enc_lt (l : List Nat) : ∀ b ∈ enc l, b < 256 := by
  intro b hb
  obtain ⟨j, _, rfl⟩ := List.mem_map.1 hb
  refine letter_lt _ ?_
  have h := num_lt (group_lt (padTo6_lt (flat_lt bits8_lt l)) 6 j)
  have h2 : (group (padTo6 (l.flatMap bits8)) 6 j).length ≤ 6 := by unfold group; rw [List.length_take]; omega
  have h3 : 2 ^ (group (padTo6 (l.flatMap bits8)) 6 j).length ≤ 2 ^ 6 := Nat.pow_le_pow_right (by decide) h2
  omega
end TextMath
