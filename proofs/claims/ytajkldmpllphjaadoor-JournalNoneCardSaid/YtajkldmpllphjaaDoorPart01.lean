/-
  Texts of one claim, merged.
  CrcMath: Plain mathematics of the sum of chapter 2: one bit's step, one byte's step, the two forms in which programs write it, what two unlike bytes come to, and the division of polynomials that the document's own answer does. No program, no conditions but those typed.
  CrcStep: The contract of crc.Step: from a sum and a byte to the sum with that byte behind; memory is as it was. The condition: the two tables hold what the program's text lays there.
  Arrays: Arrays of integers, for any program: '==' of two of them; how one that came in is opened and reads as data; what a variable that holds one is, given what it reads as. Bytes that came in as a slice. No conditions but those typed.
  CrcLaid: From the condition that crc's two tables are laid as the program's text lays them to their cells; a world that meets the condition.
  LawRow: For any program and any law: from the law's contract over opened arguments (it answers true, old memory is as it was) to the row's lifted statement: each argument reads as it did. No conditions but those typed.
  I64: What an int may be. No program is run here.
  But: 'But for one block the world is as it was, as far as it went', and what follows from it. No program is run here.
  Apart: A world as before but for some blocks, and what is new. No program is run here.
  Text: Texts as lists of numbers below 256, and back. No conditions but those typed.
  BlockMath: Plain mathematics of chapter 8: what a device has, and what each call does to it. No program, no conditions but those typed.
  FailAt: The contract of fail.At, and chains of wraps in memory: what they are, and that they stay where nothing of theirs is written. No conditions but those typed.
  ErrBase: What errors.Is and fail.Place both ask of an *Error: Unwrap, that it unwraps to one error, what reflectlite.TypeOf calls. No conditions but on the cells that are read.
-/
import Derived.Test.YtajkldmpllphjaaDoorProg
import Derived.WalkKit
import Derived.Handy
import Derived.Outline
import Derived.Lib.Hide
import Derived.Below
import Derived.BigQuiet
import Derived.Laws.BitsAllLaws
import Derived.ChangeKeysEq
import Derived.ChangeSlices
import Derived.Carry
import Derived.RowKit
import Derived.ProofKit
import Derived.Test.YtajkldmpllphjaaDoorRows
import Derived.ChangeSame
import Derived.ChangeVars
import Derived.JoinedOf
import Derived.LaidLaws
import Derived.LaidHandle
import Derived.SevenTiedAt
import Derived.LaidEql
import Derived.WideLaws
import Derived.Stop.Asserts
import Derived.RowKitTokens
import Derived.Defers
import Derived.Recover
import Derived.RegionTactic
import Derived.ChangeAlike
import Derived.Laws.Pointers
import Derived.Laws.EntriesVeiled
namespace CrcMath

def poly : Nat := 2197175160

/-- One bit behind a register. -/
def bitStep (c b : Nat) : Nat := c / 2 ^^^ (if (c + b) % 2 = 1 then poly else 0)
/-- k bits of x behind a register, the lowest first. -/
def bitsStep : Nat → Nat → Nat → Nat
  | 0, c, _ => c
  | k + 1, c, x => bitsStep k (bitStep c (x % 2)) (x / 2)
/-- One byte behind a register. -/
def byteStep (c x : Nat) : Nat := bitsStep 8 c x
/-- The register behind some bytes. -/
def raw (bs : List Nat) : Nat := bs.foldl byteStep 4294967295
/-- The sum. -/
def sum (bs : List Nat) : Nat := 4294967295 ^^^ raw bs

theorem poly_lt : poly < 2 ^ 32 := by decide
theorem xor_lt {a b : Nat} (ha : a < 2 ^ 32) (hb : b < 2 ^ 32) : a ^^^ b < 2 ^ 32 := Nat.xor_lt_two_pow ha hb

theorem bitStep_lt {c b : Nat} (h : c < 2 ^ 32) : bitStep c b < 2 ^ 32 := by
  unfold bitStep
  refine xor_lt (by omega) ?_
  split
  · exact poly_lt
  · decide
theorem bitsStep_lt : ∀ (k c x : Nat), c < 2 ^ 32 → bitsStep k c x < 2 ^ 32
  | 0, _, _, h => h
  | k + 1, _, _, h => bitsStep_lt k _ _ (bitStep_lt h)
theorem byteStep_lt {c x : Nat} (h : c < 2 ^ 32) : byteStep c x < 2 ^ 32 := bitsStep_lt 8 c x h
theorem foldl_lt : ∀ (bs : List Nat) (c : Nat), c < 2 ^ 32 → bs.foldl byteStep c < 2 ^ 32
  | [], _, h => h
  | _ :: r, _, h => foldl_lt r _ (byteStep_lt h)
theorem raw_lt (bs : List Nat) : raw bs < 2 ^ 32 := foldl_lt bs _ (by decide)
theorem sum_lt (bs : List Nat) : sum bs < 2 ^ 32 := xor_lt (by decide) (raw_lt bs)

/-! ### Parities -/
theorem xor_mod (a b : Nat) : (a ^^^ b) % 2 = (a + b) % 2 := by
  have h : ∀ n : Nat, n % 2 = (n.testBit 0).toNat := fun n => by
    rw [Nat.testBit_zero]
    rcases Nat.mod_two_eq_zero_or_one n with h | h <;> simp [h]
  rw [h (a ^^^ b), Nat.testBit_xor, Nat.testBit_zero, Nat.testBit_zero]
  rcases Nat.mod_two_eq_zero_or_one a with ha | ha <;> rcases Nat.mod_two_eq_zero_or_one b with hb | hb <;> simp [ha, hb] <;> omega
theorem xor_div (a b : Nat) : (a ^^^ b) / 2 = a / 2 ^^^ b / 2 := by
  apply Nat.eq_of_testBit_eq
  intro i
  simp only [Nat.testBit_xor, ← Nat.testBit_succ]

/-- A byte may be laid over the register first, and noughts put behind. -/
theorem bitsStep_over : ∀ (k c x : Nat), bitsStep k c x = bitsStep k (c ^^^ x) 0 ^^^ x / 2 ^ k
  | 0, c, x => by
    show c = (c ^^^ x) ^^^ x / 2 ^ 0
    rw [Nat.pow_zero, Nat.div_one, Nat.xor_assoc, Nat.xor_self, Nat.xor_zero]
  | k + 1, c, x => by
    show bitsStep k (bitStep c (x % 2)) (x / 2) = bitsStep k (bitStep (c ^^^ x) (0 % 2)) (0 / 2) ^^^ x / 2 ^ (k + 1)
    have h : bitStep (c ^^^ x) (0 % 2) = bitStep c (x % 2) ^^^ x / 2 := by
      unfold bitStep
      rw [xor_div]
      have e : ((c ^^^ x) + 0 % 2) % 2 = (c + x % 2) % 2 := by
        have := xor_mod c x
        omega
      rw [e, Nat.xor_assoc, Nat.xor_comm (x / 2), ← Nat.xor_assoc]
    have hz : (0 : Nat) / 2 = 0 := rfl
    rw [h, bitsStep_over k (bitStep c (x % 2)) (x / 2), hz, Nat.div_div_eq_div_mul, Nat.pow_succ, Nat.mul_comm 2]
theorem byteStep_over (c x : Nat) (hx : x < 256) : byteStep c x = bitsStep 8 (c ^^^ x) 0 := by
  unfold byteStep
  rw [bitsStep_over, Nat.div_eq_of_lt (by simpa using hx), Nat.xor_zero]

/-! ### The steps are linear -/
theorem ite_xor (p q : Prop) [Decidable p] [Decidable q] (r : Prop) [Decidable r] (h : r ↔ ¬(p ↔ q)) (a : Nat) : (if r then a else 0) = (if p then a else 0) ^^^ (if q then a else 0) := by
  by_cases hp : p <;> by_cases hq : q <;> simp [h, hp, hq]
theorem bitStep_xor (c d a b : Nat) : bitStep (c ^^^ d) (a ^^^ b) = bitStep c a ^^^ bitStep d b := by
  unfold bitStep
  rw [xor_div, ite_xor ((c + a) % 2 = 1) ((d + b) % 2 = 1) (((c ^^^ d) + (a ^^^ b)) % 2 = 1) (by have h1 := xor_mod c d; have h2 := xor_mod a b; omega)]
  rw [Nat.xor_assoc, Nat.xor_assoc]
  congr 1
  rw [← Nat.xor_assoc, Nat.xor_comm (d / 2), Nat.xor_assoc]
theorem bitsStep_xor : ∀ (k c d x y : Nat), bitsStep k (c ^^^ d) (x ^^^ y) = bitsStep k c x ^^^ bitsStep k d y
  | 0, _, _, _, _ => rfl
  | k + 1, c, d, x, y => by
    show bitsStep k (bitStep (c ^^^ d) ((x ^^^ y) % 2)) ((x ^^^ y) / 2) = bitsStep k (bitStep c (x % 2)) (x / 2) ^^^ bitsStep k (bitStep d (y % 2)) (y / 2)
    have e : (x ^^^ y) % 2 = (x % 2) ^^^ (y % 2) := by
      rw [xor_mod]
      rcases Nat.mod_two_eq_zero_or_one x with hx | hx <;> rcases Nat.mod_two_eq_zero_or_one y with hy | hy <;> simp [hx, hy] <;> omega
    rw [e, xor_div, bitStep_xor, bitsStep_xor k]

/-- Where the low k bits are noughts, k noughts behind shift alone. -/
theorem bitsStep_high : ∀ (k c : Nat), bitsStep k (c * 2 ^ k) 0 = c
  | 0, c => by show c * 2 ^ 0 = c; omega
  | k + 1, c => by
    show bitsStep k (bitStep (c * 2 ^ (k + 1)) (0 % 2)) (0 / 2) = c
    have h : bitStep (c * 2 ^ (k + 1)) (0 % 2) = c * 2 ^ k := by
      unfold bitStep
      have e : c * 2 ^ (k + 1) = (c * 2 ^ k) * 2 := by rw [Nat.pow_succ, Nat.mul_assoc]
      rw [e, if_neg (by omega), Nat.xor_zero]
      omega
    rw [h]
    exact bitsStep_high k c
theorem low_high (k c : Nat) : c = (c / 2 ^ k) * 2 ^ k ^^^ c % 2 ^ k := by
  apply Nat.eq_of_testBit_eq
  intro i
  rw [Nat.testBit_xor, Nat.testBit_mod_two_pow, Nat.mul_comm, Nat.testBit_two_pow_mul]
  by_cases h : i < k
  · simp [h, Nat.not_le.2 h]
  · have h' : k ≤ i := Nat.le_of_not_lt h
    simp only [h, h', decide_true, decide_false, Bool.true_and, Bool.false_and, Bool.xor_false]
    rw [Nat.testBit_div_two_pow, Nat.sub_add_cancel h']
/-- The form with a table: what a register's low byte comes to, over the rest of it. -/
theorem zeros_table (c : Nat) : bitsStep 8 c 0 = bitsStep 8 (c % 256) 0 ^^^ c / 256 := by
  have h := low_high 8 c
  have e : bitsStep 8 c 0 = bitsStep 8 ((c / 2 ^ 8) * 2 ^ 8 ^^^ c % 2 ^ 8) (0 ^^^ 0) := by rw [← h]; rfl
  rw [e, bitsStep_xor, bitsStep_high, Nat.xor_comm]
theorem byteStep_table (c x : Nat) (hx : x < 256) : byteStep c x = bitsStep 8 ((c ^^^ x) % 256) 0 ^^^ c / 256 := by
  rw [byteStep_over c x hx, zeros_table]
  congr 1
  have h : (c ^^^ x) / 2 ^ 8 = c / 2 ^ 8 ^^^ x / 2 ^ 8 := by
    apply Nat.eq_of_testBit_eq
    intro i
    simp only [Nat.testBit_xor, Nat.testBit_div_two_pow]
  have h2 : x / 2 ^ 8 = 0 := Nat.div_eq_of_lt (by simpa using hx)
  rw [h2, Nat.xor_zero] at h
  exact h

theorem xor_twice (a b : Nat) : a ^^^ (a ^^^ b) = b := by rw [← Nat.xor_assoc, Nat.xor_self, Nat.zero_xor]
theorem xor_left {a b c : Nat} : a ^^^ b = a ^^^ c ↔ b = c := ⟨fun h => by rw [← xor_twice a b, h, xor_twice], fun h => by rw [h]⟩
theorem xor_right {a b c : Nat} : b ^^^ a = c ^^^ a ↔ b = c := by rw [Nat.xor_comm b, Nat.xor_comm c]; exact xor_left

/-! ### What is unlike stays unlike -/
/-- The top bit of what comes out tells whether the divisor was laid over. -/
theorem bitStep_top {c b : Nat} (h : c < 2 ^ 32) : (bitStep c b).testBit 31 = decide ((c + b) % 2 = 1) := by
  unfold bitStep
  rw [Nat.testBit_xor]
  have h1 : (c / 2).testBit 31 = false := Nat.testBit_lt_two_pow (by omega)
  rw [h1]
  split
  · rename_i h2
    simp [h2, poly]
    decide
  · rename_i h2
    simp [h2]
/-- One bit behind unlike registers leaves unlike ones. -/
theorem bitStep_inj {c d b : Nat} (hc : c < 2 ^ 32) (hd : d < 2 ^ 32) (h : bitStep c b = bitStep d b) : c = d := by
  have ht : decide ((c + b) % 2 = 1) = decide ((d + b) % 2 = 1) := by rw [← bitStep_top hc, ← bitStep_top hd, h]
  have hp : (c + b) % 2 = 1 ↔ (d + b) % 2 = 1 := by simpa using ht
  have hd2 : c / 2 = d / 2 := by
    unfold bitStep at h
    by_cases hq : (c + b) % 2 = 1
    · rw [if_pos hq, if_pos (hp.1 hq)] at h
      exact xor_right.1 h
    · rw [if_neg hq, if_neg (fun q => hq (hp.2 q))] at h
      exact xor_right.1 h
  omega
theorem bitsStep_inj : ∀ (k c d x : Nat), c < 2 ^ 32 → d < 2 ^ 32 → bitsStep k c x = bitsStep k d x → c = d
  | 0, _, _, _, _, _, h => h
  | k + 1, _, _, _, hc, hd, h => bitStep_inj hc hd (bitsStep_inj k _ _ _ (bitStep_lt hc) (bitStep_lt hd) h)
theorem byteStep_inj {c d x : Nat} (hc : c < 2 ^ 32) (hd : d < 2 ^ 32) (h : byteStep c x = byteStep d x) : c = d := bitsStep_inj 8 c d x hc hd h
theorem foldl_inj : ∀ (bs : List Nat) (c d : Nat), c < 2 ^ 32 → d < 2 ^ 32 → bs.foldl byteStep c = bs.foldl byteStep d → c = d
  | [], _, _, _, _, h => h
  | _ :: r, _, _, hc, hd, h => byteStep_inj hc hd (foldl_inj r _ _ (byteStep_lt hc) (byteStep_lt hd) h)
/-- Unlike bytes behind one register leave unlike ones. -/
theorem byteStep_byte {c x y : Nat} (hc : c < 2 ^ 32) (hx : x < 256) (hy : y < 256) (h : byteStep c x = byteStep c y) : x = y := by
  rw [byteStep_over c x hx, byteStep_over c y hy] at h
  have h2 := bitsStep_inj 8 _ _ 0 (xor_lt hc (by omega)) (xor_lt hc (by omega)) h
  exact xor_left.1 h2
/-- With one byte another one, wherever, the register behind all is another one. -/
theorem raw_tells (a r : List Nat) (x y : Nat) (hx : x < 256) (hy : y < 256) : raw (a ++ x :: r) = raw (a ++ y :: r) ↔ x = y := by
  constructor
  · intro h
    unfold raw at h
    rw [List.foldl_append, List.foldl_append, List.foldl_cons, List.foldl_cons] at h
    have hl := foldl_lt a 4294967295 (by decide)
    exact byteStep_byte hl hx hy (foldl_inj r _ _ (byteStep_lt hl) (byteStep_lt hl) h)
  · rintro rfl; rfl
theorem sum_tells (a r : List Nat) (x y : Nat) (hx : x < 256) (hy : y < 256) : sum (a ++ x :: r) = sum (a ++ y :: r) ↔ x = y := by
  rw [← raw_tells a r x y hx hy]
  unfold sum
  exact xor_left
/-- The step that the chapter names: from a sum to that with one byte more. -/
def step (s x : Nat) : Nat := 4294967295 ^^^ byteStep (4294967295 ^^^ s) x
theorem snoc_any (n : Nat) (bs : List Nat) (x : Nat) : n ^^^ (bs ++ [x]).foldl byteStep n = n ^^^ byteStep (n ^^^ (n ^^^ bs.foldl byteStep n)) x := by
  rw [xor_twice, List.foldl_append, List.foldl_cons, List.foldl_nil]
theorem sum_snoc (bs : List Nat) (x : Nat) : sum (bs ++ [x]) = step (sum bs) x := snoc_any 4294967295 bs x
theorem steps_any (n : Nat) : ∀ (l : List Nat) (c : Nat), l.foldl (fun s x => n ^^^ byteStep (n ^^^ s) x) (n ^^^ c) = n ^^^ l.foldl byteStep c
  | [], _ => by rw [List.foldl_nil, List.foldl_nil]
  | x :: r, c => by rw [List.foldl_cons, List.foldl_cons, ← steps_any n r, xor_twice]
theorem steps_from (n : Nat) (l : List Nat) : l.foldl (fun s x => n ^^^ byteStep (n ^^^ s) x) 0 = n ^^^ l.foldl byteStep n := by
  rw [← steps_any n l n, Nat.xor_self]
theorem sum_steps (bs : List Nat) : bs.foldl step 0 = sum bs := steps_from 4294967295 bs
theorem step_tells {s x y : Nat} (hs : s < 2 ^ 32) (hx : x < 256) (hy : y < 256) : step s x = step s y ↔ x = y := by
  constructor
  · intro h
    unfold step at h
    exact byteStep_byte (xor_lt (by decide) hs) hx hy (xor_left.1 h)
  · rintro rfl; rfl
theorem step_lt {s x : Nat} (hs : s < 2 ^ 32) : step s x < 2 ^ 32 := xor_lt (by decide) (byteStep_lt (xor_lt (by decide) hs))

/-! ### The division, bit by bit, over a row of bits -/
/-- Bit j of some bytes, each byte's lowest first; noughts behind. -/
def mbit (bs : List Nat) (j : Nat) : Bool := (bs.getD (j / 8) 0).testBit (j % 8)
/-- How far behind the bit that is cleared the bits lie that are turned. -/
def offs : List Nat := [4, 5, 6, 7, 9, 10, 12, 13, 14, 18, 19, 21, 22, 23, 24, 26, 32]
/-- The row at first: the first 32 bits turned. -/
def row0 (bs : List Nat) (j : Nat) : Bool := if j < 32 then !mbit bs j else mbit bs j
/-- One round at bit i. -/
def rowStep (L : Nat → Bool) (i : Nat) : Nat → Bool := fun j => if L i then (L j ^^ decide (i ≤ j ∧ j - i ∈ offs)) else L j
/-- The row behind i rounds. -/
def rows (bs : List Nat) : Nat → Nat → Bool
  | 0 => row0 bs
  | i + 1 => rowStep (rows bs i) i
/-- The register behind i bits. -/
def reg (bs : List Nat) : Nat → Nat
  | 0 => 4294967295
  | i + 1 => bitStep (reg bs i) (mbit bs i).toNat

theorem reg_lt (bs : List Nat) : ∀ i, reg bs i < 2 ^ 32
  | 0 => by show 4294967295 < 2 ^ 32; decide
  | i + 1 => bitStep_lt (reg_lt bs i)
theorem ones_bit : ∀ j, j < 32 → (4294967295 : Nat).testBit j = true := by decide
theorem poly_bit : ∀ j, j < 32 → poly.testBit j = decide (j + 1 ∈ offs) := by decide
theorem offs_le : ∀ d, d ∈ offs → 4 ≤ d ∧ d ≤ 32 := by decide
theorem mod_testBit (c : Nat) (b : Bool) : decide ((c + b.toNat) % 2 = 1) = (c.testBit 0 ^^ b) := by
  rw [Nat.testBit_zero]
  rcases Nat.mod_two_eq_zero_or_one c with h | h <;> cases b <;> simp [h] <;> omega
theorem bitStep_bit (c : Nat) (b : Bool) (j : Nat) : (bitStep c b.toNat).testBit j = (c.testBit (j + 1) ^^ ((c.testBit 0 ^^ b) && poly.testBit j)) := by
  unfold bitStep
  rw [Nat.testBit_xor, ← Nat.testBit_succ]
  have h := mod_testBit c b
  by_cases hq : (c + b.toNat) % 2 = 1
  · rw [if_pos hq, ← h]
    simp [hq]
  · rw [if_neg hq, ← h]
    simp [hq]

/-- The row is the register laid over what is still to come. -/
theorem rows_reg (bs : List Nat) : ∀ i j, rows bs i (i + j) = (mbit bs (i + j) ^^ (decide (j < 32) && (reg bs i).testBit j))
  | 0, j => by
    show row0 bs (0 + j) = (mbit bs (0 + j) ^^ (decide (j < 32) && (4294967295 : Nat).testBit j))
    unfold row0
    by_cases h : j < 32
    · rw [if_pos (by omega), ones_bit j h]
      simp [h]
    · rw [if_neg (by omega)]
      simp [h]
  | i + 1, j => by
    have ih := rows_reg bs i
    have hi := ih 0
    rw [Nat.add_zero] at hi
    have hj := ih (j + 1)
    show rowStep (rows bs i) i (i + 1 + j) = (mbit bs (i + 1 + j) ^^ (decide (j < 32) && (bitStep (reg bs i) (mbit bs i).toNat).testBit j))
    have e : i + (j + 1) = i + 1 + j := by omega
    rw [e] at hj
    unfold rowStep
    rw [hi, hj, bitStep_bit]
    have e2 : i + 1 + j - i = j + 1 := by omega
    rw [e2]
    by_cases h31 : j < 31
    · have h32 : j < 32 := by omega
      rw [poly_bit j h32]
      have hle : i ≤ i + 1 + j := by omega
      simp only [show j + 1 < 32 by omega, h32, hle, decide_true, Bool.true_and, true_and, show (0 : Nat) < 32 by omega]
      cases mbit bs i <;> cases (reg bs i).testBit 0 <;> cases mbit bs (i + 1 + j) <;> cases (reg bs i).testBit (j + 1) <;> cases decide (j + 1 ∈ offs) <;> rfl
    · by_cases h : j = 31
      · subst h
        have htop : (reg bs i).testBit 32 = false := Nat.testBit_lt_two_pow (reg_lt bs i)
        have hp : poly.testBit 31 = true := by decide
        have ho : (32 : Nat) ∈ offs := by decide
        have hle : i ≤ i + 1 + 31 := by omega
        simp only [htop, hp, ho, hle, and_self, decide_true, Bool.true_and, Bool.and_true, show ¬ (31 + 1 < 32) by omega, show 31 < 32 by omega, decide_false, Bool.false_and, Bool.xor_false, Bool.false_xor, show (0 : Nat) < 32 by omega]
        cases mbit bs i <;> cases (reg bs i).testBit 0 <;> cases mbit bs (i + 1 + 31) <;> rfl
      · have ho : ¬ (j + 1 ∈ offs) := fun hm => by have := (offs_le _ hm).2; omega
        simp only [ho, and_false, decide_false, Bool.xor_false, show ¬ (j + 1 < 32) by omega, show ¬ (j < 32) by omega, Bool.false_and]
        split <;> rfl

/-- Eight bits of the register's way are one byte's. -/
theorem mbit_at (bs : List Nat) (k t : Nat) (ht : t < 8) : mbit bs (8 * k + t) = (bs.getD k 0).testBit t := by
  unfold mbit
  rw [show (8 * k + t) / 8 = k by omega, show (8 * k + t) % 8 = t by omega]
theorem bit_toNat (x t : Nat) : x / 2 ^ t % 2 = (x.testBit t).toNat := by
  rw [Nat.testBit_eq_decide_div_mod_eq]
  rcases Nat.mod_two_eq_zero_or_one (x / 2 ^ t) with h | h <;> simp [h]
theorem reg_within (bs : List Nat) (k : Nat) : ∀ t, t ≤ 8 → bitsStep (8 - t) (reg bs (8 * k + t)) (bs.getD k 0 / 2 ^ t) = byteStep (reg bs (8 * k)) (bs.getD k 0)
  | 0, _ => by rw [Nat.pow_zero, Nat.div_one]; rfl
  | t + 1, h => by
    rw [← reg_within bs k t (by omega)]
    rw [show 8 - t = (8 - (t + 1)) + 1 by omega]
    show _ = bitsStep (8 - (t + 1)) (bitStep (reg bs (8 * k + t)) (bs.getD k 0 / 2 ^ t % 2)) (bs.getD k 0 / 2 ^ t / 2)
    rw [bit_toNat, ← mbit_at bs k t (by omega), Nat.div_div_eq_div_mul, ← Nat.pow_succ]
    rfl
theorem reg_byte (bs : List Nat) (k : Nat) : reg bs (8 * (k + 1)) = byteStep (reg bs (8 * k)) (bs.getD k 0) := by
  have h := reg_within bs k 8 (Nat.le_refl _)
  rw [← h]
  rfl
theorem reg_take (bs : List Nat) : ∀ k, k ≤ bs.length → reg bs (8 * k) = raw (bs.take k)
  | 0, _ => by rw [List.take_zero]; rfl
  | k + 1, h => by
    rw [reg_byte, reg_take bs k (by omega), List.take_succ_eq_append_getElem (by omega)]
    unfold raw
    rw [List.foldl_append, List.foldl_cons, List.foldl_nil]
    congr 1
    simp [List.getD, List.getElem?_eq_getElem (show k < bs.length by omega)]
theorem reg_all (bs : List Nat) : reg bs (8 * bs.length) = raw bs := by
  rw [reg_take bs _ (Nat.le_refl _), List.take_length]

/-- Bits gathered into a number, the lowest first. -/
def gather (f : Nat → Bool) : Nat → Nat
  | 0 => 0
  | k + 1 => gather f k + (if f k then 2 ^ k else 0)
theorem gather_lt (f : Nat → Bool) : ∀ n, gather f n < 2 ^ n
  | 0 => by show 0 < 2 ^ 0; decide
  | n + 1 => by
    have := gather_lt f n
    show gather f n + _ < 2 ^ (n + 1)
    rw [Nat.pow_succ]
    split <;> omega
theorem gather_bit (f : Nat → Bool) : ∀ n k, (gather f n).testBit k = (decide (k < n) && f k)
  | 0, k => by simp [gather]
  | n + 1, k => by
    show (gather f n + if f n then 2 ^ n else 0).testBit k = _
    have hl := gather_lt f n
    have ih := gather_bit f n k
    by_cases hf : f n
    · rw [if_pos hf, Nat.add_comm]
      rcases Nat.lt_trichotomy k n with h | h | h
      · rw [Nat.testBit_two_pow_add_gt h, ih]
        simp [h, show k < n + 1 by omega]
      · subst h
        rw [Nat.testBit_two_pow_add_eq, ih]
        simp [hf]
      · have : (2 ^ n + gather f n).testBit k = false := Nat.testBit_lt_two_pow (by have : 2 ^ (n + 1) ≤ 2 ^ k := Nat.pow_le_pow_right (by omega) (by omega); rw [Nat.pow_succ] at this; omega)
        rw [this]
        simp [show ¬ k < n + 1 by omega]
    · rw [if_neg hf, Nat.add_zero, ih]
      by_cases h : k = n
      · subst h
        simp [hf]
      · by_cases h2 : k < n
        · simp [h2, show k < n + 1 by omega]
        · simp [h2, show ¬ k < n + 1 by omega]
/-- What the division leaves, all bits turned, is the sum. -/
theorem division (bs : List Nat) : gather (fun k => !rows bs (8 * bs.length) (8 * bs.length + k)) 32 = sum bs := by
  apply Nat.eq_of_testBit_eq
  intro k
  rw [gather_bit, rows_reg, reg_all]
  unfold sum
  rw [Nat.testBit_xor]
  have hm : mbit bs (8 * bs.length + k) = false := by
    unfold mbit
    rw [List.getD_eq_getElem?_getD, List.getElem?_eq_none (by omega)]
    exact Nat.zero_testBit _
  rw [hm]
  by_cases h : k < 32
  · rw [ones_bit k h]
    simp [h]
  · have h1 : (4294967295 : Nat).testBit k = false := Nat.testBit_lt_two_pow (by have : 2 ^ 32 ≤ 2 ^ k := Nat.pow_le_pow_right (by omega) (by omega); omega)
    have h2 : (raw bs).testBit k = false := Nat.testBit_lt_two_pow (by have := raw_lt bs; have : 2 ^ 32 ≤ 2 ^ k := Nat.pow_le_pow_right (by omega) (by omega); omega)
    rw [h1, h2]
    simp [h]
end CrcMath
namespace Go.Proofs.YtajkldmpllphjaaDoor
open Go.RowKit CrcMath

/-- What a byte's lower four bits come to. -/
def lowT : List Nat := [0, 4067132163, 3778769143, 324072436, 3348797215, 904991772, 648144872, 3570033899, 2329499855, 2024987596, 1809983544, 2575936315, 1296289744, 3207089363, 2893594407, 1578318884]
/-- What its upper four bits come to. -/
def highT : List Nat := [0, 274646895, 549293790, 820201905, 1098587580, 1361435347, 1640403810, 1905808397, 2197175160, 2460548119, 2722870694, 2987750089, 3280807620, 3553878443, 3811616794, 4084100981]

set_option maxRecDepth 100000 in
theorem tables_all : (List.range 256).all (fun i => bitsStep 8 i 0 == (lowT.getD (i % 16) 0 ^^^ highT.getD (i / 16) 0)) = true := by decide
theorem tables_byte (i : Nat) (h : i < 256) : bitsStep 8 i 0 = (lowT.getD (i % 16) 0 ^^^ highT.getD (i / 16) 0) := by
  have h1 := List.all_eq_true.1 tables_all i (List.mem_range.2 h)
  exact eq_of_beq h1
theorem low_lt : ∀ i, i < 16 → lowT.getD i 0 < 4294967296 := by decide
theorem high_lt : ∀ i, i < 16 → highT.getD i 0 < 4294967296 := by decide

/-- The two tables lie as the program's text lays them. -/
structure Tables (w : World) : Prop where
  low : ∀ i, i < 16 → w.cell? ⟨1, i, none⟩ = some (.int .u32 (lowT.getD i 0 : Nat))
  high : ∀ i, i < 16 → w.cell? ⟨2, i, none⟩ = some (.int .u32 (highT.getD i 0 : Nat))
theorem Tables.below {w w' : World} {B : Nat} (h : Tables w) (hb : Below B w w') (h0 : 1 < B) (h1 : 2 < B) : Tables w' :=
  ⟨fun i hi => (hb.cell (p := ⟨1, i, none⟩) h0).trans (h.low i hi), fun i hi => (hb.cell (p := ⟨2, i, none⟩) h1).trans (h.high i hi)⟩
theorem Tables.drewN {w : World} (h : Tables w) (n : Nat) : Tables (w.drewN n) := ⟨h.low, h.high⟩
theorem Tables.lt {w : World} (h : Tables w) : 1 < w.heap.size ∧ 2 < w.heap.size :=
  ⟨World.block_lt_of_cell? w _ (h.low 0 (by decide)), World.block_lt_of_cell? w _ (h.high 0 (by decide))⟩
theorem Tables.grown {w w' : World} (h : Tables w) (hb : Below w.heap.size w w') : Tables w' := h.below hb h.lt.1 h.lt.2

/-- The text's own way to the step. -/
theorem step_text (s c : Nat) (hc : c < 256) : CrcMath.step s c = (4294967295 ^^^ (((4294967295 ^^^ s) / 256 ^^^ lowT.getD (((4294967295 ^^^ s) % 256 ^^^ c) % 16) 0) ^^^ highT.getD (((4294967295 ^^^ s) % 256 ^^^ c) / 16) 0)) := by
  have hi : ((4294967295 ^^^ s) % 256 ^^^ c) < 256 := Nat.xor_lt_two_pow (n := 8) (Nat.mod_lt _ (by decide)) hc
  have e : ((4294967295 ^^^ s) ^^^ c) % 256 = ((4294967295 ^^^ s) % 256 ^^^ c) := by
    have := Nat.xor_mod_two_pow (a := 4294967295 ^^^ s) (b := c) (n := 8)
    rw [show (2 : Nat) ^ 8 = 256 from rfl, Nat.mod_eq_of_lt hc] at this
    exact this
  unfold CrcMath.step
  rw [byteStep_table _ c hc, e, tables_byte _ hi]
  congr 1
  rw [Nat.xor_comm, ← Nat.xor_assoc]

set_option maxHeartbeats 4000000 in
theorem step_walk (s c : Nat) (w : World) (hs : s < 4294967296) (hc : c < 256) (hT : Tables w) :
    Calls Tryd.prog 83 #[.int .u32 (s : Int), .int .u8 (c : Int)] w fun e w' => e = .returned (.int .u32 (CrcMath.step s c : Nat)) ∧ ∃ n, w' = w.drewN n := by
  obtain ⟨L, hL⟩ : ∃ L, L = 4294967295 ^^^ s := ⟨_, rfl⟩
  obtain ⟨I, hI⟩ : ∃ I, I = L % 256 ^^^ c := ⟨_, rfl⟩
  obtain ⟨J, hJ⟩ : ∃ J, J = I % 16 := ⟨_, rfl⟩
  obtain ⟨K, hK⟩ : ∃ K, K = I / 16 := ⟨_, rfl⟩
  obtain ⟨x, hx⟩ : ∃ x, x = lowT.getD J 0 := ⟨_, rfl⟩
  obtain ⟨y, hy⟩ : ∃ y, y = highT.getD K 0 := ⟨_, rfl⟩
  obtain ⟨M, hM⟩ : ∃ M, M = L / 256 ^^^ x := ⟨_, rfl⟩
  obtain ⟨R, hR⟩ : ∃ R, R = M ^^^ y := ⟨_, rfl⟩
  obtain ⟨Z, hZ⟩ : ∃ Z, Z = 4294967295 ^^^ R := ⟨_, rfl⟩
  have lL : L < 4294967296 := by rw [hL]; exact Nat.xor_lt_two_pow (n := 32) (by decide) hs
  have lI : I < 256 := by rw [hI]; exact Nat.xor_lt_two_pow (n := 8) (Nat.mod_lt _ (by decide)) hc
  have lJ : J < 16 := by omega
  have lK : K < 16 := by omega
  have lx : x < 4294967296 := by rw [hx]; exact low_lt J lJ
  have ly : y < 4294967296 := by rw [hy]; exact high_lt K lK
  have lM : M < 4294967296 := by rw [hM]; exact Nat.xor_lt_two_pow (n := 32) (by omega) lx
  have lR : R < 4294967296 := by rw [hR]; exact Nat.xor_lt_two_pow (n := 32) lM ly
  have lZ : Z < 4294967296 := by rw [hZ]; exact Nat.xor_lt_two_pow (n := 32) (by decide) lR
  have hstep : CrcMath.step s c = Z := by
    rw [step_text s c hc, ← hL, ← hI, ← hJ, ← hK, ← hx, ← hy, ← hM, ← hR, ← hZ]
  have c0 := hT.low J lJ
  have c1 := hT.high K lK
  rw [← hx] at c0
  rw [← hy] at c1
  rw [hstep]
  have hmax : IntKind.u32.max = 4294967295 := rfl
  have e1 : bits .xor .u32 IntKind.u32.max (s : Int) = (L : Int) := by
    rw [hL, hmax]; exact u32_xor_nat 4294967295 s (by decide) hs
  have e2 : bits .xor .u8 ((L : Int) % 256) (c : Int) = (I : Int) := by
    rw [hI]; exact u8_xor_nat (L % 256) c (Nat.mod_lt _ (by decide)) hc
  have e3 : bits .and .u8 (I : Int) 15 = (J : Int) := by
    have := u8_and_nat I 15 lI (by decide)
    rw [show I &&& 15 = I % 16 from Nat.and_two_pow_sub_one_eq_mod I 4, ← hJ] at this
    exact this
  have e4 : (I : Int) / 16 = (K : Int) := by omega
  have e5 : bits .xor .u32 ((L : Int) / 256) (x : Int) = (M : Int) := by
    rw [hM]; exact u32_xor_nat (L / 256) x (by omega) lx
  have e6 : bits .xor .u32 (M : Int) (y : Int) = (R : Int) := by
    rw [hR]; exact u32_xor_nat M y lM ly
  have e7 : bits .xor .u32 IntKind.u32.max (R : Int) = (Z : Int) := by
    rw [hZ, hmax]; exact u32_xor_nat 4294967295 R (by decide) lR
  have k0 : (J : Int) < 16 := by omega
  have k1 : (K : Int) < 16 := by omega
  clear hmax hT hL hI hJ hK hx hy hM hR hZ hstep
  go_enter Tryd.func83, Tryd.ntmps83
  go_wp2
  go_quiet (fail)
  go_wp2
  go_ret
  exact ⟨rfl, _, rfl⟩
end Go.Proofs.YtajkldmpllphjaaDoor
namespace Go.Proofs.YtajkldmpllphjaaDoor
open Go.RowKit Go.ChangeShapes Go.WideShapes

/-- The integers of an array, as a value. -/
def intsVal (k : IntKind) (xs : List Int) : Value := .agg (xs.map (Value.int k)).toArray

section
variable {P : Program}
theorem eqItems_ints {e : TypeId} {k : IntKind} (he : P.underlying e = some (.int k)) (hp : P.plainKey e = true) (hc : P.cellsOf e = 1) (d : Nat) (w : World) (xs ys : List Int) : ∀ (is : List Nat), (∀ i ∈ is, i < xs.length ∧ i < ys.length) →
    (Op.eqItems (d + 1) e (P.cellsOf e) (xs.map (Value.int k)).toArray (ys.map (Value.int k)).toArray is).run P w = .ok (is.all fun i => xs.getD i 0 == ys.getD i 0) w
  | [], _ => by simp [Op.eqItems]
  | i :: is, h => by
    obtain ⟨hx, hy⟩ := h i (by simp)
    have p1 := run_part_plain (P := P) w hp (xs := (xs.map (Value.int k)).toArray) (off := i) (v := .int k (xs.getD i 0)) (by simp [List.getD, hx])
    have p2 := run_part_plain (P := P) w hp (xs := (ys.map (Value.int k)).toArray) (off := i) (v := .int k (ys.getD i 0)) (by simp [List.getD, hy])
    have p3 := run_equalIn_int (P := P) w d e k k (xs.getD i 0) (ys.getD i 0) he
    have ih := eqItems_ints he hp hc d w xs ys is (fun j hj => h j (by simp [hj]))
    simp only [Op.eqItems, Sem.run_bind, hc, Nat.mul_one, p1, p2, p3, Result.andThen_ok, List.all_cons]
    rw [hc] at ih
    cases hq : (xs.getD i 0 == ys.getD i 0)
    · simp
    · simpa using ih

theorem all_range_eq : ∀ (xs ys : List Int), xs.length = ys.length → ((List.range xs.length).all fun i => xs.getD i 0 == ys.getD i 0) = decide (xs = ys) := by
  intro xs ys h
  rw [Bool.eq_iff_iff]
  simp only [List.all_eq_true, List.mem_range, beq_iff_eq, decide_eq_true_eq]
  constructor
  · intro ha
    apply List.ext_getElem h
    intro i h1 h2
    have := ha i h1
    simpa [List.getD, h1, h2] using this
  · rintro rfl i _; rfl

/-- '==' of two arrays of integers. -/
theorem equal_ints {t e : TypeId} {n : Nat} {k : IntKind} {i : TypeInfo} (hu : P.underlying t = some (.array n e)) (he : P.underlying e = some (.int k)) (hi : P.info? e = some i) (hp : P.plainKey e = true) (hc : P.cellsOf e = 1)
    (d : Nat) (w : World) (xs ys : List Int) (hx : xs.length = n) (hy : ys.length = n) : (Op.equalIn (d + 2) t (intsVal k xs) (intsVal k ys)).run P w = .ok (decide (xs = ys)) w := by
  unfold intsVal
  rw [run_equalIn_array w (d + 1) _ _ hu hi, eqItems_ints he hp hc d w xs ys _ (fun j hj => by simp at hj; omega), ← hx, all_range_eq xs ys (by omega)]

variable {H : Type} {enc : TypeId × Value → H} {w : World} {base : Nat} {sp : Nat → Bool} {held : Bool}

theorem mapM_ints {e : TypeId} {k : IntKind} (he : P.underlying e = some (.int k)) (hc : P.cellsOf e = 1) {m : Nat} : ∀ (L : List Nat) (cs : List Value) (xs : List (DataW H × List MemPlace)),
    L.mapM (fun i => DataW.trod enc P w base sp held m e ((cs.drop (i * P.cellsOf e)).take (P.cellsOf e))) = some xs →
    ∃ zs : List Int, xs = zs.map (fun z => (.lit (.int k z), [])) ∧ L.map (fun i => (cs.drop i).take 1) = zs.map (fun z => [Value.int k z]) ∧ ∀ z ∈ zs, (Lit.int k z).wf = true
  | [], cs, xs, h => by
    simp at h
    subst h
    exact ⟨[], rfl, rfl, by simp⟩
  | i :: L, cs, xs, h => by
    rw [List.mapM_cons] at h
    simp only [bind, Option.bind_eq_some_iff, pure, Option.some.injEq] at h
    obtain ⟨y, hy, ys, hys, rfl⟩ := h
    obtain ⟨zs, rfl, hl, hw⟩ := mapM_ints he hc L cs ys hys
    obtain ⟨a, ea, rfl, wa⟩ := DataW.trod_int he hy
    rw [hc, Nat.mul_one] at ea
    refine ⟨a :: zs, rfl, ?_, ?_⟩
    · rw [List.map_cons, List.map_cons, hl, ea]
    · intro z hz
      rcases List.mem_cons.1 hz with rfl | hz
      · exact wa
      · exact hw z hz

theorem chunks_ones {α : Type} : ∀ (cs : List α), (List.range cs.length).map (fun i => (cs.drop i).take 1) = cs.map fun c => [c] := by
  intro cs
  apply List.ext_getElem?
  intro i
  by_cases h : i < cs.length
  · simp [h, List.take_one, List.head?_drop]
  · simp [h]

/-- What reads as an array of these integers is one. -/
theorem cells_of_ints {t e : TypeId} {n : Nat} {k : IntKind} (hu : P.underlying t = some (.array n e)) (he : P.underlying e = some (.int k)) (hc : P.cellsOf e = 1) (hn : P.cellsOf t = n) {fuel : Nat} {cs : List Value} {d : DataW H} {p : List MemPlace}
    (h : DataW.trod enc P w base sp held fuel t cs = some (d, p)) : ∃ zs : List Int, zs.length = n ∧ cs = zs.map (Value.int k) ∧ d = .agg (zs.map fun z => .lit (.int k z)) ∧ p = [] ∧ ∀ z ∈ zs, (Lit.int k z).wf = true := by
  cases fuel with
  | zero => simp [DataW.trod] at h
  | succ m =>
    rw [DataW.trod_step] at h
    unfold DataW.trodStep at h
    simp only [hu] at h
    split at h
    · rename_i hl
      rw [hn] at hl
      simp only [Option.map_eq_some_iff] at h
      obtain ⟨ys, hy, e1⟩ := h
      obtain ⟨zs, rfl, hz, hw⟩ := mapM_ints he hc _ cs ys hy
      rw [← hl, chunks_ones] at hz
      have hcs : cs = zs.map (Value.int k) := by
        have hf := congrArg List.flatten hz
        have e1 : ∀ l : List Value, (l.map fun c => [c]).flatten = l := fun l => by induction l with | nil => rfl | cons a r ih => simp [ih]
        have e2 : ∀ l : List Int, (l.map fun z => [Value.int k z]).flatten = l.map (Value.int k) := fun l => by induction l with | nil => rfl | cons a r ih => simp [ih]
        rw [e1, e2] at hf
        exact hf
      simp only [Prod.mk.injEq] at e1
      refine ⟨zs, by rw [← hl, hcs]; simp, hcs, by rw [← e1.1]; simp [Function.comp_def], by rw [← e1.2]; simp [List.flatMap_eq_nil_iff], hw⟩
    · cases h

/-- An array of integers that came in. -/
theorem open_array {t e : TypeId} {n : Nat} {k : IntKind} {r : Reach} {b0 : Nat} {v : Value} {d : DataW H} {p : List MemPlace} (hu : P.underlying t = some (.array n e)) (he : P.underlying e = some (.int k)) (hc : P.cellsOf e = 1) (hn : P.cellsOf t = n)
    (hval : Value.okWide P w r b0 t v) (h : DataW.Trod enc P w base sp held t v d p) : ∃ zs : List Int, zs.length = n ∧ v = intsVal k zs ∧ d = .agg (zs.map fun z => .lit (.int k z)) ∧ p = [] ∧ ∀ z ∈ zs, (Lit.int k z).wf = true := by
  simp only [Value.okWide, hu] at hval
  obtain ⟨cs, rfl, _, _⟩ := hval
  obtain ⟨fuel, hf⟩ := h
  obtain ⟨zs, h1, h2, h3, h4, h5⟩ := cells_of_ints hu he hc hn hf
  refine ⟨zs, h1, ?_, h3, h4, h5⟩
  unfold intsVal
  congr 1
  rw [← h2]
  simp [Value.cells]

/-- A slice's cells are these bytes. -/
def Bytes (w : World) (pp : Option Addr) (zs : List Nat) : Prop := ∀ (i z : Nat), zs[i]? = some z → z < 256 ∧ ∃ b off, pp = some ⟨b, off, none⟩ ∧ w.cell? ⟨b, off + i, none⟩ = some (.int .u8 (z : Int))

theorem Bytes.grown {w w' : World} {pp : Option Addr} {zs : List Nat} (h : Bytes w pp zs) (hb : Below w.heap.size w w') : Bytes w' pp zs := fun i z hz => by
  obtain ⟨h1, b, off, h2, h3⟩ := h i z hz
  exact ⟨h1, b, off, h2, (hb.cell (p := ⟨b, off + i, none⟩) (World.block_lt_of_cell? w _ h3)).trans h3⟩

theorem wf_u8 {z : Int} (h : (Lit.int .u8 z).wf = true) : 0 ≤ z ∧ z < 256 := by
  simp [Lit.wf, IntKind.min, IntKind.max, IntKind.signed, IntKind.bits] at h
  omega

theorem wf_u32 {z : Int} (h : (Lit.int .u32 z).wf = true) : 0 ≤ z ∧ z < 4294967296 := by
  simp [Lit.wf, IntKind.min, IntKind.max, IntKind.signed, IntKind.bits] at h
  omega
theorem wf_i64 {z : Int} (h : (Lit.int .i64 z).wf = true) : -9223372036854775808 ≤ z ∧ z ≤ 9223372036854775807 := by
  simp [Lit.wf, IntKind.min, IntKind.max, IntKind.signed, IntKind.bits] at h
  omega

/-- A slice of bytes that came in. -/
theorem open_bytes {t e : TypeId} {r : Reach} {b0 : Nat} {v : Value} {d : DataW H} {p : List MemPlace} (ht : P.underlying t = some (.slice e)) (he : P.underlying e = some (.int .u8)) (hc : P.cellsOf e = 1)
    (hval : Value.okWide P w r b0 t v) (h : DataW.Trod enc P w base (fun _ => true) held t v d p) : ∃ (zs : List Nat) (pp : Option Addr) (cap : Nat), v = .slice pp zs.length cap ∧ zs.length ≤ cap ∧ cap ≤ maxLen ∧ Bytes w pp zs := by
  obtain ⟨a0, len, cap, rfl⟩ := okWide_slice ht hval
  obtain ⟨fuel, hf⟩ := h
  rcases open_ints ht he hc hf with ⟨hcs, _⟩ | ⟨a, len', cap', zs, hcs, _, hl, hm, hz, _, hcell, hwz⟩
  · simp [Value.cells] at hcs
    obtain ⟨rfl, rfl, rfl⟩ := hcs
    exact ⟨[], none, 0, rfl, by simp, by unfold maxLen; omega, fun i z hz => by simp at hz⟩
  · simp [Value.cells] at hcs
    obtain ⟨rfl, rfl, rfl⟩ := hcs
    simp only [if_true] at hz
    by_cases hl0 : len = 0
    · subst hl0
      exact ⟨[], some a, cap, rfl, by simp, hm, fun i z hz => by simp at hz⟩
    · obtain ⟨b, off, spot⟩ := a
      have hspot : spot = none := by simpa [Addr.add] using World.cell?_spot (hcell 0 (by omega))
      subst hspot
      have hlen : ((zs.take len).map Int.toNat).length = len := by simp; omega
      refine ⟨(zs.take len).map Int.toNat, some ⟨b, off, none⟩, cap, by rw [hlen], by rw [hlen]; exact hl, hm, fun i z hz2 => ?_⟩
      have hi : i < len := by rw [← hlen]; exact (List.getElem?_eq_some_iff.1 hz2).1
      have hzi : zs[i]? = some (zs.getD i 0) := by simp [List.getD, show i < zs.length by omega]
      have hw := wf_u8 (hwz (zs.getD i 0) (List.mem_of_getElem? hzi))
      have hzz : z = (zs.getD i 0).toNat := by
        rw [List.getElem?_map, List.getElem?_take, if_pos hi, hzi] at hz2
        exact (Option.some.inj hz2).symm
      have hc2 := hcell i (by omega)
      rw [add_plain] at hc2
      refine ⟨by omega, b, off, rfl, ?_⟩
      rw [hc2, hzz, Int.toNat_of_nonneg hw.1]
end
end Go.Proofs.YtajkldmpllphjaaDoor
namespace Go.Proofs.YtajkldmpllphjaaDoor
open Go.ChangeShapes Go.WideShapes Go.RowKit

theorem ownNone : ownKnob Tryd.prog.godebug = none := by kernel_rfl
theorem lowNum : Tryd.prog.globalNamed "sojourn/crc.low" = some 1 := by kernel_rfl
theorem highNum : Tryd.prog.globalNamed "sojourn/crc.high" = some 2 := by kernel_rfl
theorem lowType : (Tryd.prog.globals[1]?).map (·.type) = some 141 := by kernel_rfl
theorem highType : (Tryd.prog.globals[2]?).map (·.type) = some 141 := by kernel_rfl

/-- What the rows list. -/
def laidList : List (String × DataW Unit) := [("sojourn/crc.low", Rows.laid_sojourn_crc_low), ("sojourn/crc.high", Rows.laid_sojourn_crc_high)]

def natLits (l : List Nat) : List (DataW Unit) := (l.map fun (n : Nat) => (n : Int)).map fun z => .lit (.int .u32 z)
theorem low_lits : Rows.laid_sojourn_crc_low (H := Unit) = .agg (natLits lowT) := rfl
theorem high_lits : Rows.laid_sojourn_crc_high (H := Unit) = .agg (natLits highT) := rfl

theorem cells_of_table {W : World} {fuel : Nat} {cs : Array Value} {l : List Nat} {p : List MemPlace} (hl : l.length = 16) (h : DataW.trod (fun _ => ()) Tryd.prog W 0 (fun _ => true) false fuel 141 cs.toList = some (.agg (natLits l), p)) :
    ∀ i, i < 16 → cs[i]? = some (.int .u32 (l.getD i 0 : Nat)) := by
  obtain ⟨zs, _, hcs, hd, _, _⟩ := cells_of_ints Tryd.underlying141 Tryd.underlying138 (by kernel_rfl) (by kernel_rfl) h
  have hinj : Function.Injective (fun z : Int => (DataW.lit (.int .u32 z) : DataW Unit)) := fun a b hab => by simpa using hab
  have hz : l.map (fun (n : Nat) => (n : Int)) = zs := by
    have h1 := DataW.agg.inj hd
    exact (List.map_inj_right (fun a b hab => hinj hab)).1 h1
  intro i hi
  have e : cs[i]? = cs.toList[i]? := by simp
  rw [e, hcs, ← hz]
  simp [List.getD, show i < l.length by omega]

/-- What the condition gives a walk. -/
theorem tables_of_laid {W : World} (h : laidMetH Tryd.prog laidList W) : Tables W := by
  have h' : laidMet Tryd.prog laidList W := h
  obtain ⟨ps, ⟨g, t, cs, fuel, p, q, hg, ht, hvar, hd, ⟨g2, t2, cs2, fuel2, p2, q2, hg2, ht2, hvar2, hd2, _, _⟩, _⟩, _⟩ := h'
  obtain rfl := Option.some.inj (lowNum.symm.trans hg)
  obtain rfl := Option.some.inj (lowType.symm.trans ht)
  obtain rfl := Option.some.inj (highNum.symm.trans hg2)
  obtain rfl := Option.some.inj (highType.symm.trans ht2)
  rw [low_lits] at hd
  rw [high_lits] at hd2
  exact ⟨fun i hi => (World.var?_cell hg hvar i).trans (cells_of_table rfl hd i hi), fun i hi => (World.var?_cell hg2 hvar2 i).trans (cells_of_table rfl hd2 i hi)⟩

/-- A world that meets the condition: the settled one, the two variables' cells laid. -/
noncomputable def laidWorld (os : Os) : World :=
  let w0 := World.holding Tryd.prog os ⟨#[], #[], []⟩
  { w0 with heap := (w0.heap.modify 1 fun
      | .cells _ t frozen => .cells ((lowT.map fun (n : Nat) => Value.int .u32 (n : Int)).toArray) t frozen
      | o => o).modify 2 fun
      | .cells _ t frozen => .cells ((highT.map fun (n : Nat) => Value.int .u32 (n : Int)).toArray) t frozen
      | o => o }
theorem laidWorld_met (os : Os) (args : Array Value) : laidMetH Tryd.prog laidList ((laidWorld os).forCall (fun _ _ => 0) ⟨#[], args, []⟩).memory :=
  show laidMet Tryd.prog laidList _ from laidMet_of_run' 8 (by kernel_rfl) (by kernel_rfl)
end Go.Proofs.YtajkldmpllphjaaDoor
namespace Go.Proofs.YtajkldmpllphjaaDoor
open Go.RowKit Go.ChangeShapes Go.WideShapes

theorem trodAll_stays {H : Type} {enc : TypeId × Value → H} {P : Program} (hl : laidOutB P = true) {W W' : World} (hb : Below W.heap.size W W') : ∀ (ts : List TypeId) (vs : List Value) (ds : List (DataW H)) (ps : List MemPlace),
    (ts.all fun t => P.readableRec t && decide (t < P.types.size)) = true → DataW.TrodAll enc P W 0 (fun _ => true) true ts vs ds ps → (∀ x ∈ ps, x.block < W.heap.size) → DataW.TrodAll enc P W' 0 (fun b => decide (b < W.heap.size)) true ts vs ds ps
  | [], [], [], _, _, h, _ => h
  | t :: ts, v :: vs, d :: ds, ps, ht, h, hlt => by
    obtain ⟨p, q, h1, h2, rfl⟩ := h
    simp only [List.all_cons, Bool.and_eq_true, decide_eq_true_eq] at ht
    exact ⟨p, q, Below.trod hl ht.1.1 ht.1.2 h1 hb (fun x hx => hlt x (List.mem_append_left _ hx)), trodAll_stays hl hb ts vs ds q ht.2 h2 (fun x hx => hlt x (List.mem_append_right _ hx)), rfl⟩
  | [], [], _ :: _, _, _, h, _ => h.elim
  | [], _ :: _, _, _, _, h, _ => by cases h
  | _ :: _, [], _, _, _, h, _ => by cases h
  | _ :: _, _ :: _, [], _, _, h, _ => by cases h

theorem no_stand_in {P : Program} (ps : Array TypeId) (h : (ps.toList.all fun t => !P.wantsStandIn t) = true) (j : Nat) (t : TypeId) (ht : ps[j]? = some t) : P.wantsStandIn t = false := by
  have hm : t ∈ ps.toList := by
    rw [← Array.getElem?_toList] at ht
    exact List.mem_of_getElem? ht
  simpa using List.all_eq_true.1 h t hm

theorem law_lifted {C : Checked} {f : FuncId} {fn : Func} {s : ChangeSpec} {L : List (String × DataW Unit)} {tb : TypeId} {os : Os} {H : Type} {enc : TypeId × Value → H}
    (hX : ∀ w w' : World, w.heap = w'.heap → laidMetH C.prog L w → laidMetH C.prog L w')
    (own : ownKnob C.prog.godebug = none) (started : os.Started) (noInit : C.prog.inits.idxOf? f = none) (hfn : C.prog.funcs[f]? = some fn) (hvars : s.vars = []) (hlaid : laidOutB C.prog = true)
    (hread : (fn.params.toList.all fun t => C.prog.readableRec t && decide (t < C.prog.types.size)) = true) (hres : fn.resultTypes = #[tb]) (htb : C.prog.underlying tb = some .bool)
    (witness : ∃ (w : World) (tape : Tape) (i : Input), w.os = os ∧ (w.forCall tape i).Shaped C.prog ∧ i.vars = [] ∧ Input.okWide C.prog (w.forCall tape i) .any w.heap.size f i ∧
      ((s.pre enc C.prog fn [] false (w.forCall tape i).memory i.args ∧ laidMetH C.prog L (w.forCall tape i).memory) ∧ sizedMet enc C.prog fn (OpenSpec.ofChange s) false (w.forCall tape i).memory i.args) ∧ ({} : Assume).holds C.prog (lone (Frame.enter C.prog f i.args .normal) [] (w.forCall tape i)))
    (hspec : ∀ ds : List (DataW H), ds.length = fn.params.size → s.fn H (ds ++ []) = { results := [.lit (.bool true)], args := ds })
    (contract : ∀ (W : World) (base : Nat) (args : Array Value) (ds : List (DataW H)) (p : List MemPlace), (∀ (j : Nat) t v, fn.params[j]? = some t → args[j]? = some v → Value.okWide C.prog W .any base t v) →
      DataW.TrodAll enc C.prog W 0 (fun _ => true) true fn.params.toList args.toList ds p → laidMetH C.prog L W → Calls C.prog f args W fun e W' => e = .returned (.bool true) ∧ Below W.heap.size W W') :
    ReturnsInHanded {} C os f .any (fun w args => (s.pre enc C.prog fn [] false w args ∧ laidMetH C.prog L w) ∧ sizedMet enc C.prog fn (OpenSpec.ofChange s) false w args)
      (s.post enc C.prog fn false true false false) := by
  refine returnsInHanded_of_change_and (C := C) (X := fun w _ => laidMetH C.prog L w) (fun w w' _ hh h => hX w w' hh h) own started noInit hfn witness ?_
  intro W base args ds gs before hval hW _ _ hL _
  have hW' := hW
  obtain ⟨p, q, hA, hV, rfl, hfz, hnd⟩ := hW
  rw [hvars] at hV
  obtain ⟨rfl, rfl⟩ := trodVars_none hV
  have hlen : ds.length = fn.params.size := by
    have : ∀ (ts : List TypeId) (vs : List Value) (ds : List (DataW H)) (ps : List MemPlace), DataW.TrodAll enc C.prog W 0 (fun _ => true) true ts vs ds ps → ds.length = ts.length := by
      intro ts
      induction ts with
      | nil => intro vs ds ps h; cases vs <;> cases ds <;> first | rfl | cases h
      | cons t ts ih =>
        intro vs ds ps h
        cases vs with
        | nil => cases ds <;> cases h
        | cons v vs =>
          cases ds with
          | nil => cases h
          | cons d ds =>
            obtain ⟨_, _, _, h2, _⟩ := h
            simp [ih _ _ _ h2]
    simpa using this _ _ _ _ hA
  refine (contract W base args ds p hval hA hL).mono fun e W' ⟨he, hb⟩ => ?_
  subst he
  have hlt : ∀ x ∈ p, x.block < W.heap.size := fun x hx => hW'.lt x (List.mem_append_left _ hx)
  refine ⟨_, rfl, _, _, _, [], p, [], hW', ?_, ?_, ?_, hb.frame _, fun h => by cases h⟩
  · rw [hspec ds hlen, hres]; exact trodAll_mk1 (shut_bool htb true)
  · rw [hspec ds hlen]; exact trodAll_stays hlaid hb _ _ _ _ hread hA hlt
  · rw [hspec ds hlen, hvars]; rfl

/-- .. of a row that lists no variable. -/
theorem law_lifted_plain {C : Checked} {f : FuncId} {fn : Func} {s : ChangeSpec} {tb : TypeId} {os : Os} {H : Type} {enc : TypeId × Value → H}
    (own : ownKnob C.prog.godebug = none) (started : os.Started) (noInit : C.prog.inits.idxOf? f = none) (hfn : C.prog.funcs[f]? = some fn) (hvars : s.vars = []) (hlaid : laidOutB C.prog = true)
    (hread : (fn.params.toList.all fun t => C.prog.readableRec t && decide (t < C.prog.types.size)) = true) (hres : fn.resultTypes = #[tb]) (htb : C.prog.underlying tb = some .bool)
    (witness : ∃ (w : World) (tape : Tape) (i : Input), w.os = os ∧ (w.forCall tape i).Shaped C.prog ∧ i.vars = [] ∧ Input.okWide C.prog (w.forCall tape i) .any w.heap.size f i ∧
      ((s.pre enc C.prog fn [] false (w.forCall tape i).memory i.args ∧ laidMetH C.prog [] (w.forCall tape i).memory) ∧ sizedMet enc C.prog fn (OpenSpec.ofChange s) false (w.forCall tape i).memory i.args) ∧ ({} : Assume).holds C.prog (lone (Frame.enter C.prog f i.args .normal) [] (w.forCall tape i)))
    (hspec : ∀ ds : List (DataW H), ds.length = fn.params.size → s.fn H (ds ++ []) = { results := [.lit (.bool true)], args := ds })
    (contract : ∀ (W : World) (base : Nat) (args : Array Value) (ds : List (DataW H)) (p : List MemPlace), (∀ (j : Nat) t v, fn.params[j]? = some t → args[j]? = some v → Value.okWide C.prog W .any base t v) →
      DataW.TrodAll enc C.prog W 0 (fun _ => true) true fn.params.toList args.toList ds p → Calls C.prog f args W fun e W' => e = .returned (.bool true) ∧ Below W.heap.size W W') :
    ReturnsInHanded {} C os f .any (fun w args => s.pre enc C.prog fn [] false w args ∧ sizedMet enc C.prog fn (OpenSpec.ofChange s) false w args)
      (s.post enc C.prog fn false true false false) := by
  have h := law_lifted (L := []) (fun _ _ hh h => h.of_heap hh) own started noInit hfn hvars hlaid hread hres htb witness hspec (fun W base args ds p h1 h2 _ => contract W base args ds p h1 h2)
  have e : (fun (w : World) (args : Array Value) => (s.pre enc C.prog fn [] false w args ∧ laidMetH C.prog [] w) ∧ sizedMet enc C.prog fn (OpenSpec.ofChange s) false w args) = fun w args => s.pre enc C.prog fn [] false w args ∧ sizedMet enc C.prog fn (OpenSpec.ofChange s) false w args := by
    funext w a
    have : laidMetH C.prog [] w = True := eq_true (laidMet_nil _ _)
    rw [this, and_true]
  rw [e] at h
  exact h
end Go.Proofs.YtajkldmpllphjaaDoor
namespace Go.Proofs.YtajkldmpllphjaaDoor
abbrev I64 (n : Int) : Prop := -9223372036854775808 ≤ n ∧ n ≤ 9223372036854775807
end Go.Proofs.YtajkldmpllphjaaDoor
namespace Go.Proofs.YtajkldmpllphjaaDoor
open Go.RowKit

theorem cell_lt {w : World} {b o : Nat} {v : Value} (h : w.cell? ⟨b, o, none⟩ = some v) : b < w.heap.size := by
  rcases Nat.lt_or_ge b w.heap.size with g | g
  · exact g
  · simp [World.cell?, Array.getElem?_eq_none g] at h

/-- But for block 'pb' the world w' is as w was, as far as w went. -/
structure But (pb : Nat) (w w' : World) : Prop where
  os : w'.os = w.os
  tape : w'.tape = w.tape
  output : w'.output = w.output
  size : w.heap.size ≤ w'.heap.size
  block : ∀ k, k < w.heap.size → k ≠ pb → w'.heap[k]? = w.heap[k]?

theorem But.refl (pb : Nat) (w : World) : But pb w w := ⟨rfl, rfl, rfl, Nat.le_refl _, fun _ _ _ => rfl⟩

theorem But.trans {pb : Nat} {a b c : World} (h : But pb a b) (k : But pb b c) : But pb a c :=
  ⟨k.os.trans h.os, k.tape.trans h.tape, k.output.trans h.output, Nat.le_trans h.size k.size, fun i hi hn => (k.block i (by have := h.size; omega) hn).trans (h.block i hi hn)⟩

theorem But.of {pb : Nat} {w w' : World} (h : Below w.heap.size w w') : But pb w w' := ⟨h.os, h.tape, h.output, h.size, fun k hk _ => h.block k hk⟩

theorem But.set (pb o : Nat) (w : World) (v : Value) : But pb w (w.setCell ⟨pb, o, none⟩ v) :=
  ⟨rfl, rfl, rfl, by simp [World.setCell], fun k _ hn => Below.heap_setCell _ _ _ _ hn⟩

theorem But.below {pb : Nat} {w w' : World} (h : But pb w w') (hp : pb ≤ w.heap.size) : Below pb w w' :=
  ⟨h.os, h.tape, h.output, h.size, fun k hk => h.block k (by omega) (by omega)⟩

theorem But.cell {pb : Nat} {w w' : World} (h : But pb w w') {k o : Nat} (hk : k < w.heap.size) (hn : k ≠ pb) : w'.cell? ⟨k, o, none⟩ = w.cell? ⟨k, o, none⟩ :=
  World.cell?_of_block (w := w) (a := ⟨k, o, none⟩) (h.block k hk hn)

theorem But.alloc {pb : Nat} {w w' : World} (h : But pb w w') (o : Obj) : But pb w (w'.alloc o) :=
  h.trans ⟨rfl, rfl, rfl, by simp, fun k hk _ => Below.heap_alloc _ _ _ hk⟩
theorem But.drew {pb : Nat} {w w' : World} (h : But pb w w') : But pb w w'.drew := ⟨h.os, h.tape, h.output, h.size, h.block⟩
theorem But.drewN {pb : Nat} {w w' : World} (n : Nat) (h : But pb w w') : But pb w (w'.drewN n) := ⟨h.os, h.tape, h.output, h.size, h.block⟩
theorem But.frozen {pb : Nat} {w w' : World} (h : But pb w w') {k o : Nat} (hk : k < w.heap.size) (hn : k ≠ pb) : w'.frozen? ⟨k, o, none⟩ = w.frozen? ⟨k, o, none⟩ :=
  World.frozen?_of_block (w := w) (a := ⟨k, o, none⟩) (h.block k hk hn)
end Go.Proofs.YtajkldmpllphjaaDoor
namespace Go.Proofs.YtajkldmpllphjaaDoor
open Go.RowKit

/-- The world is as before but for these blocks, and what is new. -/
structure Apart (S : Nat → Prop) (w w' : World) : Prop where
  os : w'.os = w.os
  tape : w'.tape = w.tape
  output : w'.output = w.output
  size : w.heap.size ≤ w'.heap.size
  block : ∀ k, k < w.heap.size → ¬ S k → w'.heap[k]? = w.heap[k]?
theorem Apart.of {S : Nat → Prop} {w w' : World} (h : Below w.heap.size w w') : Apart S w w' := ⟨h.os, h.tape, h.output, h.size, fun k hk _ => h.block k hk⟩
theorem Apart.refl (S : Nat → Prop) (w : World) : Apart S w w := .of (Below.refl _ w)
theorem Apart.run {S S1 : Nat → Prop} {a b c : World} (h : Apart S a b) (k : Apart S1 b c) (hi : ∀ k, S1 k → S k ∨ a.heap.size ≤ k) : Apart S a c :=
  ⟨k.os.trans h.os, k.tape.trans h.tape, k.output.trans h.output, Nat.le_trans h.size k.size, fun i hl hn => (k.block i (Nat.lt_of_lt_of_le hl h.size) fun hs => (hi i hs).elim hn fun h => absurd hl (Nat.not_lt.2 h)).trans (h.block i hl hn)⟩
theorem Apart.under {S : Nat → Prop} {B : Nat} {w w' : World} (h : Apart S w w') (hS : ∀ k, S k → B ≤ k) (hB : B ≤ w.heap.size) : Below B w w' :=
  ⟨h.os, h.tape, h.output, h.size, fun k hk => h.block k (Nat.lt_of_lt_of_le hk hB) fun hs => absurd hk (Nat.not_lt.2 (hS k hs))⟩
end Go.Proofs.YtajkldmpllphjaaDoor
namespace TextNat
/-- A text's bytes. -/
def nats (s : ByteArray) : List Nat := s.data.toList.map UInt8.toNat
/-- The text of these bytes. -/
def txt (l : List Nat) : ByteArray := ⟨(l.map UInt8.ofNat).toArray⟩
theorem nats_len (s : ByteArray) : (nats s).length = s.size := by rw [nats, List.length_map]; exact Array.length_toList
theorem nats_lt (s : ByteArray) : ∀ b ∈ nats s, b < 256 := by
  intro b hb
  obtain ⟨x, _, rfl⟩ := List.mem_map.1 hb
  exact UInt8.toNat_lt x
theorem txt_len (l : List Nat) : (txt l).size = l.length := by simp [txt, ByteArray.size]
theorem txt_nats (s : ByteArray) : txt (nats s) = s := by
  obtain ⟨a⟩ := s
  simp only [txt, nats, List.map_map]
  congr 1
  have : (UInt8.ofNat ∘ UInt8.toNat) = id := by funext x; simp
  rw [this, List.map_id]
theorem nats_txt (l : List Nat) (h : ∀ b ∈ l, b < 256) : nats (txt l) = l := by
  simp only [txt, nats, List.map_map]
  have : ∀ l : List Nat, (∀ b ∈ l, b < 256) → l.map (UInt8.toNat ∘ UInt8.ofNat) = l := by
    intro l
    induction l with
    | nil => intro _; rfl
    | cons a r ih =>
      intro h
      have ha := h a (by simp)
      rw [List.map_cons, ih (fun b hb => h b (by simp [hb]))]
      congr 1
      show (UInt8.ofNat a).toNat = a
      rw [UInt8.toNat_ofNat']
      omega
  exact this l h
theorem nats_inj {s t : ByteArray} (h : nats s = nats t) : s = t := by rw [← txt_nats s, ← txt_nats t, h]
theorem nats_append (s t : ByteArray) : nats (s ++ t) = nats s ++ nats t := by
  have e : (s ++ t).data = s.data ++ t.data := by simp
  simp [nats, e]
theorem txt_append (a b : List Nat) : txt a ++ txt b = txt (a ++ b) := by
  have e : (txt a ++ txt b).data = (txt a).data ++ (txt b).data := by simp
  have h : ∀ x y : ByteArray, x.data = y.data → x = y := fun x y h => by cases x; cases y; simpa using h
  apply h
  rw [e]
  simp [txt]
theorem nats_at (s : ByteArray) (i : Nat) (h : i < s.size) : (nats s)[i]? = some (s[i].toNat) := by
  rw [nats, List.getElem?_map]
  have e : s.data.toList[i]? = some s[i] := by
    rw [Array.getElem?_toList]
    exact Array.getElem?_eq_getElem h
  rw [e]
  rfl
end TextNat
namespace BlockMath
open TextNat
theorem ba_ext {x y : ByteArray} (h : x.data = y.data) : x = y := by cases x; cases y; simpa using h
/-- A device: what is safe, what lies behind that, the room, the fuse (below 0: none), the power. -/
structure Dk where
  done : ByteArray
  late : ByteArray
  room : Int
  fuse : Int
  off : Bool
def all (d : Dk) : ByteArray := d.done ++ d.late
theorem all_size (d : Dk) : (all d).size = d.done.size + d.late.size := by unfold all; rw [ByteArray.size_append]
/-- How many bytes an error's place names. -/
def size (d : Dk) : Int := if d.off then 0 else ((all d).size : Int)
/-- Is an operation done? -/
def doesB (d : Dk) : Bool := !d.off && !decide (d.fuse = 0)
def doesD (d : Dk) : Dk := if d.off then d else if d.fuse = 0 then { d with off := true } else if 0 < d.fuse then { d with fuse := d.fuse - 1 } else d
def append (s : ByteArray) (d : Dk) : Int × Dk :=
  if d.off = false ∧ d.room - ((all d).size : Int) < (s.size : Int) then (4, d)
  else if doesB d then (0, { doesD d with late := (doesD d).late ++ s }) else (5, doesD d)
def sync (d : Dk) : Int × Dk := if doesB d then (0, { doesD d with done := all (doesD d), late := ByteArray.empty }) else (5, doesD d)
def cutD (n : Nat) (d : Dk) : Dk :=
  if n ≤ d.done.size then { d with done := d.done.extract 0 n, late := ByteArray.empty } else { d with late := d.late.extract 0 (n - d.done.size) }
def cut (n : Int) (d : Dk) : Int × Dk :=
  if d.off = false ∧ (n < 0 ∨ ((all d).size : Int) < n) then (1, d)
  else if doesB d then (0, cutD n.toNat (doesD d)) else (5, doesD d)
def read (a b : Int) (d : Dk) : ByteArray × Int :=
  if d.off then (ByteArray.empty, 5) else if a < 0 ∨ b < a ∨ ((all d).size : Int) < b then (ByteArray.empty, 1) else ((all d).extract a.toNat b.toNat, 0)
def room (n : Int) (d : Dk) : Int × Dk := if n < 0 ∨ 1048576 < n then (1, d) else (0, { d with room := n })
def fuse (n : Int) (d : Dk) : Dk := { d with fuse := max n (-1) }
/-- How many stay. -/
def stays (kept : Int) (d : Dk) : Nat := (kept % ((d.late.size : Int) + 1)).toNat
/-- What a byte that stays is. -/
def left (mask : ByteArray) (i : Nat) (c : Nat) : Nat := if mask.size = 0 then c else if (nats mask)[i % mask.size]?.getD 0 % 2 = 0 then 0 else c
def kept (l mask : ByteArray) (n : Nat) : List Nat := (((nats l).take n).zipIdx).map fun x => left mask x.2 x.1
def crash (k : Int) (mask : ByteArray) (d : Dk) : Dk := { done := d.done ++ txt (kept d.late mask (stays k d)), late := ByteArray.empty, room := d.room, fuse := -1, off := false }
def rotB (at_ : Int) (b : Nat) (d : Dk) : Bool := !d.off && decide (0 ≤ at_) && decide (at_ < (d.done.size : Int)) && !decide (b = 0)
def rotD (at_ : Int) (b : Nat) (d : Dk) : Dk :=
  if rotB at_ b d then { d with done := d.done.extract 0 at_.toNat ++ txt [(((nats d.done)[at_.toNat]?.getD 0) ^^^ b) % 256] ++ d.done.extract (at_.toNat + 1) d.done.size } else d
/-- What can be of a device. -/
structure Ok (d : Dk) : Prop where
  all : d.done.size + d.late.size ≤ 1048576
  room0 : 0 ≤ d.room
  room1 : d.room ≤ 1048576
  fuse0 : -1 ≤ d.fuse
  fuse1 : d.fuse ≤ 9223372036854775807
def new (r : Int) : Dk := ⟨ByteArray.empty, ByteArray.empty, r, -1, false⟩
theorem Ok.new {r : Int} (h0 : 0 ≤ r) (h1 : r ≤ 1048576) : Ok (new r) := ⟨by show (0 : Nat) + 0 ≤ _; omega, h0, h1, by show (-1 : Int) ≤ -1; omega, by show (-1 : Int) ≤ _; omega⟩
theorem Ok.does {d : Dk} (h : Ok d) : Ok (doesD d) := by
  unfold doesD
  split
  · exact h
  · split
    · exact ⟨h.all, h.room0, h.room1, h.fuse0, h.fuse1⟩
    · split
      · exact ⟨h.all, h.room0, h.room1, by show -1 ≤ d.fuse - 1; omega, by show d.fuse - 1 ≤ _; have := h.fuse1; omega⟩
      · exact h
theorem doesD_done (d : Dk) : (doesD d).done = d.done := by unfold doesD; split <;> (try rfl); split <;> (try rfl); split <;> rfl
theorem doesD_late (d : Dk) : (doesD d).late = d.late := by unfold doesD; split <;> (try rfl); split <;> (try rfl); split <;> rfl
theorem doesD_room (d : Dk) : (doesD d).room = d.room := by unfold doesD; split <;> (try rfl); split <;> (try rfl); split <;> rfl
theorem Ok.append {d : Dk} (h : Ok d) (s : ByteArray) : Ok (append s d).2 := by
  unfold BlockMath.append
  split
  · exact h
  · rename_i hn
    split
    · rename_i hd
      refine ⟨?_, h.does.room0, h.does.room1, h.does.fuse0, h.does.fuse1⟩
      have ho : d.off = false := by unfold doesB at hd; cases e : d.off with | false => rfl | true => rw [e] at hd; simp at hd
      have h1 : ¬ (d.room - ((BlockMath.all d).size : Int) < (s.size : Int)) := fun k => hn ⟨ho, k⟩
      rw [all_size] at h1
      show (doesD d).done.size + ((doesD d).late ++ s).size ≤ _
      rw [ByteArray.size_append, doesD_done, doesD_late]
      have := h.room1
      omega
    · exact h.does
theorem Ok.sync {d : Dk} (h : Ok d) : Ok (sync d).2 := by
  unfold BlockMath.sync
  split
  · refine ⟨?_, h.does.room0, h.does.room1, h.does.fuse0, h.does.fuse1⟩
    show (BlockMath.all (doesD d)).size + 0 ≤ _
    rw [all_size]
    exact h.does.all
  · exact h.does
theorem Ok.cutD {d : Dk} (h : Ok d) (n : Nat) : Ok (cutD n d) := by
  unfold BlockMath.cutD
  have := h.all
  split
  · refine ⟨?_, h.room0, h.room1, h.fuse0, h.fuse1⟩
    show (d.done.extract 0 n).size + 0 ≤ _
    rw [ByteArray.size_extract]
    omega
  · refine ⟨?_, h.room0, h.room1, h.fuse0, h.fuse1⟩
    show d.done.size + (d.late.extract 0 (n - d.done.size)).size ≤ _
    rw [ByteArray.size_extract]
    omega
theorem Ok.cut {d : Dk} (h : Ok d) (n : Int) : Ok (cut n d).2 := by
  unfold BlockMath.cut
  split
  · exact h
  · split
    · exact h.does.cutD _
    · exact h.does
theorem Ok.room {d : Dk} (h : Ok d) (n : Int) : Ok (room n d).2 := by
  unfold BlockMath.room
  split
  · exact h
  · exact ⟨h.all, by show 0 ≤ n; omega, by show n ≤ _; omega, h.fuse0, h.fuse1⟩
theorem Ok.fuse {d : Dk} (h : Ok d) {n : Int} (hn : n ≤ 9223372036854775807) : Ok (fuse n d) := ⟨h.all, h.room0, h.room1, by show -1 ≤ max n (-1); omega, by show max n (-1) ≤ _; omega⟩
theorem stays_le (k : Int) (d : Dk) : stays k d ≤ d.late.size := by
  unfold stays
  have h1 := Int.emod_lt_of_pos k (show (0 : Int) < (d.late.size : Int) + 1 by omega)
  omega
theorem kept_len (l mask : ByteArray) {n : Nat} (h : n ≤ l.size) : (kept l mask n).length = n := by
  unfold kept
  rw [List.length_map, List.length_zipIdx, List.length_take, nats_len]
  omega
theorem Ok.crash {d : Dk} (h : Ok d) (k : Int) (mask : ByteArray) : Ok (crash k mask d) := by
  refine ⟨?_, h.room0, h.room1, by show (-1 : Int) ≤ -1; omega, by show (-1 : Int) ≤ _; omega⟩
  show (d.done ++ txt _).size + 0 ≤ _
  rw [ByteArray.size_append, txt_len, kept_len _ _ (stays_le k d)]
  have := stays_le k d
  have := h.all
  omega
theorem rotD_size {at_ : Int} {b : Nat} {d : Dk} : (rotD at_ b d).done.size = d.done.size := by
  unfold rotD
  split
  · rename_i hb
    unfold rotB at hb
    have h0 : 0 ≤ at_ := by simp at hb; omega
    have h1 : at_ < d.done.size := by simp at hb; omega
    show (d.done.extract 0 at_.toNat ++ txt _ ++ d.done.extract (at_.toNat + 1) d.done.size).size = _
    rw [ByteArray.size_append, ByteArray.size_append, ByteArray.size_extract, ByteArray.size_extract, txt_len]
    show _ + 1 + _ = _
    omega
  · rfl
theorem Ok.rot {d : Dk} (h : Ok d) (at_ : Int) (b : Nat) : Ok (rotD at_ b d) := by
  have hs := rotD_size (at_ := at_) (b := b) (d := d)
  have hl : (rotD at_ b d).late = d.late ∧ (rotD at_ b d).room = d.room ∧ (rotD at_ b d).fuse = d.fuse := by unfold rotD; split <;> exact ⟨rfl, rfl, rfl⟩
  exact ⟨by rw [hs, hl.1]; exact h.all, by rw [hl.2.1]; exact h.room0, by rw [hl.2.1]; exact h.room1, by rw [hl.2.2]; exact h.fuse0, by rw [hl.2.2]; exact h.fuse1⟩
theorem doesB_on {d : Dk} (ho : d.off = false) (hf : d.fuse = -1) : doesB d = true := by unfold doesB; rw [ho, hf]; rfl
theorem doesD_on {d : Dk} (ho : d.off = false) (hf : d.fuse = -1) : doesD d = d := by unfold doesD; rw [ho, hf]; rfl
theorem append_in {d : Dk} {s : ByteArray} (ho : d.off = false) (hf : d.fuse = -1) (h : ((all d).size : Int) + (s.size : Int) ≤ d.room) : append s d = (0, { d with late := d.late ++ s }) := by
  unfold append
  rw [if_neg (by omega), if_pos (doesB_on ho hf), doesD_on ho hf]
theorem append_full {d : Dk} {s : ByteArray} (ho : d.off = false) (h : d.room < ((all d).size : Int) + (s.size : Int)) : append s d = (4, d) := by
  unfold append
  rw [if_pos ⟨ho, by omega⟩]
theorem sync_in {d : Dk} (ho : d.off = false) (hf : d.fuse = -1) : sync d = (0, { d with done := all d, late := ByteArray.empty }) := by
  unfold sync
  rw [if_pos (doesB_on ho hf), doesD_on ho hf]
theorem size_on {d : Dk} (ho : d.off = false) : size d = ((all d).size : Int) := by unfold size; rw [ho]; rfl
theorem read_on {d : Dk} (ho : d.off = false) : read 0 (size d) d = (all d, 0) := by
  rw [size_on ho]
  unfold read
  rw [if_neg (by rw [ho]; decide), if_neg (by omega)]
  have : (all d).extract (0 : Int).toNat ((all d).size : Int).toNat = all d := by
    show (all d).extract 0 (all d).size = all d
    exact ByteArray.extract_zero_size
  rw [this]
theorem doesB_off {d : Dk} (ho : d.off = true) : doesB d = false := by unfold doesB; rw [ho]; rfl
theorem doesD_off {d : Dk} (ho : d.off = true) : doesD d = d := by unfold doesD; rw [if_pos ho]
theorem append_off {d : Dk} (s : ByteArray) (ho : d.off = true) : append s d = (5, d) := by
  unfold append
  rw [if_neg (by rw [ho]; simp), if_neg (by rw [doesB_off ho]; simp), doesD_off ho]
theorem sync_off {d : Dk} (ho : d.off = true) : sync d = (5, d) := by
  unfold sync
  rw [if_neg (by rw [doesB_off ho]; simp), doesD_off ho]
theorem cut_off {d : Dk} (n : Int) (ho : d.off = true) : cut n d = (5, d) := by
  unfold cut
  rw [if_neg (by rw [ho]; simp), if_neg (by rw [doesB_off ho]; simp), doesD_off ho]
theorem read_off {d : Dk} (n m : Int) (ho : d.off = true) : read n m d = (ByteArray.empty, 5) := by
  unfold read
  rw [if_pos ho]
theorem rotB_off {d : Dk} (n : Int) (c : Nat) (ho : d.off = true) : rotB n c d = false := by unfold rotB; rw [ho]; rfl
theorem rotD_off {d : Dk} (n : Int) (c : Nat) (ho : d.off = true) : rotD n c d = d := by
  unfold rotD
  rw [if_neg (by rw [rotB_off n c ho]; simp)]
theorem ba_nil (s : ByteArray) : ByteArray.empty ++ s = s := by simp
theorem ba_end (s : ByteArray) : s ++ ByteArray.empty = s := by simp
theorem kept_all (l : ByteArray) : kept l ByteArray.empty l.size = nats l := by
  unfold kept
  rw [show l.size = (nats l).length from (nats_len l).symm, List.take_length]
  apply List.ext_getElem?
  intro i
  rw [List.getElem?_map, List.getElem?_zipIdx]
  cases h : (nats l)[i]? with
  | none => simp
  | some c => simp [left]
theorem crash_all (d : Dk) : crash (d.late.size : Int) ByteArray.empty d = { done := all d, late := ByteArray.empty, room := d.room, fuse := -1, off := false } := by
  unfold crash
  have h : stays (d.late.size : Int) d = d.late.size := by
    unfold stays
    rw [Int.emod_eq_of_lt (by omega) (by omega)]
    omega
  rw [h, kept_all, txt_nats]
  rfl
/-- A device with a fuse of n, of which i were asked. -/
def fz (n i : Nat) (L : ByteArray) : Dk := ⟨ByteArray.empty, L, 1048576, (n : Int) - (min i n : Nat), decide (n < i)⟩
theorem fz_start (n : Nat) : fuse (n : Int) (new 1048576) = fz n 0 ByteArray.empty := by
  unfold fuse new fz
  rw [show max (n : Int) (-1) = (n : Int) - ((min 0 n : Nat) : Int) by omega, decide_eq_false (by omega)]
theorem fz_all (n i : Nat) (L : ByteArray) : all (fz n i L) = L := by
  show ByteArray.empty ++ L = L
  rw [ba_nil]
theorem fz_in {n i : Nat} {L s : ByteArray} (hi : i < n) (hl : L.size + s.size ≤ 1048576) : append s (fz n i L) = (0, fz n (i + 1) (L ++ s)) := by
  have ho : (fz n i L).off = false := decide_eq_false (by omega)
  have hf : (fz n i L).fuse = (n : Int) - (i : Int) := by show (n : Int) - ((min i n : Nat) : Int) = _; omega
  unfold append
  rw [if_neg (by rw [fz_all]; show ¬ (_ ∧ (1048576 : Int) - _ < _); omega), if_pos (by unfold doesB; rw [ho, hf, decide_eq_false (by omega)]; rfl)]
  unfold doesD
  rw [if_neg (by rw [ho]; simp), if_neg (by rw [hf]; omega), if_pos (by rw [hf]; omega), hf]
  show (0, (⟨ByteArray.empty, L ++ s, 1048576, (n : Int) - (i : Int) - 1, decide (n < i)⟩ : Dk)) = (0, ⟨ByteArray.empty, L ++ s, 1048576, (n : Int) - ((min (i + 1) n : Nat) : Int), decide (n < i + 1)⟩)
  rw [show (n : Int) - ((min (i + 1) n : Nat) : Int) = (n : Int) - (i : Int) - 1 by omega, decide_eq_false (show ¬ n < i by omega), decide_eq_false (show ¬ n < i + 1 by omega)]
theorem fz_out {n i : Nat} {L s : ByteArray} (hi : n ≤ i) (hl : L.size + s.size ≤ 1048576) : append s (fz n i L) = (5, fz n (i + 1) L) := by
  by_cases h : n < i
  · have ho : (fz n i L).off = true := decide_eq_true h
    rw [append_off s ho]
    unfold fz
    rw [show min (i + 1) n = min i n by omega, decide_eq_true h, decide_eq_true (show n < i + 1 by omega)]
  · obtain rfl : n = i := by omega
    have ho : (fz n n L).off = false := decide_eq_false (by omega)
    have hf : (fz n n L).fuse = 0 := by show (n : Int) - ((min n n : Nat) : Int) = _; omega
    unfold append
    rw [if_neg (by rw [fz_all]; show ¬ (_ ∧ (1048576 : Int) - _ < _); omega), if_neg (by unfold doesB; rw [ho, hf]; simp)]
    unfold doesD
    rw [if_neg (by rw [ho]; simp), if_pos hf]
    show (5, (⟨ByteArray.empty, L, 1048576, (n : Int) - ((min n n : Nat) : Int), true⟩ : Dk)) = (5, ⟨ByteArray.empty, L, 1048576, (n : Int) - ((min (n + 1) n : Nat) : Int), decide (n < n + 1)⟩)
    rw [show min (n + 1) n = min n n by omega, decide_eq_true (show n < n + 1 by omega)]
end BlockMath
namespace Go.Proofs.YtajkldmpllphjaaDoor
open Go.RowKit Go.Extern.Stop Go.Stop Go.Extern

/-- What At makes: a new block of three cells. -/
theorem at_some (s : ByteArray) (n : Int) (T : TypeId) (v : Value) (w : World) :
    Calls Tryd.prog 15 #[.string s, .int .i64 n, .iface T v] w fun e w' => e = .returned (.iface 67 (.pointer (some ⟨w.heap.size, 0, none⟩))) ∧ w' = w.alloc (.cells #[.string s, .int .i64 n, .iface T v] 69) := by
  go_enter Tryd.func15, Tryd.ntmps15
  go_wp2
  go_ret
  exact ⟨rfl, rfl⟩

/-- A wrap: its text and its number. -/
abbrev Wrap := ByteArray × Int

/-- 'v' is the chain of the wraps 'l', the outermost first, around 'last'; all its blocks lie below B. -/
def Chain (B : Nat) (w : World) : List Wrap → Value → Value → Prop
  | [], last, v => v = last
  | x :: l, last, v => ∃ b u, v = .iface 67 (.pointer (some ⟨b, 0, none⟩)) ∧ b < B ∧ w.cell? ⟨b, 0, none⟩ = some (.string x.1) ∧ w.cell? ⟨b, 1, none⟩ = some (.int .i64 x.2) ∧ w.cell? ⟨b, 2, none⟩ = some u ∧ Chain B w l last u

theorem Chain.mono {B B' : Nat} {w w' : World} (hb : Below B w w') (hB : B ≤ B') : ∀ {l : List Wrap} {last v : Value}, Chain B w l last v → Chain B' w' l last v
  | [], _, _, h => h
  | _ :: _, _, _, ⟨b, u, h1, h2, h3, h4, h5, h6⟩ => ⟨b, u, h1, by omega, (hb.cell (p := ⟨b, 0, none⟩) h2).trans h3, (hb.cell (p := ⟨b, 1, none⟩) h2).trans h4, (hb.cell (p := ⟨b, 2, none⟩) h2).trans h5, Chain.mono hb hB h6⟩

/-- A chain around a code is an interface value that isn't nil. -/
theorem Chain.some {B : Nat} {w : World} {l : List Wrap} {c : Int} {v : Value} (h : Chain B w l (.iface 33 (.int .i64 c)) v) : ∃ T x, v = .iface T x := by
  cases l with
  | nil => exact ⟨_, _, h⟩
  | cons x r =>
    obtain ⟨b, u, h1, _⟩ := h
    exact ⟨_, _, h1⟩

/-- A chain that isn't empty is an *Error's pointer; what its cells hold. -/
theorem Chain.place {B : Nat} {w : World} {x : Wrap} {l : List Wrap} {last v : Value} (h : Chain B w (x :: l) last v) : ∃ b, v = .iface 67 (.pointer (Option.some ⟨b, 0, none⟩)) := by
  obtain ⟨b, u, h1, _⟩ := h
  exact ⟨b, h1⟩
theorem Chain.cells {B : Nat} {w : World} {x : Wrap} {l : List Wrap} {last : Value} {b : Nat} (h : Chain B w (x :: l) last (.iface 67 (.pointer (Option.some ⟨b, 0, none⟩)))) : w.cell? ⟨b, 0, none⟩ = Option.some (.string x.1) ∧ w.cell? ⟨b, 1, none⟩ = Option.some (.int .i64 x.2) := by
  obtain ⟨b', u, h1, _, h3, h4, _⟩ := h
  obtain rfl : b = b' := by simpa using h1
  exact ⟨h3, h4⟩
/-- What fail.At makes of a chain. -/
theorem at_chain (s : ByteArray) (n : Int) (l : List Wrap) (c : Int) (v : Value) (w : World) (h : Chain w.heap.size w l (.iface 33 (.int .i64 c)) v) :
    Calls Tryd.prog 15 #[.string s, .int .i64 n, v] w fun e w' => ∃ r, e = .returned r ∧ Chain w'.heap.size w' ((s, n) :: l) (.iface 33 (.int .i64 c)) r ∧ Below w.heap.size w w' := by
  obtain ⟨T, x, rfl⟩ := h.some
  refine (at_some s n T x w).mono ?_
  rintro e w' ⟨rfl, rfl⟩
  have hb : Below w.heap.size w (w.alloc (.cells #[.string s, .int .i64 n, .iface T x] 69)) := (Below.refl _ _).alloc (Nat.le_refl _) _
  exact ⟨_, rfl, ⟨w.heap.size, .iface T x, rfl, by simp, by simp, by simp, by simp, h.mono hb (by simp)⟩, hb⟩
end Go.Proofs.YtajkldmpllphjaaDoor
namespace Go.Proofs.YtajkldmpllphjaaDoor
open Go.RowKit Go.Extern.Stop Go.Stop Go.Extern

theorem unwrap_some (b : Nat) (v : Value) (w : World) (h2 : w.cell? ⟨b, 2, none⟩ = some v) :
    Calls Tryd.prog 101 #[.pointer (some ⟨b, 0, none⟩)] w fun e w' => e = .returned v ∧ w' = w := by
  go_enter Tryd.func101, Tryd.ntmps101
  go_wp2
  go_ret
  exact ⟨rfl, rfl⟩

theorem ta42_73 (v : Value) (w : World) : (Instr.typeAssert (.iface 67 v) 29 76 true).run Tryd.prog w = .ok (.tuple #[.iface 67 v, .bool true]) w :=
  run_typeAssert_hasB Tryd.underlying76 (by kernel_rfl) v 29 w

theorem call25 (args : Array Value) (w : World) : (callFunc 16 args).run Tryd.prog w = ((ReflectliteType.typeOf args).run Tryd.prog w).andThen fun v w' => .ok (.value v) w' :=
  run_callFunc_extern (e := ReflectliteType.typeOf) Tryd.func16 (by kernel_rfl) (by kernel_rfl) (by kernel_rfl) (by kernel_rfl) args w
end Go.Proofs.YtajkldmpllphjaaDoor
