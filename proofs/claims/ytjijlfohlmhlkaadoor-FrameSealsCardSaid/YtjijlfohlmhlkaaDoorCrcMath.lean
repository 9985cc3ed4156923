/-
  Plain mathematics of the sum of chapter 2: one bit's step, one byte's step, the two forms in which programs write it, what two unlike bytes come to, and the division of polynomials that the document's own answer does. No program, no conditions but those typed.
-/
namespace CrcMath

def poly : Nat := 2197175160

/-- One bit behind a register. -/
def bitStep (c b : Nat) : Nat := c / 2 ^^^ (if (c + b) % 2 = 1 then poly else 0)
/-- k bits of x behind a register, the lowest first. -/
def bitsStep : Nat → Nat → Nat → Nat
  | 0, c, _ => c
  | k + 1, c, x => bitsStep k (bitStep c (x % 2)) (x / 2)
/-- One byte behind a register. -/
def byteStep (c x : Nat) : Nat := bitsStep 8 c x
/-- The register behind some bytes. -/
def raw (bs : List Nat) : Nat := bs.foldl byteStep 4294967295
/-- The sum. -/
def sum (bs : List Nat) : Nat := 4294967295 ^^^ raw bs

theorem poly_lt : poly < 2 ^ 32 := by decide
theorem xor_lt {a b : Nat} (ha : a < 2 ^ 32) (hb : b < 2 ^ 32) : a ^^^ b < 2 ^ 32 := Nat.xor_lt_two_pow ha hb

theorem bitStep_lt {c b : Nat} (h : c < 2 ^ 32) : bitStep c b < 2 ^ 32 := by
  unfold bitStep
  refine xor_lt (by omega) ?_
  split
  · exact poly_lt
  · decide
theorem bitsStep_lt : ∀ (k c x : Nat), c < 2 ^ 32 → bitsStep k c x < 2 ^ 32
  | 0, _, _, h => h
  | k + 1, _, _, h => bitsStep_lt k _ _ (bitStep_lt h)
theorem byteStep_lt {c x : Nat} (h : c < 2 ^ 32) : byteStep c x < 2 ^ 32 := bitsStep_lt 8 c x h
theorem foldl_lt : ∀ (bs : List Nat) (c : Nat), c < 2 ^ 32 → bs.foldl byteStep c < 2 ^ 32
  | [], _, h => h
  | _ :: r, _, h => foldl_lt r _ (byteStep_lt h)
theorem raw_lt (bs : List Nat) : raw bs < 2 ^ 32 := foldl_lt bs _ (by decide)
theorem sum_lt (bs : List Nat) : sum bs < 2 ^ 32 := xor_lt (by decide) (raw_lt bs)

/-! ### Parities -/
theorem xor_mod (a b : Nat) : (a ^^^ b) % 2 = (a + b) % 2 := by
  have h : ∀ n : Nat, n % 2 = (n.testBit 0).toNat := fun n => by
    rw [Nat.testBit_zero]
    rcases Nat.mod_two_eq_zero_or_one n with h | h <;> simp [h]
  rw [h (a ^^^ b), Nat.testBit_xor, Nat.testBit_zero, Nat.testBit_zero]
  rcases Nat.mod_two_eq_zero_or_one a with ha | ha <;> rcases Nat.mod_two_eq_zero_or_one b with hb | hb <;> simp [ha, hb] <;> omega
theorem xor_div (a b : Nat) : (a ^^^ b) / 2 = a / 2 ^^^ b / 2 := by
  apply Nat.eq_of_testBit_eq
  intro i
  simp only [Nat.testBit_xor, ← Nat.testBit_succ]

/-- A byte may be laid over the register first, and noughts put behind. -/
theorem bitsStep_over : ∀ (k c x : Nat), bitsStep k c x = bitsStep k (c ^^^ x) 0 ^^^ x / 2 ^ k
  | 0, c, x => by
    show c = (c ^^^ x) ^^^ x / 2 ^ 0
    rw [Nat.pow_zero, Nat.div_one, Nat.xor_assoc, Nat.xor_self, Nat.xor_zero]
  | k + 1, c, x => by
    show bitsStep k (bitStep c (x % 2)) (x / 2) = bitsStep k (bitStep (c ^^^ x) (0 % 2)) (0 / 2) ^^^ x / 2 ^ (k + 1)
    have h : bitStep (c ^^^ x) (0 % 2) = bitStep c (x % 2) ^^^ x / 2 := by
      unfold bitStep
      rw [xor_div]
      have e : ((c ^^^ x) + 0 % 2) % 2 = (c + x % 2) % 2 := by
        have := xor_mod c x
        omega
      rw [e, Nat.xor_assoc, Nat.xor_comm (x / 2), ← Nat.xor_assoc]
    have hz : (0 : Nat) / 2 = 0 := rfl
    rw [h, bitsStep_over k (bitStep c (x % 2)) (x / 2), hz, Nat.div_div_eq_div_mul, Nat.pow_succ, Nat.mul_comm 2]
theorem byteStep_over (c x : Nat) (hx : x < 256) : byteStep c x = bitsStep 8 (c ^^^ x) 0 := by
  unfold byteStep
  rw [bitsStep_over, Nat.div_eq_of_lt (by simpa using hx), Nat.xor_zero]

/-! ### The steps are linear -/
theorem ite_xor (p q : Prop) [Decidable p] [Decidable q] (r : Prop) [Decidable r] (h : r ↔ ¬(p ↔ q)) (a : Nat) : (if r then a else 0) = (if p then a else 0) ^^^ (if q then a else 0) := by
  by_cases hp : p <;> by_cases hq : q <;> simp [h, hp, hq]
theorem bitStep_xor (c d a b : Nat) : bitStep (c ^^^ d) (a ^^^ b) = bitStep c a ^^^ bitStep d b := by
  unfold bitStep
  rw [xor_div, ite_xor ((c + a) % 2 = 1) ((d + b) % 2 = 1) (((c ^^^ d) + (a ^^^ b)) % 2 = 1) (by have h1 := xor_mod c d; have h2 := xor_mod a b; omega)]
  rw [Nat.xor_assoc, Nat.xor_assoc]
  congr 1
  rw [← Nat.xor_assoc, Nat.xor_comm (d / 2), Nat.xor_assoc]
theorem bitsStep_xor : ∀ (k c d x y : Nat), bitsStep k (c ^^^ d) (x ^^^ y) = bitsStep k c x ^^^ bitsStep k d y
  | 0, _, _, _, _ => rfl
  | k + 1, c, d, x, y => by
    show bitsStep k (bitStep (c ^^^ d) ((x ^^^ y) % 2)) ((x ^^^ y) / 2) = bitsStep k (bitStep c (x % 2)) (x / 2) ^^^ bitsStep k (bitStep d (y % 2)) (y / 2)
    have e : (x ^^^ y) % 2 = (x % 2) ^^^ (y % 2) := by
      rw [xor_mod]
      rcases Nat.mod_two_eq_zero_or_one x with hx | hx <;> rcases Nat.mod_two_eq_zero_or_one y with hy | hy <;> simp [hx, hy] <;> omega
    rw [e, xor_div, bitStep_xor, bitsStep_xor k]

/-- Where the low k bits are noughts, k noughts behind shift alone. -/
theorem bitsStep_high : ∀ (k c : Nat), bitsStep k (c * 2 ^ k) 0 = c
  | 0, c => by show c * 2 ^ 0 = c; omega
  | k + 1, c => by
    show bitsStep k (bitStep (c * 2 ^ (k + 1)) (0 % 2)) (0 / 2) = c
    have h : bitStep (c * 2 ^ (k + 1)) (0 % 2) = c * 2 ^ k := by
      unfold bitStep
      have e : c * 2 ^ (k + 1) = (c * 2 ^ k) * 2 := by rw [Nat.pow_succ, Nat.mul_assoc]
      rw [e, if_neg (by omega), Nat.xor_zero]
      omega
    rw [h]
    exact bitsStep_high k c
theorem low_high (k c : Nat) : c = (c / 2 ^ k) * 2 ^ k ^^^ c % 2 ^ k := by
  apply Nat.eq_of_testBit_eq
  intro i
  rw [Nat.testBit_xor, Nat.testBit_mod_two_pow, Nat.mul_comm, Nat.testBit_two_pow_mul]
  by_cases h : i < k
  · simp [h, Nat.not_le.2 h]
  · have h' : k ≤ i := Nat.le_of_not_lt h
    simp only [h, h', decide_true, decide_false, Bool.true_and, Bool.false_and, Bool.xor_false]
    rw [Nat.testBit_div_two_pow, Nat.sub_add_cancel h']
/-- The form with a table: what a register's low byte comes to, over the rest of it. -/
theorem zeros_table (c : Nat) : bitsStep 8 c 0 = bitsStep 8 (c % 256) 0 ^^^ c / 256 := by
  have h := low_high 8 c
  have e : bitsStep 8 c 0 = bitsStep 8 ((c / 2 ^ 8) * 2 ^ 8 ^^^ c % 2 ^ 8) (0 ^^^ 0) := by rw [← h]; rfl
  rw [e, bitsStep_xor, bitsStep_high, Nat.xor_comm]
theorem byteStep_table (c x : Nat) (hx : x < 256) : byteStep c x = bitsStep 8 ((c ^^^ x) % 256) 0 ^^^ c / 256 := by
  rw [byteStep_over c x hx, zeros_table]
  congr 1
  have h : (c ^^^ x) / 2 ^ 8 = c / 2 ^ 8 ^^^ x / 2 ^ 8 := by
    apply Nat.eq_of_testBit_eq
    intro i
    simp only [Nat.testBit_xor, Nat.testBit_div_two_pow]
  have h2 : x / 2 ^ 8 = 0 := Nat.div_eq_of_lt (by simpa using hx)
  rw [h2, Nat.xor_zero] at h
  exact h

theorem xor_twice (a b : Nat) : a ^^^ (a ^^^ b) = b := by rw [← Nat.xor_assoc, Nat.xor_self, Nat.zero_xor]
theorem xor_left {a b c : Nat} : a ^^^ b = a ^^^ c ↔ b = c := ⟨fun h => by rw [← xor_twice a b, h, xor_twice], fun h => by rw [h]⟩
theorem xor_right {a b c : Nat} : b ^^^ a = c ^^^ a ↔ b = c := by rw [Nat.xor_comm b, Nat.xor_comm c]; exact xor_left

/-! ### What is unlike stays unlike -/
/-- The top bit of what comes out tells whether the divisor was laid over. -/
theorem bitStep_top {c b : Nat} (h : c < 2 ^ 32) : (bitStep c b).testBit 31 = decide ((c + b) % 2 = 1) := by
  unfold bitStep
  rw [Nat.testBit_xor]
  have h1 : (c / 2).testBit 31 = false := Nat.testBit_lt_two_pow (by omega)
  rw [h1]
  split
  · rename_i h2
    simp [h2, poly]
    decide
  · rename_i h2
    simp [h2]
/-- One bit behind unlike registers leaves unlike ones. -/
theorem bitStep_inj {c d b : Nat} (hc : c < 2 ^ 32) (hd : d < 2 ^ 32) (h : bitStep c b = bitStep d b) : c = d := by
  have ht : decide ((c + b) % 2 = 1) = decide ((d + b) % 2 = 1) := by rw [← bitStep_top hc, ← bitStep_top hd, h]
  have hp : (c + b) % 2 = 1 ↔ (d + b) % 2 = 1 := by simpa using ht
  have hd2 : c / 2 = d / 2 := by
    unfold bitStep at h
    by_cases hq : (c + b) % 2 = 1
    · rw [if_pos hq, if_pos (hp.1 hq)] at h
      exact xor_right.1 h
    · rw [if_neg hq, if_neg (fun q => hq (hp.2 q))] at h
      exact xor_right.1 h
  omega
theorem bitsStep_inj : ∀ (k c d x : Nat), c < 2 ^ 32 → d < 2 ^ 32 → bitsStep k c x = bitsStep k d x → c = d
  | 0, _, _, _, _, _, h => h
  | k + 1, _, _, _, hc, hd, h => bitStep_inj hc hd (bitsStep_inj k _ _ _ (bitStep_lt hc) (bitStep_lt hd) h)
theorem byteStep_inj {c d x : Nat} (hc : c < 2 ^ 32) (hd : d < 2 ^ 32) (h : byteStep c x = byteStep d x) : c = d := bitsStep_inj 8 c d x hc hd h
theorem foldl_inj : ∀ (bs : List Nat) (c d : Nat), c < 2 ^ 32 → d < 2 ^ 32 → bs.foldl byteStep c = bs.foldl byteStep d → c = d
  | [], _, _, _, _, h => h
  | _ :: r, _, _, hc, hd, h => byteStep_inj hc hd (foldl_inj r _ _ (byteStep_lt hc) (byteStep_lt hd) h)
/-- Unlike bytes behind one register leave unlike ones. -/
theorem byteStep_byte {c x y : Nat} (hc : c < 2 ^ 32) (hx : x < 256) (hy : y < 256) (h : byteStep c x = byteStep c y) : x = y := by
  rw [byteStep_over c x hx, byteStep_over c y hy] at h
  have h2 := bitsStep_inj 8 _ _ 0 (xor_lt hc (by omega)) (xor_lt hc (by omega)) h
  exact xor_left.1 h2
/-- With one byte another one, wherever, the register behind all is another one. -/
theorem raw_tells (a r : List Nat) (x y : Nat) (hx : x < 256) (hy : y < 256) : raw (a ++ x :: r) = raw (a ++ y :: r) ↔ x = y := by
  constructor
  · intro h
    unfold raw at h
    rw [List.foldl_append, List.foldl_append, List.foldl_cons, List.foldl_cons] at h
    have hl := foldl_lt a 4294967295 (by decide)
    exact byteStep_byte hl hx hy (foldl_inj r _ _ (byteStep_lt hl) (byteStep_lt hl) h)
  · rintro rfl; rfl
theorem sum_tells (a r : List Nat) (x y : Nat) (hx : x < 256) (hy : y < 256) : sum (a ++ x :: r) = sum (a ++ y :: r) ↔ x = y := by
  rw [← raw_tells a r x y hx hy]
  unfold sum
  exact xor_left
/-- The step that the chapter names: from a sum to that with one byte more. -/
def step (s x : Nat) : Nat := 4294967295 ^^^ byteStep (4294967295 ^^^ s) x
theorem snoc_any (n : Nat) (bs : List Nat) (x : Nat) : n ^^^ (bs ++ [x]).foldl byteStep n = n ^^^ byteStep (n ^^^ (n ^^^ bs.foldl byteStep n)) x := by
  rw [xor_twice, List.foldl_append, List.foldl_cons, List.foldl_nil]
theorem sum_snoc (bs : List Nat) (x : Nat) : sum (bs ++ [x]) = step (sum bs) x := snoc_any 4294967295 bs x
theorem steps_any (n : Nat) : ∀ (l : List Nat) (c : Nat), l.foldl (fun s x => n ^^^ byteStep (n ^^^ s) x) (n ^^^ c) = n ^^^ l.foldl byteStep c
  | [], _ => by rw [List.foldl_nil, List.foldl_nil]
  | x :: r, c => by rw [List.foldl_cons, List.foldl_cons, ← steps_any n r, xor_twice]
theorem steps_from (n : Nat) (l : List Nat) : l.foldl (fun s x => n ^^^ byteStep (n ^^^ s) x) 0 = n ^^^ l.foldl byteStep n := by
  rw [← steps_any n l n, Nat.xor_self]
theorem sum_steps (bs : List Nat) : bs.foldl step 0 = sum bs := steps_from 4294967295 bs
theorem step_tells {s x y : Nat} (hs : s < 2 ^ 32) (hx : x < 256) (hy : y < 256) : step s x = step s y ↔ x = y := by
  constructor
  · intro h
    unfold step at h
    exact byteStep_byte (xor_lt (by decide) hs) hx hy (xor_left.1 h)
  · rintro rfl; rfl
theorem step_lt {s x : Nat} (hs : s < 2 ^ 32) : step s x < 2 ^ 32 := xor_lt (by decide) (byteStep_lt (xor_lt (by decide) hs))

/-! ### The division, bit by bit, over a row of bits -/
/-- Bit j of some bytes, each byte's lowest first; noughts behind. -/
def mbit (bs : List Nat) (j : Nat) : Bool := (bs.getD (j / 8) 0).testBit (j % 8)
/-- How far behind the bit that is cleared the bits lie that are turned. -/
def offs : List Nat := [4, 5, 6, 7, 9, 10, 12, 13, 14, 18, 19, 21, 22, 23, 24, 26, 32]
/-- The row at first: the first 32 bits turned. -/
def row0 (bs : List Nat) (j : Nat) : Bool := if j < 32 then !mbit bs j else mbit bs j
/-- One round at bit i. -/
def rowStep (L : Nat → Bool) (i : Nat) : Nat → Bool := fun j => if L i then (L j ^^ decide (i ≤ j ∧ j - i ∈ offs)) else L j
/-- The row behind i rounds. -/
def rows (bs : List Nat) : Nat → Nat → Bool
  | 0 => row0 bs
  | i + 1 => rowStep (rows bs i) i
/-- The register behind i bits. -/
def reg (bs : List Nat) : Nat → Nat
  | 0 => 4294967295
  | i + 1 => bitStep (reg bs i) (mbit bs i).toNat

theorem reg_lt (bs : List Nat) : ∀ i, reg bs i < 2 ^ 32
  | 0 => by show 4294967295 < 2 ^ 32; decide
  | i + 1 => bitStep_lt (reg_lt bs i)
theorem ones_bit : ∀ j, j < 32 → (4294967295 : Nat).testBit j = true := by decide
theorem poly_bit : ∀ j, j < 32 → poly.testBit j = decide (j + 1 ∈ offs) := by decide
theorem offs_le : ∀ d, d ∈ offs → 4 ≤ d ∧ d ≤ 32 := by decide
theorem mod_testBit (c : Nat) (b : Bool) : decide ((c + b.toNat) % 2 = 1) = (c.testBit 0 ^^ b) := by
  rw [Nat.testBit_zero]
  rcases Nat.mod_two_eq_zero_or_one c with h | h <;> cases b <;> simp [h] <;> omega
theorem bitStep_bit (c : Nat) (b : Bool) (j : Nat) : (bitStep c b.toNat).testBit j = (c.testBit (j + 1) ^^ ((c.testBit 0 ^^ b) && poly.testBit j)) := by
  unfold bitStep
  rw [Nat.testBit_xor, ← Nat.testBit_succ]
  have h := mod_testBit c b
  by_cases hq : (c + b.toNat) % 2 = 1
  · rw [if_pos hq, ← h]
    simp [hq]
  · rw [if_neg hq, ← h]
    simp [hq]

/-- The row is the register laid over what is still to come. -/
theorem rows_reg (bs : List Nat) : ∀ i j, rows bs i (i + j) = (mbit bs (i + j) ^^ (decide (j < 32) && (reg bs i).testBit j))
  | 0, j => by
    show row0 bs (0 + j) = (mbit bs (0 + j) ^^ (decide (j < 32) && (4294967295 : Nat).testBit j))
    unfold row0
    by_cases h : j < 32
    · rw [if_pos (by omega), ones_bit j h]
      simp [h]
    · rw [if_neg (by omega)]
      simp [h]
  | i + 1, j => by
    have ih := rows_reg bs i
    have hi := ih 0
    rw [Nat.add_zero] at hi
    have hj := ih (j + 1)
    show rowStep (rows bs i) i (i + 1 + j) = (mbit bs (i + 1 + j) ^^ (decide (j < 32) && (bitStep (reg bs i) (mbit bs i).toNat).testBit j))
    have e : i + (j + 1) = i + 1 + j := by omega
    rw [e] at hj
    unfold rowStep
    rw [hi, hj, bitStep_bit]
    have e2 : i + 1 + j - i = j + 1 := by omega
    rw [e2]
    by_cases h31 : j < 31
    · have h32 : j < 32 := by omega
      rw [poly_bit j h32]
      have hle : i ≤ i + 1 + j := by omega
      simp only [show j + 1 < 32 by omega, h32, hle, decide_true, Bool.true_and, true_and, show (0 : Nat) < 32 by omega]
      cases mbit bs i <;> cases (reg bs i).testBit 0 <;> cases mbit bs (i + 1 + j) <;> cases (reg bs i).testBit (j + 1) <;> cases decide (j + 1 ∈ offs) <;> rfl
    · by_cases h : j = 31
      · subst h
        have htop : (reg bs i).testBit 32 = false := Nat.testBit_lt_two_pow (reg_lt bs i)
        have hp : poly.testBit 31 = true := by decide
        have ho : (32 : Nat) ∈ offs := by decide
        have hle : i ≤ i + 1 + 31 := by omega
        simp only [htop, hp, ho, hle, and_self, decide_true, Bool.true_and, Bool.and_true, show ¬ (31 + 1 < 32) by omega, show 31 < 32 by omega, decide_false, Bool.false_and, Bool.xor_false, Bool.false_xor, show (0 : Nat) < 32 by omega]
        cases mbit bs i <;> cases (reg bs i).testBit 0 <;> cases mbit bs (i + 1 + 31) <;> rfl
      · have ho : ¬ (j + 1 ∈ offs) := fun hm => by have := (offs_le _ hm).2; omega
        simp only [ho, and_false, decide_false, Bool.xor_false, show ¬ (j + 1 < 32) by omega, show ¬ (j < 32) by omega, Bool.false_and]
        split <;> rfl

/-- Eight bits of the register's way are one byte's. -/
theorem mbit_at (bs : List Nat) (k t : Nat) (ht : t < 8) : mbit bs (8 * k + t) = (bs.getD k 0).testBit t := by
  unfold mbit
  rw [show (8 * k + t) / 8 = k by omega, show (8 * k + t) % 8 = t by omega]
theorem bit_toNat (x t : Nat) : x / 2 ^ t % 2 = (x.testBit t).toNat := by
  rw [Nat.testBit_eq_decide_div_mod_eq]
  rcases Nat.mod_two_eq_zero_or_one (x / 2 ^ t) with h | h <;> simp [h]
theorem reg_within (bs : List Nat) (k : Nat) : ∀ t, t ≤ 8 → bitsStep (8 - t) (reg bs (8 * k + t)) (bs.getD k 0 / 2 ^ t) = byteStep (reg bs (8 * k)) (bs.getD k 0)
  | 0, _ => by rw [Nat.pow_zero, Nat.div_one]; rfl
  | t + 1, h => by
    rw [← reg_within bs k t (by omega)]
    rw [show 8 - t = (8 - (t + 1)) + 1 by omega]
    show _ = bitsStep (8 - (t + 1)) (bitStep (reg bs (8 * k + t)) (bs.getD k 0 / 2 ^ t % 2)) (bs.getD k 0 / 2 ^ t / 2)
    rw [bit_toNat, ← mbit_at bs k t (by omega), Nat.div_div_eq_div_mul, ← Nat.pow_succ]
    rfl
theorem reg_byte (bs : List Nat) (k : Nat) : reg bs (8 * (k + 1)) = byteStep (reg bs (8 * k)) (bs.getD k 0) := by
  have h := reg_within bs k 8 (Nat.le_refl _)
  rw [← h]
  rfl
theorem reg_take (bs : List Nat) : ∀ k, k ≤ bs.length → reg bs (8 * k) = raw (bs.take k)
  | 0, _ => by rw [List.take_zero]; rfl
  | k + 1, h => by
    rw [reg_byte, reg_take bs k (by omega), List.take_succ_eq_append_getElem (by omega)]
    unfold raw
    rw [List.foldl_append, List.foldl_cons, List.foldl_nil]
    congr 1
    simp [List.getD, List.getElem?_eq_getElem (show k < bs.length by omega)]
theorem reg_all (bs : List Nat) : reg bs (8 * bs.length) = raw bs := by
  rw [reg_take bs _ (Nat.le_refl _), List.take_length]

/-- Bits gathered into a number, the lowest first. -/
def gather (f : Nat → Bool) : Nat → Nat
  | 0 => 0
  | k + 1 => gather f k + (if f k then 2 ^ k else 0)
theorem gather_lt (f : Nat → Bool) : ∀ n, gather f n < 2 ^ n
  | 0 => by show 0 < 2 ^ 0; decide
  | n + 1 => by
    have := gather_lt f n
    show gather f n + _ < 2 ^ (n + 1)
    rw [Nat.pow_succ]
    split <;> omega
theorem gather_bit (f : Nat → Bool) : ∀ n k, (gather f n).testBit k = (decide (k < n) && f k)
  | 0, k => by simp [gather]
  | n + 1, k => by
    show (gather f n + if f n then 2 ^ n else 0).testBit k = _
    have hl := gather_lt f n
    have ih := gather_bit f n k
    by_cases hf : f n
    · rw [if_pos hf, Nat.add_comm]
      rcases Nat.lt_trichotomy k n with h | h | h
      · rw [Nat.testBit_two_pow_add_gt h, ih]
        simp [h, show k < n + 1 by omega]
      · subst h
        rw [Nat.testBit_two_pow_add_eq, ih]
        simp [hf]
      · have : (2 ^ n + gather f n).testBit k = false := Nat.testBit_lt_two_pow (by have : 2 ^ (n + 1) ≤ 2 ^ k := Nat.pow_le_pow_right (by omega) (by omega); rw [Nat.pow_succ] at this; omega)
        rw [this]
        simp [show ¬ k < n + 1 by omega]
    · rw [if_neg hf, Nat.add_zero, ih]
      by_cases h : k = n
      · subst h
        simp [hf]
      · by_cases h2 : k < n
        · simp [h2, show k < n + 1 by omega]
        · simp [h2, show ¬ k < n + 1 by omega]
/-- What the division leaves, all bits turned, is the sum. -/
theorem division (bs : List Nat) : gather (fun k => !rows bs (8 * bs.length) (8 * bs.length + k)) 32 = sum bs := by
  apply Nat.eq_of_testBit_eq
  intro k
  rw [gather_bit, rows_reg, reg_all]
  unfold sum
  rw [Nat.testBit_xor]
  have hm : mbit bs (8 * bs.length + k) = false := by
    unfold mbit
    rw [List.getD_eq_getElem?_getD, List.getElem?_eq_none (by omega)]
    exact Nat.zero_testBit _
  rw [hm]
  by_cases h : k < 32
  · rw [ones_bit k h]
    simp [h]
  · have h1 : (4294967295 : Nat).testBit k = false := Nat.testBit_lt_two_pow (by have : 2 ^ 32 ≤ 2 ^ k := Nat.pow_le_pow_right (by omega) (by omega); omega)
    have h2 : (raw bs).testBit k = false := Nat.testBit_lt_two_pow (by have := raw_lt bs; have : 2 ^ 32 ≤ 2 ^ k := Nat.pow_le_pow_right (by omega) (by omega); omega)
    rw [h1, h2]
    simp [h]
end CrcMath
