/-
  Plain mathematics of chapter 5: what is read from some bytes, thing by thing, and what is put, thing by thing. No program, no conditions but those typed.
-/
import Derived.Test.YtpmhfoleafjlbaaDoorWireMath
namespace WireMath

/-- Where a reader stands, and where its fault is. -/
structure At where
  at_ : Nat
  bad : Option Nat
def readNum (l : List Nat) (st : At) (most : Int) : Nat × At :=
  match st.bad with
  | some _ => (0, st)
  | none => match next (l.drop st.at_) most with
    | some (v, k) => (v, ⟨st.at_ + k, none⟩)
    | none => (0, ⟨st.at_, some st.at_⟩)
def readText (l : List Nat) (st : At) (most : Int) : List Nat × At :=
  match st.bad with
  | some _ => ([], st)
  | none => match (readNum l st most).2.bad with
    | some _ => ([], ⟨st.at_, some st.at_⟩)
    | none => if l.length < (readNum l st most).2.at_ + (readNum l st most).1 then ([], ⟨st.at_, some st.at_⟩)
      else ((l.drop (readNum l st most).2.at_).take (readNum l st most).1, ⟨(readNum l st most).2.at_ + (readNum l st most).1, none⟩)
def readFlag (l : List Nat) (st : At) : Bool × At := (decide ((readNum l st 1).1 = 1), (readNum l st 1).2)
def big : Nat := 1099511627776
/-- So many counts. -/
def readCounts (l : List Nat) : Nat → At → List Nat × At
  | 0, st => ([], st)
  | n + 1, st => ((readNum l st big).1 :: (readCounts l n (readNum l st big).2).1, (readCounts l n (readNum l st big).2).2)
/-- May a vector be? -/
def trimmed (v : List Int) (most : Int) : Bool := decide (v.length ≤ 16) && v.all (fun n => decide (0 ≤ n) && decide (n ≤ most)) && !(v.getLast? == some 0)
def readVec (l : List Nat) (st : At) : List Nat × At :=
  match st.bad with
  | some _ => ([], st)
  | none => match (readCounts l (readNum l st 16).1 (readNum l st 16).2).2.bad with
    | some _ => ([], ⟨st.at_, some st.at_⟩)
    | none => if trimmed ((readCounts l (readNum l st 16).1 (readNum l st 16).2).1.map Int.ofNat) big then readCounts l (readNum l st 16).1 (readNum l st 16).2
      else ([], ⟨st.at_, some st.at_⟩)
/-- Where the fault is, if it isn't read to its end. -/
def faultAt (l : List Nat) (st : At) : Option Nat :=
  match st.bad with
  | some b => some b
  | none => if st.at_ < l.length then some st.at_ else none

/-- A thing: k 0 a number, 1 a text, 2 a flag, 3 a vector. -/
structure Thing where
  k : Int
  n : Int
  s : List Nat
  b : Bool
  v : List Int
def vecBytes (v : List Int) : List Nat := num v.length ++ v.flatMap fun n => num n.toNat
def bytes (x : Thing) : Option (List Nat) :=
  if x.k = 1 then some (num x.s.length ++ x.s)
  else if x.k = 2 then some (num (if x.b then 1 else 0))
  else if x.k = 3 then if trimmed x.v top then some (vecBytes x.v) else none
  else if 0 ≤ x.n ∧ x.n ≤ top then some (num x.n.toNat) else none
/-- What has been put: the bytes, or the first fault with its place. -/
structure Put where
  out : List Nat
  bad : Option (Nat × Nat)
def put (p : Put) (x : Thing) : Put :=
  match p.bad with
  | some _ => p
  | none => match bytes x with
    | none => ⟨p.out, some (1, p.out.length)⟩
    | some b => if 65536 < p.out.length + b.length then ⟨p.out, some (3, p.out.length)⟩ else ⟨p.out ++ b, none⟩
def written (l : List Thing) : Put := l.foldl put ⟨[], none⟩

theorem put_stays (p : Put) (q : Nat × Nat) (h : p.bad = some q) : ∀ l : List Thing, l.foldl put p = p
  | [] => rfl
  | x :: r => by
    have : put p x = p := by unfold put; rw [h]
    rw [List.foldl_cons, this, put_stays p q h r]

/-- What k groups, of value n, and what is read behind them come to. -/
def comb (k n : Nat) : Option (Nat × Nat) → Option (Nat × Nat)
  | none => none
  | some (v, j) => if 0 < k ∧ v = 0 then none else some (n + 128 ^ k * v, k + j)
theorem comb_zero (x : Option (Nat × Nat)) : comb 0 0 x = x := by
  cases x with
  | none => rfl
  | some p => simp [comb]
theorem comb_go {l : List Nat} {k n c : Nat} (hk : k < 9) (hc : l[k]? = some c) (h : 128 ≤ c) (h2 : c < 256) :
    comb k n (rawF (9 - k) (l.drop k)) = comb (k + 1) (n + c % 128 * 128 ^ k) (rawF (9 - (k + 1)) (l.drop (k + 1))) := by
  have hlt : k < l.length := by
    rcases Nat.lt_or_ge k l.length with h | h
    · exact h
    · rw [List.getElem?_eq_none h] at hc; cases hc
  have hd : l.drop k = c :: l.drop (k + 1) := by
    rw [List.drop_eq_getElem_cons hlt]
    rw [List.getElem?_eq_getElem hlt] at hc
    rw [Option.some.inj hc]
  rw [hd, show 9 - k = (9 - (k + 1)) + 1 by omega, rawF, if_neg (by omega)]
  cases rawF (9 - (k + 1)) (l.drop (k + 1)) with
  | none => rfl
  | some p =>
    obtain ⟨v, j⟩ := p
    simp only
    by_cases hv : v = 0
    · rw [if_pos hv]
      simp [comb, hv]
    · rw [if_neg hv]
      unfold comb
      simp only
      rw [if_neg (by omega), if_neg (by omega)]
      have e : c % 128 = c - 128 := by omega
      rw [e, Nat.pow_succ, Nat.mul_add, Nat.add_assoc, Nat.mul_comm (c - 128), Nat.mul_assoc]
      congr 2
      omega
theorem comb_end {l : List Nat} {k n c : Nat} (hk : k < 9) (hc : l[k]? = some c) (h : c < 128) :
    comb k n (rawF (9 - k) (l.drop k)) = if 0 < k ∧ c = 0 then none else some (n + c % 128 * 128 ^ k, k + 1) := by
  have hlt : k < l.length := by
    rcases Nat.lt_or_ge k l.length with h | h
    · exact h
    · rw [List.getElem?_eq_none h] at hc; cases hc
  have hd : l.drop k = c :: l.drop (k + 1) := by
    rw [List.drop_eq_getElem_cons hlt]
    rw [List.getElem?_eq_getElem hlt] at hc
    rw [Option.some.inj hc]
  rw [hd, show 9 - k = (9 - (k + 1)) + 1 by omega, rawF, if_pos h]
  unfold comb
  simp only
  rw [Nat.mod_eq_of_lt h, Nat.mul_comm]
theorem comb_none {l : List Nat} {k n : Nat} (h : 9 ≤ k ∨ l.length ≤ k) : comb k n (rawF (9 - k) (l.drop k)) = none := by
  rcases h with h | h
  · rw [show 9 - k = 0 by omega]
    rfl
  · rw [List.drop_of_length_le h]
    cases 9 - k <;> rfl
theorem readNum_ok {l : List Nat} {a v k : Nat} {most : Int} (h : rawF 9 (l.drop a) = some (v, k)) (h1 : (v : Int) ≤ most) (h2 : v ≤ top) : readNum l ⟨a, none⟩ most = (v, ⟨a + k, none⟩) := by
  unfold readNum next
  simp only [h]
  rw [if_pos ⟨h1, h2⟩]
theorem readNum_none {l : List Nat} {a : Nat} {most : Int} (h : rawF 9 (l.drop a) = none) : readNum l ⟨a, none⟩ most = (0, ⟨a, some a⟩) := by
  unfold readNum next
  simp only [h]
theorem readNum_big {l : List Nat} {a v k : Nat} {most : Int} (h : rawF 9 (l.drop a) = some (v, k)) (h1 : ¬ ((v : Int) ≤ most ∧ v ≤ top)) : readNum l ⟨a, none⟩ most = (0, ⟨a, some a⟩) := by
  unfold readNum next
  simp only [h]
  rw [if_neg h1]
/-- A number that is read, or a fault. -/
theorem readNum_cases (l : List Nat) (a : Nat) (most : Int) (hl : ∀ b ∈ l, b < 256) (ha : a ≤ l.length) :
    (∃ v k, readNum l ⟨a, none⟩ most = (v, ⟨a + k, none⟩) ∧ a + k ≤ l.length ∧ v ≤ top ∧ (v : Int) ≤ most) ∨ readNum l ⟨a, none⟩ most = (0, ⟨a, some a⟩) := by
  cases h : next (l.drop a) most with
  | none =>
    right
    unfold readNum
    simp only [h]
  | some p =>
    obtain ⟨v, k⟩ := p
    left
    obtain ⟨h1, h2, h3, r, h4⟩ := next_says (fun b hb => hl b (List.mem_of_mem_drop hb)) h
    have h5 := congrArg List.length h4
    rw [List.length_drop, List.length_append] at h5
    refine ⟨v, k, ?_, by omega, h2, h1⟩
    unfold readNum
    simp only [h]
theorem trimmed_long {v : List Int} {most : Int} (h : 16 < v.length) : trimmed v most = false := by
  unfold trimmed
  rw [decide_eq_false (by omega), Bool.false_and, Bool.false_and]
theorem trimmed_bad {v : List Int} {most z : Int} {i : Nat} (hz : v[i]? = some z) (h : z < 0 ∨ most < z ∨ (i + 1 = v.length ∧ z = 0)) : trimmed v most = false := by
  unfold trimmed
  rcases h with h | h | ⟨h, h0⟩
  · have : v.all (fun n => decide (0 ≤ n) && decide (n ≤ most)) = false := by
      rw [Bool.eq_false_iff]
      intro ha
      rw [List.all_eq_true] at ha
      have := ha z (List.mem_of_getElem? hz)
      simp at this
      omega
    rw [this, Bool.and_false, Bool.false_and]
  · have : v.all (fun n => decide (0 ≤ n) && decide (n ≤ most)) = false := by
      rw [Bool.eq_false_iff]
      intro ha
      rw [List.all_eq_true] at ha
      have := ha z (List.mem_of_getElem? hz)
      simp at this
      omega
    rw [this, Bool.and_false, Bool.false_and]
  · have : (v.getLast? == some 0) = true := by
      rw [List.getLast?_eq_getElem?, show v.length - 1 = i by omega, hz, h0]
      rfl
    rw [this, Bool.not_true, Bool.and_false]
theorem trimmed_ok {v : List Int} {most : Int} (hl : v.length ≤ 16) (h : ∀ (i : Nat) (z : Int), v[i]? = some z → 0 ≤ z ∧ z ≤ most ∧ ¬ (i + 1 = v.length ∧ z = 0)) : trimmed v most = true := by
  unfold trimmed
  rw [decide_eq_true hl, Bool.true_and, Bool.and_eq_true]
  constructor
  · rw [List.all_eq_true]
    intro z hz
    obtain ⟨i, hi⟩ := List.getElem?_of_mem hz
    have := h i z hi
    simp
    omega
  · rw [Bool.not_eq_true']
    cases hv : v.getLast? with
    | none => rfl
    | some z =>
      rw [List.getLast?_eq_getElem?] at hv
      have hlt : v.length - 1 < v.length := by
        rcases Nat.lt_or_ge (v.length - 1) v.length with h1 | h1
        · exact h1
        · rw [List.getElem?_eq_none h1] at hv; cases hv
      have := h _ z hv
      have hz : z ≠ 0 := fun h0 => this.2.2 ⟨by omega, h0⟩
      simpa using hz
/-- A reader stays within its text. -/
theorem readNum_le (l : List Nat) (st : At) (most : Int) (hl : ∀ b ∈ l, b < 256) (ha : st.at_ ≤ l.length) : (readNum l st most).2.at_ ≤ l.length := by
  obtain ⟨a, bad⟩ := st
  cases bad with
  | some b => exact ha
  | none =>
    rcases readNum_cases l a most hl ha with ⟨v, k, h, hk, _⟩ | h
    · rw [h]; exact hk
    · rw [h]; exact ha
theorem readCounts_step (l : List Nat) (n : Nat) (st : At) : readCounts l (n + 1) st = ((readNum l st big).1 :: (readCounts l n (readNum l st big).2).1, (readCounts l n (readNum l st big).2).2) := rfl
theorem readCounts_len (l : List Nat) : ∀ (n : Nat) (st : At), (readCounts l n st).1.length = n
  | 0, _ => rfl
  | n + 1, st => by rw [readCounts_step]; simp [readCounts_len l n]
theorem readNum_top (l : List Nat) (st : At) (most : Int) (hm : 0 ≤ most) (hl : ∀ b ∈ l, b < 256) (ha : st.at_ ≤ l.length) : ((readNum l st most).1 : Int) ≤ most ∧ (readNum l st most).1 ≤ top := by
  obtain ⟨a, bad⟩ := st
  cases bad with
  | some b => exact ⟨hm, Nat.zero_le _⟩
  | none =>
    rcases readNum_cases l a most hl ha with ⟨v, k, h, hk, h1, h2⟩ | h
    · rw [h]; exact ⟨h2, h1⟩
    · rw [h]; exact ⟨hm, Nat.zero_le _⟩
end WireMath
