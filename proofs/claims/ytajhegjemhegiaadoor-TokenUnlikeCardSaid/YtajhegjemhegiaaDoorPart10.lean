/-
  Texts of one claim, merged.
  TokenMath: Plain mathematics of chapter 12: letters, a dot, 43 letters. No program is run here.
  WireMath: Plain mathematics of chapter 5 over lists of numbers: a number's groups of seven bits, what stands next in some bytes, things one behind the other. No program, no conditions but those typed.
  WireState: Plain mathematics of chapter 5: what is read from some bytes, thing by thing, and what is put, thing by thing. No program, no conditions but those typed.
-/
import Derived.Test.YtajhegjemhegiaaDoorPart09
namespace TokenMath
open TextMath

theorem letter_dot (n : Nat) : letter n ≠ 46 := by
  unfold letter
  split
  · omega
  · split
    · omega
    · split
      · omega
      · split <;> omega
theorem enc_dot (l : List Nat) : ∀ c ∈ enc l, c ≠ 46 := by
  intro c hc
  unfold enc at hc
  obtain ⟨j, _, rfl⟩ := List.mem_map.1 hc
  exact letter_dot _
theorem bits_len : ∀ l : List Nat, (l.flatMap bits8).length = 8 * l.length
  | [] => rfl
  | b :: r => by
    rw [List.flatMap_cons, List.length_append, bits_len r, List.length_cons]
    show 8 + _ = _
    omega
theorem enc_len (l : List Nat) : (enc l).length = (8 * l.length + (6 - 8 * l.length % 6) % 6) / 6 := by
  unfold enc
  rw [List.length_map, List.length_range]
  unfold padTo6
  rw [List.length_append, List.length_replicate, bits_len]
theorem enc_tag {g : List Nat} (h : g.length = 32) : (enc g).length = 43 := by rw [enc_len, h]
/-- A text's letters, a dot, a tag's letters. -/
def tok (b g : List Nat) : List Nat := enc b ++ 46 :: enc g
theorem tok_len {b g : List Nat} (h : g.length = 32) : (tok b g).length = (enc b).length + 44 := by
  unfold tok
  rw [List.length_append, List.length_cons, enc_tag h]
/-- Where its one dot stands. -/
theorem tok_dot {b g : List Nat} {i : Nat} : (tok b g)[i]? = some 46 ↔ i = (enc b).length := by
  unfold tok
  constructor
  · intro h
    by_cases h1 : i < (enc b).length
    · rw [List.getElem?_append_left h1] at h
      exact absurd rfl (enc_dot b 46 (List.mem_of_getElem? h))
    · rw [List.getElem?_append_right (by omega)] at h
      cases hk : i - (enc b).length with
      | zero => omega
      | succ k =>
        rw [hk, List.getElem?_cons_succ] at h
        exact absurd rfl (enc_dot g 46 (List.mem_of_getElem? h))
  · rintro rfl
    rw [List.getElem?_append_right (Nat.le_refl _), Nat.sub_self]
    rfl
theorem tok_parts {b g b' g' : List Nat} (h : tok b g = tok b' g') : enc b = enc b' ∧ enc g = enc g' := by
  have h1 : (enc b).length = (enc b').length := tok_dot.1 (by rw [← h]; exact tok_dot.2 rfl)
  unfold tok at h
  obtain ⟨h2, h3⟩ := List.append_inj h h1
  exact ⟨h2, (List.cons.inj h3).2⟩
/-- What is cut off is no token. -/
theorem tok_cut {b g b' g' : List Nat} (hg : g.length = 32) (hg' : g'.length = 32) {i : Nat} (hi : i < (tok b g).length) (h : (tok b g).take i = tok b' g') : False := by
  have hl := congrArg List.length h
  rw [List.length_take, tok_len hg'] at hl
  rw [tok_len hg] at hi hl
  have h1 : (tok b g)[(enc b').length]? = some 46 := by
    have h2 : ((tok b g).take i)[(enc b').length]? = some 46 := by rw [h]; exact tok_dot.2 rfl
    rw [List.getElem?_take] at h2
    split at h2
    · exact h2
    · cases h2
  have h3 := tok_dot.1 h1
  omega
/-- What has more behind it is no token. -/
theorem tok_more {b g b' g' : List Nat} (hg : g.length = 32) (hg' : g'.length = 32) {c : Nat} (h : tok b g ++ [c] = tok b' g') : False := by
  have hl := congrArg List.length h
  rw [List.length_append, tok_len hg', tok_len hg] at hl
  have h1 : (tok b' g')[(enc b).length]? = some 46 := by
    rw [← h, List.getElem?_append_left (by rw [tok_len hg]; omega)]
    exact tok_dot.2 rfl
  have h3 := tok_dot.1 h1
  simp at hl
  omega
/-- The text ahead of its first dot. -/
theorem tok_ahead (b g : List Nat) : (tok b g).take (enc b).length = enc b := by
  unfold tok
  exact List.take_left' rfl
theorem tok_first {b g : List Nat} {i : Nat} (h : i < (enc b).length) : (tok b g)[i]? ≠ some 46 := fun h1 => by
  have := tok_dot.1 h1
  omega
theorem tok_count (b g : List Nat) : (tok b g).count 46 = 1 := by
  unfold tok
  rw [List.count_append, List.count_cons_self, List.count_eq_zero.2 (fun h => enc_dot b 46 h rfl), List.count_eq_zero.2 (fun h => enc_dot g 46 h rfl)]
end TokenMath
namespace WireMath

/-- A number's bytes; f: how many at most. -/
def numF : Nat → Nat → List Nat
  | 0, n => [n]
  | f + 1, n => if n < 128 then [n] else (n % 128 + 128) :: numF f (n / 128)
def num (n : Nat) : List Nat := numF 8 n

theorem numF_len_pos : ∀ f n, 0 < (numF f n).length
  | 0, _ => by simp [numF]
  | f + 1, n => by unfold numF; split <;> simp
theorem numF_len : ∀ f n, (numF f n).length ≤ f + 1
  | 0, _ => by simp [numF]
  | f + 1, n => by
    unfold numF
    split
    · simp
    · have := numF_len f (n / 128)
      simp only [List.length_cons]
      omega
theorem numF_lt : ∀ f n, n < 128 ^ (f + 1) → ∀ b ∈ numF f n, b < 256
  | 0, n, h, b, hb => by
    simp [numF] at hb
    simp at h
    omega
  | f + 1, n, h, b, hb => by
    unfold numF at hb
    split at hb
    · simp at hb; omega
    · rcases List.mem_cons.1 hb with rfl | hb
      · omega
      · exact numF_lt f (n / 128) (Nat.div_lt_of_lt_mul (by rw [Nat.pow_succ, Nat.mul_comm] at h; exact h)) b hb
theorem num_lt (n : Nat) (h : n < 9223372036854775808) : ∀ b ∈ num n, b < 256 := numF_lt 8 n h
theorem num_len (n : Nat) : (num n).length ≤ 9 := numF_len 8 n
theorem num_len_pos (n : Nat) : 0 < (num n).length := numF_len_pos 8 n
/-- More room changes nothing. -/
theorem numF_more : ∀ f n, n < 128 ^ (f + 1) → numF (f + 1) n = numF f n
  | 0, n, h => by
    simp at h
    simp [numF, h]
  | f + 1, n, h => by
    have h2 : n / 128 < 128 ^ (f + 1) := Nat.div_lt_of_lt_mul (by rw [Nat.pow_succ, Nat.mul_comm] at h; exact h)
    unfold numF
    split
    · rfl
    · rw [numF_more f _ h2]
theorem num_step (n : Nat) (h : 128 ≤ n) (h2 : n < 9223372036854775808) : num n = (n % 128 + 128) :: num (n / 128) := by
  unfold num
  rw [show (8 : Nat) = 7 + 1 from rfl]
  conv => lhs; unfold numF
  rw [if_neg (by omega), numF_more 7 (n / 128) (by show n / 128 < 128 ^ 8; omega)]
theorem num_small (n : Nat) (h : n < 128) : num n = [n] := by
  show numF (7 + 1) n = [n]
  unfold numF
  rw [if_pos h]

/-- The number that stands at the beginning, and of how many bytes; f: how many at most. -/
def rawF : Nat → List Nat → Option (Nat × Nat)
  | 0, _ => none
  | _ + 1, [] => none
  | f + 1, c :: r => if c < 128 then some (c, 1) else
    match rawF f r with
    | none => none
    | some (v, k) => if v = 0 then none else some (c - 128 + 128 * v, k + 1)
def top : Nat := 4611686018427387903
/-- The number that stands next, at most so great. -/
def next (l : List Nat) (most : Int) : Option (Nat × Nat) :=
  match rawF 9 l with
  | none => none
  | some (v, k) => if (v : Int) ≤ most ∧ v ≤ top then some (v, k) else none

/-- What a number is written as is read as it. -/
theorem rawF_num : ∀ (f n : Nat) (r : List Nat), n < 128 ^ (f + 1) → rawF (f + 1) (numF f n ++ r) = some (n, (numF f n).length)
  | 0, n, r, h => by
    simp at h
    simp [numF, rawF, h]
  | f + 1, n, r, h => by
    unfold numF
    split
    · rename_i h1
      simp [rawF, h1]
    · rename_i h1
      have h2 : n / 128 < 128 ^ (f + 1) := Nat.div_lt_of_lt_mul (by rw [Nat.pow_succ, Nat.mul_comm] at h; exact h)
      have ih := rawF_num f (n / 128) r h2
      rw [List.cons_append, rawF, if_neg (by omega), ih]
      simp only
      rw [if_neg (by omega)]
      simp only [List.length_cons, Option.some.injEq, Prod.mk.injEq, and_true]
      omega
/-- What is read as a number is what it is written as. -/
theorem rawF_says : ∀ (f : Nat) (l : List Nat) (v k : Nat), (∀ b ∈ l, b < 256) → rawF (f + 1) l = some (v, k) → v < 128 ^ (f + 1) ∧ k = (numF f v).length ∧ ∃ r, l = numF f v ++ r
  | _, [], _, _, _, h => by simp [rawF] at h
  | 0, c :: r, v, k, _, h => by
    unfold rawF at h
    split at h
    · rename_i h1
      simp only [Option.some.injEq, Prod.mk.injEq] at h
      obtain ⟨rfl, rfl⟩ := h
      exact ⟨by simpa using h1, rfl, r, rfl⟩
    · simp [rawF] at h
  | f + 1, c :: r, v, k, hl, h => by
    unfold rawF at h
    split at h
    · rename_i h1
      simp only [Option.some.injEq, Prod.mk.injEq] at h
      obtain ⟨rfl, rfl⟩ := h
      refine ⟨?_, ?_, r, ?_⟩
      · have : 128 ≤ 128 ^ (f + 1 + 1) := by rw [Nat.pow_succ]; have := Nat.pow_pos (n := f + 1) (show 0 < 128 by omega); omega
        omega
      · unfold numF; rw [if_pos h1]; rfl
      · unfold numF; rw [if_pos h1]; rfl
    · rename_i h1
      cases hr : rawF (f + 1) r with
      | none => rw [hr] at h; simp at h
      | some p =>
        obtain ⟨v2, k2⟩ := p
        rw [hr] at h
        simp only at h
        split at h
        · cases h
        · rename_i h3
          simp only [Option.some.injEq, Prod.mk.injEq] at h
          obtain ⟨rfl, rfl⟩ := h
          obtain ⟨e1, e2, r2, e3⟩ := rawF_says f r v2 k2 (fun b hb => hl b (List.mem_cons_of_mem _ hb)) hr
          have hc : c < 256 := hl c (List.mem_cons_self ..)
          have hd : (c - 128 + 128 * v2) / 128 = v2 := by omega
          have hm : (c - 128 + 128 * v2) % 128 + 128 = c := by omega
          refine ⟨?_, ?_, r2, ?_⟩
          · rw [Nat.pow_succ]; omega
          · rw [numF, if_neg (by omega), hd, e2]; rfl
          · rw [numF, if_neg (by omega), hd, hm, List.cons_append, ← e3]
theorem next_num (n : Nat) (r : List Nat) (most : Int) (h1 : (n : Int) ≤ most) (h2 : n ≤ top) : next (num n ++ r) most = some (n, (num n).length) := by
  unfold next num
  rw [rawF_num 8 n r (by unfold top at h2; show n < 128 ^ 9; omega)]
  simp only
  rw [if_pos ⟨h1, h2⟩]
theorem next_says {l : List Nat} {most : Int} {v k : Nat} (hl : ∀ b ∈ l, b < 256) (h : next l most = some (v, k)) : (v : Int) ≤ most ∧ v ≤ top ∧ k = (num v).length ∧ ∃ r, l = num v ++ r := by
  unfold next at h
  cases hr : rawF 9 l with
  | none => rw [hr] at h; cases h
  | some p =>
    obtain ⟨v2, k2⟩ := p
    rw [hr] at h
    simp only at h
    split at h
    · rename_i h3
      simp only [Option.some.injEq, Prod.mk.injEq] at h
      obtain ⟨rfl, rfl⟩ := h
      obtain ⟨_, e2, e3⟩ := rawF_says 8 l v2 k2 hl hr
      exact ⟨h3.1, h3.2, e2, e3⟩
    · cases h
/-- A number that is cut is none. -/
theorem rawF_cut : ∀ (f n j : Nat), n < 128 ^ (f + 1) → j < (numF f n).length → rawF (f + 1) ((numF f n).take j) = none
  | 0, n, j, _, hj => by
    simp [numF] at hj
    subst hj
    rfl
  | f + 1, n, j, h, hj => by
    unfold numF at hj ⊢
    cases j with
    | zero => rfl
    | succ j =>
      split at hj
      · simp at hj
      · rename_i h1
        rw [if_neg h1]
        have h2 : n / 128 < 128 ^ (f + 1) := Nat.div_lt_of_lt_mul (by rw [Nat.pow_succ, Nat.mul_comm] at h; exact h)
        rw [List.take_succ_cons, rawF, if_neg (by omega), rawF_cut f (n / 128) j h2 (by simpa using hj)]
end WireMath
namespace WireMath

/-- Where a reader stands, and where its fault is. -/
structure At where
  at_ : Nat
  bad : Option Nat
def readNum (l : List Nat) (st : At) (most : Int) : Nat × At :=
  match st.bad with
  | some _ => (0, st)
  | none => match next (l.drop st.at_) most with
    | some (v, k) => (v, ⟨st.at_ + k, none⟩)
    | none => (0, ⟨st.at_, some st.at_⟩)
def readText (l : List Nat) (st : At) (most : Int) : List Nat × At :=
  match st.bad with
  | some _ => ([], st)
  | none => match (readNum l st most).2.bad with
    | some _ => ([], ⟨st.at_, some st.at_⟩)
    | none => if l.length < (readNum l st most).2.at_ + (readNum l st most).1 then ([], ⟨st.at_, some st.at_⟩)
      else ((l.drop (readNum l st most).2.at_).take (readNum l st most).1, ⟨(readNum l st most).2.at_ + (readNum l st most).1, none⟩)
def readFlag (l : List Nat) (st : At) : Bool × At := (decide ((readNum l st 1).1 = 1), (readNum l st 1).2)
def big : Nat := 1099511627776
/-- So many counts. -/
def readCounts (l : List Nat) : Nat → At → List Nat × At
  | 0, st => ([], st)
  | n + 1, st => ((readNum l st big).1 :: (readCounts l n (readNum l st big).2).1, (readCounts l n (readNum l st big).2).2)
/-- May a vector be? -/
def trimmed (v : List Int) (most : Int) : Bool := decide (v.length ≤ 16) && v.all (fun n => decide (0 ≤ n) && decide (n ≤ most)) && !(v.getLast? == some 0)
def readVec (l : List Nat) (st : At) : List Nat × At :=
  match st.bad with
  | some _ => ([], st)
  | none => match (readCounts l (readNum l st 16).1 (readNum l st 16).2).2.bad with
    | some _ => ([], ⟨st.at_, some st.at_⟩)
    | none => if trimmed ((readCounts l (readNum l st 16).1 (readNum l st 16).2).1.map Int.ofNat) big then readCounts l (readNum l st 16).1 (readNum l st 16).2
      else ([], ⟨st.at_, some st.at_⟩)
/-- Where the fault is, if it isn't read to its end. -/
def faultAt (l : List Nat) (st : At) : Option Nat :=
  match st.bad with
  | some b => some b
  | none => if st.at_ < l.length then some st.at_ else none

/-- A thing: k 0 a number, 1 a text, 2 a flag, 3 a vector. -/
structure Thing where
  k : Int
  n : Int
  s : List Nat
  b : Bool
  v : List Int
def vecBytes (v : List Int) : List Nat := num v.length ++ v.flatMap fun n => num n.toNat
def bytes (x : Thing) : Option (List Nat) :=
  if x.k = 1 then some (num x.s.length ++ x.s)
  else if x.k = 2 then some (num (if x.b then 1 else 0))
  else if x.k = 3 then if trimmed x.v top then some (vecBytes x.v) else none
  else if 0 ≤ x.n ∧ x.n ≤ top then some (num x.n.toNat) else none
/-- What has been put: the bytes, or the first fault with its place. -/
structure Put where
  out : List Nat
  bad : Option (Nat × Nat)
def put (p : Put) (x : Thing) : Put :=
  match p.bad with
  | some _ => p
  | none => match bytes x with
    | none => ⟨p.out, some (1, p.out.length)⟩
    | some b => if 65536 < p.out.length + b.length then ⟨p.out, some (3, p.out.length)⟩ else ⟨p.out ++ b, none⟩
def written (l : List Thing) : Put := l.foldl put ⟨[], none⟩

theorem put_stays (p : Put) (q : Nat × Nat) (h : p.bad = some q) : ∀ l : List Thing, l.foldl put p = p
  | [] => rfl
  | x :: r => by
    have : put p x = p := by unfold put; rw [h]
    rw [List.foldl_cons, this, put_stays p q h r]

/-- What k groups, of value n, and what is read behind them come to. -/
def comb (k n : Nat) : Option (Nat × Nat) → Option (Nat × Nat)
  | none => none
  | some (v, j) => if 0 < k ∧ v = 0 then none else some (n + 128 ^ k * v, k + j)
theorem comb_zero (x : Option (Nat × Nat)) : comb 0 0 x = x := by
  cases x with
  | none => rfl
  | some p => simp [comb]
theorem comb_go {l : List Nat} {k n c : Nat} (hk : k < 9) (hc : l[k]? = some c) (h : 128 ≤ c) (h2 : c < 256) :
    comb k n (rawF (9 - k) (l.drop k)) = comb (k + 1) (n + c % 128 * 128 ^ k) (rawF (9 - (k + 1)) (l.drop (k + 1))) := by
  have hlt : k < l.length := by
    rcases Nat.lt_or_ge k l.length with h | h
    · exact h
    · rw [List.getElem?_eq_none h] at hc; cases hc
  have hd : l.drop k = c :: l.drop (k + 1) := by
    rw [List.drop_eq_getElem_cons hlt]
    rw [List.getElem?_eq_getElem hlt] at hc
    rw [Option.some.inj hc]
  rw [hd, show 9 - k = (9 - (k + 1)) + 1 by omega, rawF, if_neg (by omega)]
  cases rawF (9 - (k + 1)) (l.drop (k + 1)) with
  | none => rfl
  | some p =>
    obtain ⟨v, j⟩ := p
    simp only
    by_cases hv : v = 0
    · rw [if_pos hv]
      simp [comb, hv]
    · rw [if_neg hv]
      unfold comb
      simp only
      rw [if_neg (by omega), if_neg (by omega)]
      have e : c % 128 = c - 128 := by omega
      rw [e, Nat.pow_succ, Nat.mul_add, Nat.add_assoc, Nat.mul_comm (c - 128), Nat.mul_assoc]
      congr 2
      omega
theorem comb_end {l : List Nat} {k n c : Nat} (hk : k < 9) (hc : l[k]? = some c) (h : c < 128) :
    comb k n (rawF (9 - k) (l.drop k)) = if 0 < k ∧ c = 0 then none else some (n + c % 128 * 128 ^ k, k + 1) := by
  have hlt : k < l.length := by
    rcases Nat.lt_or_ge k l.length with h | h
    · exact h
    · rw [List.getElem?_eq_none h] at hc; cases hc
  have hd : l.drop k = c :: l.drop (k + 1) := by
    rw [List.drop_eq_getElem_cons hlt]
    rw [List.getElem?_eq_getElem hlt] at hc
    rw [Option.some.inj hc]
  rw [hd, show 9 - k = (9 - (k + 1)) + 1 by omega, rawF, if_pos h]
  unfold comb
  simp only
  rw [Nat.mod_eq_of_lt h, Nat.mul_comm]
theorem comb_none {l : List Nat} {k n : Nat} (h : 9 ≤ k ∨ l.length ≤ k) : comb k n (rawF (9 - k) (l.drop k)) = none := by
  rcases h with h | h
  · rw [show 9 - k = 0 by omega]
    rfl
  · rw [List.drop_of_length_le h]
    cases 9 - k <;> rfl
theorem readNum_ok {l : List Nat} {a v k : Nat} {most : Int} (h : rawF 9 (l.drop a) = some (v, k)) (h1 : (v : Int) ≤ most) (h2 : v ≤ top) : readNum l ⟨a, none⟩ most = (v, ⟨a + k, none⟩) := by
  unfold readNum next
  simp only [h]
  rw [if_pos ⟨h1, h2⟩]
theorem readNum_none {l : List Nat} {a : Nat} {most : Int} (h : rawF 9 (l.drop a) = none) : readNum l ⟨a, none⟩ most = (0, ⟨a, some a⟩) := by
  unfold readNum next
  simp only [h]
theorem readNum_big {l : List Nat} {a v k : Nat} {most : Int} (h : rawF 9 (l.drop a) = some (v, k)) (h1 : ¬ ((v : Int) ≤ most ∧ v ≤ top)) : readNum l ⟨a, none⟩ most = (0, ⟨a, some a⟩) := by
  unfold readNum next
  simp only [h]
  rw [if_neg h1]
/-- A number that is read, or a fault. -/
theorem readNum_cases (l : List Nat) (a : Nat) (most : Int) (hl : ∀ b ∈ l, b < 256) (ha : a ≤ l.length) :
    (∃ v k, readNum l ⟨a, none⟩ most = (v, ⟨a + k, none⟩) ∧ a + k ≤ l.length ∧ v ≤ top ∧ (v : Int) ≤ most) ∨ readNum l ⟨a, none⟩ most = (0, ⟨a, some a⟩) := by
  cases h : next (l.drop a) most with
  | none =>
    right
    unfold readNum
    simp only [h]
  | some p =>
    obtain ⟨v, k⟩ := p
    left
    obtain ⟨h1, h2, h3, r, h4⟩ := next_says (fun b hb => hl b (List.mem_of_mem_drop hb)) h
    have h5 := congrArg List.length h4
    rw [List.length_drop, List.length_append] at h5
    refine ⟨v, k, ?_, by omega, h2, h1⟩
    unfold readNum
    simp only [h]
theorem trimmed_long {v : List Int} {most : Int} (h : 16 < v.length) : trimmed v most = false := by
  unfold trimmed
  rw [decide_eq_false (by omega), Bool.false_and, Bool.false_and]
theorem trimmed_bad {v : List Int} {most z : Int} {i : Nat} (hz : v[i]? = some z) (h : z < 0 ∨ most < z ∨ (i + 1 = v.length ∧ z = 0)) : trimmed v most = false := by
  unfold trimmed
  rcases h with h | h | ⟨h, h0⟩
  · have : v.all (fun n => decide (0 ≤ n) && decide (n ≤ most)) = false := by
      rw [Bool.eq_false_iff]
      intro ha
      rw [List.all_eq_true] at ha
      have := ha z (List.mem_of_getElem? hz)
      simp at this
      omega
    rw [this, Bool.and_false, Bool.false_and]
  · have : v.all (fun n => decide (0 ≤ n) && decide (n ≤ most)) = false := by
      rw [Bool.eq_false_iff]
      intro ha
      rw [List.all_eq_true] at ha
      have := ha z (List.mem_of_getElem? hz)
      simp at this
      omega
    rw [this, Bool.and_false, Bool.false_and]
  · have : (v.getLast? == some 0) = true := by
      rw [List.getLast?_eq_getElem?, show v.length - 1 = i by omega, hz, h0]
      rfl
    rw [this, Bool.not_true, Bool.and_false]
theorem trimmed_ok {v : List Int} {most : Int} (hl : v.length ≤ 16) (h : ∀ (i : Nat) (z : Int), v[i]? = some z → 0 ≤ z ∧ z ≤ most ∧ ¬ (i + 1 = v.length ∧ z = 0)) : trimmed v most = true := by
  unfold trimmed
  rw [decide_eq_true hl, Bool.true_and, Bool.and_eq_true]
  constructor
  · rw [List.all_eq_true]
    intro z hz
    obtain ⟨i, hi⟩ := List.getElem?_of_mem hz
    have := h i z hi
    simp
    omega
  · rw [Bool.not_eq_true']
    cases hv : v.getLast? with
    | none => rfl
    | some z =>
      rw [List.getLast?_eq_getElem?] at hv
      have hlt : v.length - 1 < v.length := by
        rcases Nat.lt_or_ge (v.length - 1) v.length with h1 | h1
        · exact h1
        · rw [List.getElem?_eq_none h1] at hv; cases hv
      have := h _ z hv
      have hz : z ≠ 0 := fun h0 => this.2.2 ⟨by omega, h0⟩
      simpa using hz
/-- A reader stays within its text. -/
theorem readNum_le (l : List Nat) (st : At) (most : Int) (hl : ∀ b ∈ l, b < 256) (ha : st.at_ ≤ l.length) : (readNum l st most).2.at_ ≤ l.length := by
  obtain ⟨a, bad⟩ := st
  cases bad with
  | some b => exact ha
  | none =>
    rcases readNum_cases l a most hl ha with ⟨v, k, h, hk, _⟩ | h
    · rw [h]; exact hk
    · rw [h]; exact ha
theorem readCounts_step (l : List Nat) (n : Nat) (st : At) : readCounts l (n + 1) st = ((readNum l st big).1 :: (readCounts l n (readNum l st big).2).1, (readCounts l n (readNum l st big).2).2) := rfl
theorem readCounts_len (l : List Nat) : ∀ (n : Nat) (st : At), (readCounts l n st).1.length = n
  | 0, _ => rfl
  | n + 1, st => by rw [readCounts_step]; simp [readCounts_len l n]
theorem readNum_top (l : List Nat) (st : At) (most : Int) (hm : 0 ≤ most) (hl : ∀ b ∈ l, b < 256) (ha : st.at_ ≤ l.length) : ((readNum l st most).1 : Int) ≤ most ∧ (readNum l st most).1 ≤ top := by
  obtain ⟨a, bad⟩ := st
  cases bad with
  | some b => exact ⟨hm, Nat.zero_le _⟩
  | none =>
    rcases readNum_cases l a most hl ha with ⟨v, k, h, hk, h1, h2⟩ | h
    · rw [h]; exact ⟨h2, h1⟩
    · rw [h]; exact ⟨hm, Nat.zero_le _⟩
end WireMath
