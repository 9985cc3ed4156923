/-
  Texts of one claim, merged.
  TextMath: Plain mathematics of chapter 4 over lists of numbers: letters by bits, and back; cookie octets, tokens, blanks around. No program, no conditions but those typed.
  BakeMath: Plain mathematics of chapter 14 over lists of numbers: headers, and how a client takes them. No program is run here.
-/

namespace TextMath

def letter (n : Nat) : Nat := if n < 26 then 65 + n else if n < 52 then 71 + n else if n < 62 then n - 4 else if n = 62 then 45 else 95
/-- The number of a letter; 64: it is none. -/
def number (c : Nat) : Nat := ((List.range 64).find? fun n => letter n == c).getD 64

theorem letter_lt (n : Nat) (h : n < 64) : letter n < 256 := by
  unfold letter
  repeat' split
  all_goals omega
theorem letter_inj_table : ((List.range 64).all fun m => (List.range 64).all fun n => !(letter m == letter n) || m == n) = true := by decide
theorem letter_inj {m n : Nat} (hm : m < 64) (hn : n < 64) (h : letter m = letter n) : m = n := by
  have h1 := letter_inj_table
  rw [List.all_eq_true] at h1
  have h2 := h1 m (List.mem_range.2 hm)
  rw [List.all_eq_true] at h2
  have h3 := h2 n (List.mem_range.2 hn)
  simp [h] at h3
  exact h3
theorem number_of {n c : Nat} (hn : n < 64) (h : letter n = c) : number c = n := by
  unfold number
  have hf : (List.range 64).find? (fun n => letter n == c) = some n := by
    rw [List.find?_range_eq_some]
    refine ⟨by simp [h], by simp [hn], fun j hj => ?_⟩
    have : letter j ≠ c := fun e => by
      have := letter_inj (by omega) hn (e.trans h.symm)
      omega
    simp [this]
  rw [hf]
  rfl
theorem number_none {c : Nat} (h : ∀ n, n < 64 → letter n ≠ c) : number c = 64 := by
  unfold number
  rw [List.find?_eq_none.2]
  · rfl
  · intro n hn
    have := h n (List.mem_range.1 hn)
    simpa using this
theorem number_le (c : Nat) : number c ≤ 64 := by
  unfold number
  cases h : (List.range 64).find? fun n => letter n == c with
  | none => exact Nat.le_refl _
  | some n =>
    have := List.mem_range.1 (List.mem_of_find?_eq_some h)
    simp
    omega
theorem letter_number {c : Nat} (h : number c < 64) : letter (number c) = c := by
  unfold number at h ⊢
  cases hq : (List.range 64).find? fun n => letter n == c with
  | none => rw [hq] at h; exact absurd h (by decide)
  | some n => simpa using List.find?_some hq

/-- The bits of a number below 256, the highest first; of one below 64. -/
def bits8 (b : Nat) : List Nat := [b / 128 % 2, b / 64 % 2, b / 32 % 2, b / 16 % 2, b / 8 % 2, b / 4 % 2, b / 2 % 2, b % 2]
def bits6 (n : Nat) : List Nat := [n / 32 % 2, n / 16 % 2, n / 8 % 2, n / 4 % 2, n / 2 % 2, n % 2]
def num (l : List Nat) : Nat := l.foldl (fun n b => n * 2 + b) 0
def padTo6 (m : List Nat) : List Nat := m ++ List.replicate ((6 - m.length % 6) % 6) 0
/-- Group j of so many bits. -/
def group (m : List Nat) (k j : Nat) : List Nat := (m.drop (k * j)).take k
def enc (l : List Nat) : List Nat := (List.range ((padTo6 (l.flatMap bits8)).length / 6)).map fun j => letter (num (group (padTo6 (l.flatMap bits8)) 6 j))

/-- The bytes of some letters' bits. -/
def decBits (l : List Nat) : List Nat := l.flatMap fun c => bits6 (number c)
def decBytes (l : List Nat) : List Nat := (List.range ((decBits l).length / 8)).map fun j => num (group (decBits l) 8 j)
/-- The place of the first letter that can't be; none: there is none such. -/
def fault (l : List Nat) : Option Nat :=
  match l.findIdx? (fun c => number c == 64) with
  | some i => some i
  | none => if l.length % 4 = 1 then some l.length else if ((decBits l).drop (8 * ((decBits l).length / 8))).any (· != 0) then some (l.length - 1) else none

def octet (c : Nat) : Bool := c == 33 || (decide (35 ≤ c) && decide (c ≤ 43)) || (decide (45 ≤ c) && decide (c ≤ 58)) || (decide (60 ≤ c) && decide (c ≤ 91)) || (decide (93 ≤ c) && decide (c ≤ 126))
def signs : List Nat := [33, 35, 36, 37, 38, 39, 42, 43, 45, 46, 94, 95, 96, 124, 126]
def tokenOctet (c : Nat) : Bool := (decide (97 ≤ c) && decide (c ≤ 122)) || (decide (65 ≤ c) && decide (c ≤ 90)) || (decide (48 ≤ c) && decide (c ≤ 57)) || signs.contains c
def token (l : List Nat) : Bool := l.all tokenOctet && !l.isEmpty
def blank (c : Nat) : Bool := c == 32 || c == 9
def trimLeft (l : List Nat) : List Nat := l.dropWhile blank
def trim (l : List Nat) : List Nat := ((l.dropWhile blank).reverse.dropWhile blank).reverse
end TextMath
namespace BakeMath
open TextMath

/-- What a client is given. -/
structure CookieT where
  name : List Nat
  value : List Nat
  path : List Nat
  age : Int
  sec : Bool
  http : Bool
  site : Int
deriving DecidableEq
/-- A text up to a byte's first place, and behind it; false: it doesn't stand there. -/
def cutAt (c : Nat) : List Nat → List Nat × List Nat × Bool
  | [] => ([], [], false)
  | b :: r => if b = c then ([], r, true) else (b :: (cutAt c r).1, (cutAt c r).2.1, (cutAt c r).2.2)
def lower (b : Nat) : Nat := if 65 ≤ b ∧ b ≤ 90 then b + 32 else b
def small (l : List Nat) : List Nat := l.map lower
def digit (b : Nat) : Bool := decide (48 ≤ b) && decide (b ≤ 57)
def top : Nat := 1099511627776
def val (l : List Nat) : Nat := l.foldl (fun n b => 10 * n + (b - 48)) 0
/-- An attribute's number; -1: none. -/
def numberF (l : List Nat) : Int :=
  let below := l.head? == some 45
  let d := if below then l.tail else l
  if d.isEmpty || !d.all digit then -1 else if below then 0 else ((min (val d) top : Nat) : Int)
def kPath : List Nat := [112, 97, 116, 104]
def kAge : List Nat := [109, 97, 120, 45, 97, 103, 101]
def kSec : List Nat := [115, 101, 99, 117, 114, 101]
def kHttp : List Nat := [104, 116, 116, 112, 111, 110, 108, 121]
def kSite : List Nat := [115, 97, 109, 101, 115, 105, 116, 101]
def vStrict : List Nat := [115, 116, 114, 105, 99, 116]
def vLax : List Nat := [108, 97, 120]
def vNone : List Nat := [110, 111, 110, 101]
def siteOf (v : List Nat) : Int := if small v = vStrict then 1 else if small v = vLax then 2 else if small v = vNone then 3 else 0
/-- What an attribute of this name (in small letters) and this value tells. -/
def tell (k v : List Nat) (c : CookieT) : CookieT :=
  if k = kPath then { c with path := if v.head? = some 47 then v else [] }
  else if k = kAge then { c with age := if 0 ≤ numberF v then numberF v else c.age }
  else if k = kSec then { c with sec := true }
  else if k = kHttp then { c with http := true }
  else if k = kSite then { c with site := siteOf v }
  else c
/-- An attribute's name and value. -/
def keyOf (a : List Nat) : List Nat := small (trim (cutAt 61 a).1)
def valOf (a : List Nat) : List Nat := trim (cutAt 61 a).2.1
def step (c : CookieT) (a : List Nat) : CookieT := tell (keyOf a) (valOf a) c
/-- The parts of a text between semicolons. -/
def parts : List Nat → List (List Nat)
  | [] => [[]]
  | b :: r => if b = 59 then [] :: parts r else match parts r with
    | p :: ps => (b :: p) :: ps
    | [] => [[b]]
/-- The attributes behind the first semicolon. -/
def attrs (l : List Nat) : List (List Nat) := if (cutAt 59 l).2.2 then parts (cutAt 59 l).2.1 else []
/-- What stands ahead of them tells the name and the value. -/
def first (l : List Nat) : Option CookieT :=
  let q := cutAt 61 (cutAt 59 l).1
  if q.2.2 = false ∨ trim q.1 = [] then none else some ⟨trim q.1, trim q.2.1, [], -1, false, false, 0⟩
/-- The cookie that a client takes. -/
def parseF (l : List Nat) : Option CookieT := (first l).map fun c => (attrs l).foldl step c

/-! Texts and their parts. -/
theorem cutAt_none {c : Nat} : ∀ {l : List Nat}, c ∉ l → cutAt c l = (l, [], false)
  | [], _ => rfl
  | b :: r, h => by
    simp only [List.mem_cons, not_or] at h
    rw [cutAt, if_neg (fun e => h.1 e.symm), cutAt_none h.2]
theorem cutAt_some {c : Nat} : ∀ {l : List Nat} (t : List Nat), c ∉ l → cutAt c (l ++ c :: t) = (l, t, true)
  | [], t, _ => by simp [cutAt]
  | b :: r, t, h => by
    simp only [List.mem_cons, not_or] at h
    rw [List.cons_append, cutAt, if_neg (fun e => h.1 e.symm), cutAt_some t h.2]
theorem cutAt_more {c : Nat} : ∀ (l t : List Nat), cutAt c (l ++ c :: t) = ((cutAt c l).1, if (cutAt c l).2.2 then (cutAt c l).2.1 ++ c :: t else t, true)
  | [], t => by simp [cutAt]
  | b :: r, t => by
    by_cases h : b = c
    · subst h
      simp [cutAt]
    · rw [List.cons_append, cutAt, if_neg h, cutAt_more r t, cutAt, if_neg h]
theorem parts_ne : ∀ l : List Nat, parts l ≠ []
  | [] => by simp [parts]
  | b :: r => by
    unfold parts
    split
    · simp
    · split <;> simp
theorem parts_one : ∀ {l : List Nat}, 59 ∉ l → parts l = [l]
  | [], _ => rfl
  | b :: r, h => by
    simp only [List.mem_cons, not_or] at h
    rw [parts, if_neg (fun e => h.1 e.symm), parts_one h.2]
theorem parts_more : ∀ (l t : List Nat), parts (l ++ 59 :: t) = parts l ++ parts t
  | [], t => by simp [parts]
  | b :: r, t => by
    rw [List.cons_append]
    by_cases h : b = 59
    · rw [parts, if_pos h, parts_more r t, parts, if_pos h]
      rfl
    · rw [parts, if_neg h, parts_more r t, parts, if_neg h]
      cases hp : parts r with
      | nil => exact absurd hp (parts_ne r)
      | cons p ps => rfl
/-- The parts: the one ahead of the first semicolon, then those behind it. -/
theorem parts_cut : ∀ l : List Nat, parts l = (cutAt 59 l).1 :: attrs l
  | [] => rfl
  | b :: r => by
    have h := parts_cut r
    by_cases hb : b = 59
    · subst hb
      simp [parts, cutAt, attrs]
    · rw [parts, if_neg hb, h]
      simp only [attrs, cutAt, if_neg hb]
theorem attrs_more (l t : List Nat) : attrs (l ++ 59 :: t) = attrs l ++ parts t := by
  have h := parts_more l t
  rw [parts_cut, parts_cut l, cutAt_more] at h
  exact (List.cons.inj h).2
theorem first_more (l t : List Nat) : first (l ++ 59 :: t) = first l := by
  unfold first
  rw [cutAt_more]
theorem parseF_more (l t : List Nat) : parseF (l ++ 59 :: t) = (parseF l).map fun c => (parts t).foldl step c := by
  unfold parseF
  rw [first_more, attrs_more]
  cases first l with
  | none => rfl
  | some c => simp [List.foldl_append]

/-! Numbers. -/
def decF : Nat → Nat → List Nat
  | 0, n => [48 + n % 10]
  | f + 1, n => if n < 10 then [48 + n] else decF f (n / 10) ++ [48 + n % 10]
/-- A number's digits. -/
def dec (n : Nat) : List Nat := decF 20 n
theorem val_snoc (l : List Nat) (d : Nat) : val (l ++ [d]) = 10 * val l + (d - 48) := by
  unfold val
  rw [List.foldl_append]
  rfl
theorem decF_val : ∀ (f n : Nat), n < 10 ^ (f + 1) → val (decF f n) = n ∧ (decF f n).all digit = true ∧ decF f n ≠ []
  | 0, n, h => by
    have : n < 10 := by simpa using h
    unfold decF
    refine ⟨?_, ?_, by simp⟩
    · show 10 * 0 + (48 + n % 10 - 48) = n; omega
    · simp [digit]; omega
  | f + 1, n, h => by
    unfold decF
    by_cases hn : n < 10
    · rw [if_pos hn]
      refine ⟨?_, ?_, by simp⟩
      · show 10 * 0 + (48 + n - 48) = n; omega
      · simp [digit]; omega
    · rw [if_neg hn]
      obtain ⟨h1, h2, h3⟩ := decF_val f (n / 10) (by rw [Nat.pow_succ] at h; omega)
      refine ⟨by rw [val_snoc, h1]; omega, ?_, by simp⟩
      rw [List.all_append, h2]
      simp [digit]
      omega
theorem dec_val {n : Nat} (h : n < 10 ^ 21) : val (dec n) = n ∧ (dec n).all digit = true ∧ dec n ≠ [] := decF_val 20 n h
theorem head_digit {l : List Nat} (h : l.all digit = true) : (l.head? == some 45) = false := by
  cases l with
  | nil => rfl
  | cons a r =>
    simp only [List.all_cons, Bool.and_eq_true, digit, decide_eq_true_eq] at h
    simp
    omega
theorem number_dec {n : Nat} (h : n ≤ top) : numberF (dec n) = (n : Int) := by
  obtain ⟨h1, h2, h3⟩ := dec_val (n := n) (by unfold top at h; omega)
  have he : (dec n).isEmpty = false := by
    cases he : (dec n).isEmpty with
    | true => exact absurd (by simpa using he) h3
    | false => rfl
  unfold numberF
  rw [head_digit h2]
  show (if ((dec n).isEmpty || !(dec n).all digit) = true then (-1 : Int) else ((min (val (dec n)) top : Nat) : Int)) = n
  rw [h1, h2, he, Nat.min_eq_left h]
  rfl

/-! Headers. -/
/-- Is a path right? -/
def rightPath (l : List Nat) : Bool :=
  l.isEmpty || (l.head? == some 47 && l.all (fun b => decide (32 ≤ b) && decide (b ≤ 126) && b != 59) && l[1]? != some 32 && l.getLast? != some 32)
/-- Is a cookie right? -/
def rightT (c : CookieT) : Bool := token c.name && c.value.all octet && decide (-1 ≤ c.age) && decide (c.age ≤ 1099511627776) && decide (0 ≤ c.site) && decide (c.site ≤ 3) && !(c.site == 3 && !c.sec) && rightPath c.path
def aPath (c : CookieT) : List (List Nat) := if c.path = [] then [] else [[32, 80, 97, 116, 104, 61] ++ c.path]
def aAge (c : CookieT) : List (List Nat) := if 0 ≤ c.age then [[32, 77, 97, 120, 45, 65, 103, 101, 61] ++ dec c.age.toNat] else []
def aSec (c : CookieT) : List (List Nat) := if c.sec then [[32, 83, 101, 99, 117, 114, 101]] else []
def aHttp (c : CookieT) : List (List Nat) := if c.http then [[32, 72, 116, 116, 112, 79, 110, 108, 121]] else []
def aSite (c : CookieT) : List (List Nat) :=
  if c.site = 1 then [[32, 83, 97, 109, 101, 83, 105, 116, 101, 61, 83, 116, 114, 105, 99, 116]]
  else if c.site = 2 then [[32, 83, 97, 109, 101, 83, 105, 116, 101, 61, 76, 97, 120]]
  else if c.site = 3 then [[32, 83, 97, 109, 101, 83, 105, 116, 101, 61, 78, 111, 110, 101]] else []
def attrsOf (c : CookieT) : List (List Nat) := aPath c ++ aAge c ++ aSec c ++ aHttp c ++ aSite c
/-- A right cookie's header. -/
def header (c : CookieT) : List Nat := c.name ++ 61 :: c.value ++ (attrsOf c).flatMap fun a => 59 :: a
theorem parts_join : ∀ (a : List Nat) (as : List (List Nat)), 59 ∉ a → (∀ x ∈ as, 59 ∉ x) → parts (a ++ as.flatMap fun x => 59 :: x) = a :: as
  | a, [], h, _ => by rw [List.flatMap_nil, List.append_nil, parts_one h]
  | a, b :: as, h, hs => by
    rw [List.flatMap_cons, List.cons_append, parts_more, parts_one h, parts_join b as (hs b (by simp)) (fun x hx => hs x (by simp [hx]))]
    rfl
theorem drop_front {p : Nat → Bool} : ∀ {X : List Nat}, (∀ z, X.head? = some z → p z = false) → X.dropWhile p = X
  | [], _ => rfl
  | a :: r, h => by rw [List.dropWhile_cons, if_neg (by rw [h a rfl]; decide)]
/-- No blank at either end: nothing to trim. -/
theorem trim_id {l : List Nat} (h1 : ∀ z, l.head? = some z → blank z = false) (h2 : ∀ z, l.getLast? = some z → blank z = false) : trim l = l := by
  unfold trim
  rw [drop_front h1, drop_front (by rw [List.head?_reverse]; exact h2), List.reverse_reverse]
theorem trim_all {l : List Nat} (h : ∀ b ∈ l, blank b = false) : trim l = l := trim_id (fun z hz => h z (List.mem_of_mem_head? hz)) (fun z hz => h z (List.mem_of_mem_getLast? hz))
theorem trim_space (l : List Nat) : trim (32 :: l) = trim l := by
  unfold trim
  rw [List.dropWhile_cons, if_pos (by decide)]
theorem drop_nil {p : Nat → Bool} : ∀ {l : List Nat}, (∀ b ∈ l, p b = true) → l.dropWhile p = []
  | [], _ => rfl
  | a :: r, h => by rw [List.dropWhile_cons, if_pos (h a (by simp))]; exact drop_nil fun b hb => h b (by simp [hb])
theorem nil_drop {p : Nat → Bool} : ∀ {l : List Nat}, l.dropWhile p = [] → ∀ b ∈ l, p b = true
  | [], _, b, hb => by cases hb
  | a :: r, h, b, hb => by
    rw [List.dropWhile_cons] at h
    split at h
    · rename_i ha
      rcases List.mem_cons.1 hb with rfl | hb
      · exact ha
      · exact nil_drop h b hb
    · cases h
theorem trim_back (l : List Nat) : trim (l ++ [32]) = trim l := by
  unfold trim
  by_cases h : ∀ b ∈ l, blank b = true
  · rw [List.dropWhile_append_of_pos h]
    rw [drop_nil h]
    rfl
  · have hl : l.dropWhile blank ≠ [] := fun e => h (nil_drop e)
    rw [List.dropWhile_append]
    rw [if_neg (by simpa using hl)]
    rw [List.reverse_append]
    rfl
/-! What is written is taken as it was. -/
theorem key_eq {k v : List Nat} (h : 61 ∉ k) : cutAt 61 (k ++ 61 :: v) = (k, v, true) := cutAt_some v h
theorem head_last {l : List Nat} (h : l.all (fun b => !blank b) = true) : trim l = l := trim_all fun b hb => by simpa using List.all_eq_true.1 h b hb
theorem path_trim {l : List Nat} (h : rightPath l = true) : trim l = l := by
  unfold rightPath at h
  simp only [Bool.or_eq_true, Bool.and_eq_true, List.isEmpty_iff] at h
  rcases h with rfl | ⟨⟨⟨h1, h2⟩, h3⟩, h4⟩
  · rfl
  · refine trim_id (fun z hz => ?_) (fun z hz => ?_)
    · rw [beq_iff_eq] at h1
      rw [h1] at hz
      obtain rfl := Option.some.inj hz
      decide
    · have hm := List.all_eq_true.1 h2 z (List.mem_of_mem_getLast? hz)
      simp only [Bool.and_eq_true, decide_eq_true_eq, bne_iff_ne] at hm
      have h5 : z ≠ 32 := fun e => by
        subst e
        rw [hz] at h4
        exact absurd h4 (by decide)
      unfold blank
      simp only [Bool.or_eq_false_iff, beq_eq_false_iff_ne]
      omega
theorem path_head {l : List Nat} (h : rightPath l = true) (hl : l ≠ []) : l.head? = some 47 := by
  unfold rightPath at h
  simp only [Bool.or_eq_true, Bool.and_eq_true, List.isEmpty_iff] at h
  rcases h with rfl | ⟨⟨⟨h1, h2⟩, h3⟩, h4⟩
  · exact absurd rfl hl
  · simpa using h1
theorem path_semi {l : List Nat} (h : rightPath l = true) : 59 ∉ l := by
  unfold rightPath at h
  simp only [Bool.or_eq_true, Bool.and_eq_true, List.isEmpty_iff] at h
  rcases h with rfl | ⟨⟨⟨h1, h2⟩, h3⟩, h4⟩
  · simp
  · intro hm
    have := List.all_eq_true.1 h2 59 hm
    simp at this
theorem step_path {c : CookieT} {l : List Nat} (h : rightPath l = true) (hl : l ≠ []) : step c ([32, 80, 97, 116, 104, 61] ++ l) = { c with path := l } := by
  have h1 : cutAt 61 ([32, 80, 97, 116, 104, 61] ++ l) = ([32, 80, 97, 116, 104], l, true) := cutAt_some (l := [32, 80, 97, 116, 104]) l (by decide)
  have h2 : keyOf ([32, 80, 97, 116, 104, 61] ++ l) = kPath := by unfold keyOf; rw [h1]; show small (trim [32, 80, 97, 116, 104]) = kPath; decide
  have h3 : valOf ([32, 80, 97, 116, 104, 61] ++ l) = l := by unfold valOf; rw [h1]; exact path_trim h
  unfold step tell
  rw [h2, h3, if_pos rfl, if_pos (path_head h hl)]
theorem digits_trim {l : List Nat} (h : l.all digit = true) : trim l = l := trim_all fun b hb => by
  have := List.all_eq_true.1 h b hb
  unfold digit at this
  simp only [Bool.and_eq_true, decide_eq_true_eq] at this
  unfold blank
  simp only [Bool.or_eq_false_iff, beq_eq_false_iff_ne]
  omega
theorem digits_semi {l : List Nat} (h : l.all digit = true) : 59 ∉ l := fun hm => by
  have := List.all_eq_true.1 h 59 hm
  exact absurd this (by decide)
theorem kAge_ne : ¬ kAge = kPath := by decide
theorem step_age {c : CookieT} {n : Nat} (h : n ≤ top) : step c ([32, 77, 97, 120, 45, 65, 103, 101, 61] ++ dec n) = { c with age := (n : Int) } := by
  have hd := (dec_val (n := n) (by unfold top at h; omega)).2.1
  have h1 : cutAt 61 ([32, 77, 97, 120, 45, 65, 103, 101, 61] ++ dec n) = ([32, 77, 97, 120, 45, 65, 103, 101], dec n, true) := cutAt_some (l := [32, 77, 97, 120, 45, 65, 103, 101]) _ (by decide)
  have h2 : keyOf ([32, 77, 97, 120, 45, 65, 103, 101, 61] ++ dec n) = kAge := by unfold keyOf; rw [h1]; show small (trim [32, 77, 97, 120, 45, 65, 103, 101]) = kAge; decide
  have h3 : valOf ([32, 77, 97, 120, 45, 65, 103, 101, 61] ++ dec n) = dec n := by unfold valOf; rw [h1]; exact digits_trim hd
  unfold step tell
  rw [h2, h3, if_neg kAge_ne, if_pos rfl, number_dec h, if_pos (by omega)]
theorem keys : (¬ kSec = kPath ∧ ¬ kSec = kAge) ∧ (¬ kHttp = kPath ∧ ¬ kHttp = kAge ∧ ¬ kHttp = kSec) ∧ (¬ kSite = kPath ∧ ¬ kSite = kAge ∧ ¬ kSite = kSec ∧ ¬ kSite = kHttp) := by decide
theorem step_sec (c : CookieT) : step c [32, 83, 101, 99, 117, 114, 101] = { c with sec := true } := by
  have h2 : keyOf [32, 83, 101, 99, 117, 114, 101] = kSec := by decide
  unfold step tell
  rw [h2, if_neg keys.1.1, if_neg keys.1.2, if_pos rfl]
theorem step_http (c : CookieT) : step c [32, 72, 116, 116, 112, 79, 110, 108, 121] = { c with http := true } := by
  have h2 : keyOf [32, 72, 116, 116, 112, 79, 110, 108, 121] = kHttp := by decide
  unfold step tell
  rw [h2, if_neg keys.2.1.1, if_neg keys.2.1.2.1, if_neg keys.2.1.2.2, if_pos rfl]
theorem step_site (c : CookieT) {a v : List Nat} (h1 : keyOf a = kSite) (h2 : valOf a = v) : step c a = { c with site := siteOf v } := by
  unfold step tell
  rw [h1, h2, if_neg keys.2.2.1, if_neg keys.2.2.2.1, if_neg keys.2.2.2.2.1, if_neg keys.2.2.2.2.2, if_pos rfl]
theorem fold_site (c d : CookieT) (h0 : 0 ≤ c.site) (h3 : c.site ≤ 3) (hd : d.site = 0) : (aSite c).foldl step d = { d with site := c.site } := by
  unfold aSite
  by_cases e1 : c.site = 1
  · rw [if_pos e1, e1]
    exact step_site d (a := [32, 83, 97, 109, 101, 83, 105, 116, 101, 61, 83, 116, 114, 105, 99, 116]) (v := [83, 116, 114, 105, 99, 116]) (by decide) (by decide)
  rw [if_neg e1]
  by_cases e2 : c.site = 2
  · rw [if_pos e2, e2]
    exact step_site d (a := [32, 83, 97, 109, 101, 83, 105, 116, 101, 61, 76, 97, 120]) (v := [76, 97, 120]) (by decide) (by decide)
  rw [if_neg e2]
  by_cases e3 : c.site = 3
  · rw [if_pos e3, e3]
    exact step_site d (a := [32, 83, 97, 109, 101, 83, 105, 116, 101, 61, 78, 111, 110, 101]) (v := [78, 111, 110, 101]) (by decide) (by decide)
  rw [if_neg e3]
  have : c.site = 0 := by omega
  rw [this, ← hd]
  rfl
theorem attrs_semi {c : CookieT} (h : rightPath c.path = true) (ha : c.age ≤ 1099511627776) : ∀ x ∈ attrsOf c, 59 ∉ x := by
  intro x hx
  unfold attrsOf at hx
  simp only [List.mem_append] at hx
  rcases hx with (((hx | hx) | hx) | hx) | hx
  · unfold aPath at hx
    split at hx
    · cases hx
    · rw [List.mem_singleton] at hx
      subst hx
      simp only [List.mem_append, not_or]
      exact ⟨by decide, path_semi h⟩
  · unfold aAge at hx
    split at hx
    · rw [List.mem_singleton] at hx
      subst hx
      simp only [List.mem_append, not_or]
      exact ⟨by decide, digits_semi (dec_val (by omega)).2.1⟩
    · cases hx
  · unfold aSec at hx
    split at hx
    · rw [List.mem_singleton] at hx
      subst hx
      decide
    · cases hx
  · unfold aHttp at hx
    split at hx
    · rw [List.mem_singleton] at hx
      subst hx
      decide
    · cases hx
  · unfold aSite at hx
    split at hx
    · rw [List.mem_singleton] at hx
      subst hx
      decide
    · split at hx
      · rw [List.mem_singleton] at hx
        subst hx
        decide
      · split at hx
        · rw [List.mem_singleton] at hx
          subst hx
          decide
        · cases hx
theorem fold_all {c : CookieT} (h : rightPath c.path = true) (ha : -1 ≤ c.age) (hb : c.age ≤ 1099511627776) (h0 : 0 ≤ c.site) (h3 : c.site ≤ 3) : (attrsOf c).foldl step ⟨c.name, c.value, [], -1, false, false, 0⟩ = c := by
  unfold attrsOf
  simp only [List.foldl_append]
  have e1 : (aPath c).foldl step ⟨c.name, c.value, [], -1, false, false, 0⟩ = ⟨c.name, c.value, c.path, -1, false, false, 0⟩ := by
    unfold aPath
    by_cases hp : c.path = []
    · rw [if_pos hp, hp]
      rfl
    · rw [if_neg hp]
      exact step_path h hp
  rw [e1]
  have e2 : (aAge c).foldl step ⟨c.name, c.value, c.path, -1, false, false, 0⟩ = ⟨c.name, c.value, c.path, c.age, false, false, 0⟩ := by
    unfold aAge
    by_cases hp : 0 ≤ c.age
    · rw [if_pos hp]
      have := step_age (c := ⟨c.name, c.value, c.path, -1, false, false, 0⟩) (n := c.age.toNat) (by unfold top; omega)
      rw [show ((c.age.toNat : Nat) : Int) = c.age by omega] at this
      exact this
    · rw [if_neg hp, show c.age = -1 by omega]
      rfl
  rw [e2]
  have e3 : (aSec c).foldl step ⟨c.name, c.value, c.path, c.age, false, false, 0⟩ = ⟨c.name, c.value, c.path, c.age, c.sec, false, 0⟩ := by
    unfold aSec
    cases hs : c.sec with
    | true => exact step_sec _
    | false => rfl
  rw [e3]
  have e4 : (aHttp c).foldl step ⟨c.name, c.value, c.path, c.age, c.sec, false, 0⟩ = ⟨c.name, c.value, c.path, c.age, c.sec, c.http, 0⟩ := by
    unfold aHttp
    cases hs : c.http with
    | true => exact step_http _
    | false => rfl
  rw [e4]
  exact fold_site c _ h0 h3 rfl
theorem tokens_ok : ((List.range 128).all fun b => !tokenOctet b || (b != 61 && b != 59 && !blank b)) = true := by decide
theorem token_lt {b : Nat} (h : tokenOctet b = true) : b < 128 := by
  unfold tokenOctet signs at h
  simp only [Bool.or_eq_true, Bool.and_eq_true, decide_eq_true_eq, List.contains_iff_mem] at h
  rcases h with ((h | h) | h) | h
  · omega
  · omega
  · omega
  · simp at h
    omega
theorem token_byte {b : Nat} (h : tokenOctet b = true) : b ≠ 61 ∧ b ≠ 59 ∧ blank b = false := by
  have h1 := List.all_eq_true.1 tokens_ok b (List.mem_range.2 (token_lt h))
  rw [h] at h1
  simp only [Bool.not_true, Bool.false_or, Bool.and_eq_true, bne_iff_ne, Bool.not_eq_true'] at h1
  exact ⟨h1.1.1, h1.1.2, h1.2⟩
theorem octet_byte {b : Nat} (h : octet b = true) : b ≠ 59 ∧ blank b = false := by
  unfold octet at h
  simp only [Bool.or_eq_true, Bool.and_eq_true, decide_eq_true_eq, beq_iff_eq] at h
  unfold blank
  simp only [Bool.or_eq_false_iff, beq_eq_false_iff_ne]
  omega
structure RightIsT (c : CookieT) : Prop where
  name : c.name.all tokenOctet = true ∧ c.name ≠ []
  value : c.value.all octet = true
  age : -1 ≤ c.age ∧ c.age ≤ 1099511627776
  site : 0 ≤ c.site ∧ c.site ≤ 3
  path : rightPath c.path = true
theorem right_is {c : CookieT} (h : rightT c = true) : RightIsT c := by
  unfold rightT token at h
  simp only [Bool.and_eq_true, decide_eq_true_eq, Bool.not_eq_true', List.isEmpty_eq_false_iff] at h
  obtain ⟨⟨⟨⟨⟨⟨⟨h1, h2⟩, h3⟩, h4⟩, h5⟩, h6⟩, h7⟩, h8⟩ := h
  exact ⟨h1, h2, ⟨h3, h4⟩, ⟨h5, h6⟩, h8⟩
/-- P14.2: what is written is taken as it was. -/
theorem parse_header {c : CookieT} (h : rightT c = true) : parseF (header c) = some c := by
  have r := right_is h
  have hn : ∀ b ∈ c.name, b ≠ 61 ∧ b ≠ 59 ∧ blank b = false := fun b hb => token_byte (List.all_eq_true.1 r.name.1 b hb)
  have hv : ∀ b ∈ c.value, b ≠ 59 ∧ blank b = false := fun b hb => octet_byte (List.all_eq_true.1 r.value b hb)
  have h59 : 59 ∉ c.name ++ 61 :: c.value := by
    simp only [List.mem_append, List.mem_cons, not_or]
    exact ⟨fun hm => (hn 59 hm).2.1 rfl, by decide, fun hm => (hv 59 hm).1 rfl⟩
  have hp := parts_join (c.name ++ 61 :: c.value) (attrsOf c) h59 (attrs_semi r.path r.age.2)
  have hh : header c = c.name ++ 61 :: c.value ++ (attrsOf c).flatMap fun a => 59 :: a := rfl
  rw [← hh, parts_cut] at hp
  obtain ⟨h1, h2⟩ := List.cons.inj hp
  have h61 : 61 ∉ c.name := fun hm => (hn 61 hm).1 rfl
  unfold parseF first
  rw [h1, h2, cutAt_some c.value h61]
  simp only [trim_all (fun b hb => (hn b hb).2.2), trim_all (fun b hb => (hv b hb).2)]
  rw [if_neg (by simp [r.name.2])]
  show some ((attrsOf c).foldl step ⟨c.name, c.value, [], -1, false, false, 0⟩) = some c
  rw [fold_all r.path r.age.1 r.age.2 r.site.1 r.site.2]
/-- P14.1: a later Max-Age takes an elder one's place; what is no attribute's name says nothing. -/
def lastOf (n : Nat) : List Nat := [59, 88, 45, 79, 116, 104, 101, 114, 61, 49, 59, 32, 109, 97, 120, 45, 97, 103, 101, 32, 61, 32] ++ dec n ++ [32]
theorem fold_last (c : CookieT) {n : Nat} (h : n ≤ top) : (parts (lastOf n).tail).foldl step c = { c with age := (n : Int) } := by
  have hd := (dec_val (n := n) (by unfold top at h; omega)).2.1
  have e : (lastOf n).tail = [88, 45, 79, 116, 104, 101, 114, 61, 49] ++ 59 :: ([32, 109, 97, 120, 45, 97, 103, 101, 32, 61, 32] ++ (dec n ++ [32])) := by
    unfold lastOf
    simp
  have h59 : 59 ∉ [32, 109, 97, 120, 45, 97, 103, 101, 32, 61, 32] ++ (dec n ++ [32]) := by
    simp only [List.mem_append, not_or]
    exact ⟨by decide, digits_semi hd, by decide⟩
  rw [e, parts_more, parts_one (l := [88, 45, 79, 116, 104, 101, 114, 61, 49]) (by decide), parts_one h59]
  have h1 : step c [88, 45, 79, 116, 104, 101, 114, 61, 49] = c := by
    have hk : keyOf [88, 45, 79, 116, 104, 101, 114, 61, 49] = [120, 45, 111, 116, 104, 101, 114] := by decide
    unfold step tell
    rw [hk, if_neg (by decide), if_neg (by decide), if_neg (by decide), if_neg (by decide), if_neg (by decide)]
  have hc : cutAt 61 ([32, 109, 97, 120, 45, 97, 103, 101, 32, 61, 32] ++ (dec n ++ [32])) = ([32, 109, 97, 120, 45, 97, 103, 101, 32], 32 :: (dec n ++ [32]), true) := cutAt_some (l := [32, 109, 97, 120, 45, 97, 103, 101, 32]) (32 :: (dec n ++ [32])) (by decide)
  have h2 : step c ([32, 109, 97, 120, 45, 97, 103, 101, 32, 61, 32] ++ (dec n ++ [32])) = { c with age := (n : Int) } := by
    have k1 : keyOf ([32, 109, 97, 120, 45, 97, 103, 101, 32, 61, 32] ++ (dec n ++ [32])) = kAge := by unfold keyOf; rw [hc]; show small (trim [32, 109, 97, 120, 45, 97, 103, 101, 32]) = kAge; decide
    have k2 : valOf ([32, 109, 97, 120, 45, 97, 103, 101, 32, 61, 32] ++ (dec n ++ [32])) = dec n := by unfold valOf; rw [hc]; show trim (32 :: (dec n ++ [32])) = _; rw [trim_space, trim_back, digits_trim hd]
    unfold step tell
    rw [k1, k2, if_neg kAge_ne, if_pos rfl, number_dec h, if_pos (by omega)]
  rw [List.foldl_append, List.foldl_cons, List.foldl_nil, List.foldl_cons, List.foldl_nil, h1]
  exact h2
theorem parse_last (l : List Nat) {n : Nat} (h : n ≤ top) : parseF (l ++ lastOf n) = (parseF l).map fun c => { c with age := (n : Int) } := by
  have e : lastOf n = 59 :: (lastOf n).tail := rfl
  rw [e, parseF_more]
  congr 1
  funext c
  exact fold_last c h
end BakeMath
