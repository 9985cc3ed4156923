/-
  Texts of one claim, merged.
  DotCut: strings.Cut at a dot: what stands ahead of the first one, or all. No conditions.
  TextStream: Plain mathematics of chapter 4: letters and bytes one by one, with so many bits held: what comes out is the document's. No program, no conditions but those typed.
  TextAll: Plain mathematics of chapter 4: texts of octets, tokens, what is trimmed. No program, no conditions but those typed.
-/
import Derived.Lib.IndexLaws
import Derived.Test.YtajhegjemhegiaaDoorIndexByte
import Derived.Test.YtajhegjemhegiaaDoorPart07
import Derived.Test.YtajhegjemhegiaaDoorPart12
import Derived.Below
import Derived.Lib.Hide
import Derived.Test.YtajhegjemhegiaaDoorPart09
import Derived.Test.YtajhegjemhegiaaDoorPart08
import Derived.Test.YtajhegjemhegiaaDoorPart01
import Derived.Lib.Strings
namespace Go.Proofs.YtajhegjemhegiaaDoor
open Go.RowKit TextNat TokenMath

/-- What stands ahead of the first dot; all, if there is none. -/
def ahead (l : List Nat) : List Nat := match l.findIdx? (· == 46) with
  | none => l
  | some i => l.take i
theorem dots (s : ByteArray) (j : Nat) : s.data.toList[j]? = some 46 ↔ (nats s)[j]? = some 46 := by
  unfold nats
  rw [List.getElem?_map]
  cases h : s.data.toList[j]? with
  | none => simp
  | some b =>
    simp only [Option.map_some, Option.some.injEq]
    constructor
    · rintro rfl; rfl
    · intro h2; exact UInt8.toNat_inj.1 (by rw [h2]; rfl)
theorem ahead_none {l : List Nat} (h : ∀ j : Nat, l[j]? ≠ some 46) : ahead l = l := by
  have : l.findIdx? (· == 46) = none := by
    rw [List.findIdx?_eq_none_iff]
    intro x hx
    obtain ⟨j, hj, he⟩ := List.mem_iff_getElem.1 hx
    have := h j
    rw [List.getElem?_eq_getElem hj, he] at this
    rw [beq_eq_false_iff_ne]
    exact fun e => this (by rw [e])
  unfold ahead
  rw [this]
theorem ahead_some {l : List Nat} {i : Nat} (h : ∀ j, j < i → l[j]? ≠ some 46) (hi : l[i]? = some 46) : ahead l = l.take i := by
  have : l.findIdx? (· == 46) = some i := by
    rw [List.findIdx?_eq_some_iff_getElem]
    obtain ⟨h1, h2⟩ := List.getElem?_eq_some_iff.1 hi
    refine ⟨h1, by rw [h2]; rfl, fun j hj he => ?_⟩
    refine h j hj ?_
    rw [List.getElem?_eq_getElem (Nat.lt_trans hj h1)]
    congr 1
    simpa using he
  unfold ahead
  rw [this]
theorem dot_cases (s : ByteArray) : (Lib.indexByte s.data.toList 46 = -1 ∧ ahead (nats s) = nats s) ∨ ∃ i : Nat, Lib.indexByte s.data.toList 46 = (i : Int) ∧ i < s.size ∧ ahead (nats s) = nats (s.extract 0 i) := by
  have hge := Lib.indexByte_ge s.data.toList 46
  by_cases h : Lib.indexByte s.data.toList 46 = -1
  · exact .inl ⟨h, ahead_none fun j hj => Lib.indexByte_none h j ((dots s j).2 hj)⟩
  · obtain ⟨i, hi⟩ : ∃ i : Nat, Lib.indexByte s.data.toList 46 = (i : Int) := ⟨(Lib.indexByte s.data.toList 46).toNat, by omega⟩
    obtain ⟨h1, h2⟩ := Lib.indexByte_some hi
    refine .inr ⟨i, hi, ?_, ?_⟩
    · have := (List.getElem?_eq_some_iff.1 h1).1
      simpa using this
    · rw [ahead_some (fun j hj he => h2 j hj ((dots s j).2 he)) ((dots s i).1 h1)]
      unfold nats
      rw [← List.map_take]
      congr 1
      simp [ByteArray.data_extract]
set_option maxRecDepth 100000 in
theorem lite_byte (s : ByteArray) (c : Int) (w : World) :
    Calls Tryd.prog 68 #[.string s, .int .u8 c] w fun e w' => e = .returned (.int .i64 (Lib.indexByte s.data.toList c.toNat.toUInt8)) ∧ w' = w := by
  go_enter Tryd.func68, Tryd.ntmps68
  go_wp2
  rw [run_callFunc_extern Tryd.func82 (by kernel_rfl) (by kernel_rfl) (by kernel_rfl) (e := Extern.BytealgIndexByte.indexByte) (by kernel_rfl), Lib.run_indexByteString]
  simp only [Result.andThen]
  rw [Oper.upon_value]
  go_wp2
  go_ret
  exact ⟨rfl, rfl⟩
set_option maxRecDepth 100000 in
theorem lite_dot (s : ByteArray) (w : World) :
    Calls Tryd.prog 46 #[.string s, .string ⟨#[46]⟩] w fun e w' => e = .returned (.int .i64 (Lib.indexByte s.data.toList 46)) ∧ w' = w := by
  have HI := Lib.hid (lite_byte s 46 w)
  go_enter Tryd.func46, Tryd.ntmps46
  go_wp2_with (go_at_call 68; refine HI.out.mono ?_; rintro e w2 ⟨rfl, rfl⟩)
  · have h1 : ([46] == s.toList) = true := by assumption
    have h2 : s.data.toList = [46] := by
      rw [beq_iff_eq, ByteArray.toList_eq] at h1
      exact h1.symm
    have h3 : Lib.indexByte s.data.toList 46 = 0 := by rw [h2]; rfl
    clear h1 h2
    rw [h3]
    go_ret
    exact ⟨rfl, rfl⟩
  · go_ret
    exact ⟨rfl, rfl⟩
set_option maxRecDepth 100000 in
theorem lite_cut (s : ByteArray) (w : World) (hs : s.size ≤ 9223372036854775806) :
    Calls Tryd.prog 47 #[.string s, .string ⟨#[46]⟩] w fun e w' => (∃ a t b, e = .returned (.tuple #[.string a, .string t, .bool b]) ∧ nats a = ahead (nats s)) ∧ Below w.heap.size w w' := by
  have HI := Lib.hid (lite_dot s w)
  rcases dot_cases s with ⟨h1, h2⟩ | ⟨i, h1, h2, h3⟩
  · have HA := Lib.hid h2
    rw [h1] at HI
    clear h1 h2
    go_enter Tryd.func47, Tryd.ntmps47
    go_wp2_with fail
    refine HI.out.mono ?_
    rintro e w2 ⟨rfl, rfl⟩
    go_wp2
    go_ret3
    exact ⟨⟨_, _, _, rfl, HA.out.symm⟩, Below.refl _ _⟩
  · have HA := Lib.hid h3
    rw [h1] at HI
    have c1 : (0 : Int) ≤ (i : Int) := by omega
    have c2 : (i : Int) ≤ (s.size : Int) := by omega
    obtain ⟨j, hj⟩ : ∃ j, j = i + 1 := ⟨_, rfl⟩
    have k1 : IntKind.i64.wrap ((i : Int) + 1) = (j : Int) := by rw [IntKind.wrap_i64]; omega
    have c3 : (0 : Int) ≤ (j : Int) := by omega
    have c4 : (j : Int) ≤ (s.size : Int) := by omega
    have mixed : Tryd.prog.follows .mixedOrders = true := by kernel_rfl
    clear hj
    clear h1 h3
    go_enter Tryd.func47, Tryd.ntmps47
    go_wp2_with fail
    refine HI.out.mono ?_
    rintro e w2 ⟨rfl, rfl⟩
    go_wp2
    go_region_o
    go_wp2
    go_ret3
    exact ⟨⟨_, _, _, rfl, HA.out.symm⟩, (Below.refl _ _).drew⟩
set_option maxRecDepth 100000 in
theorem cut_dot (s : ByteArray) (w : World) (hs : s.size ≤ 9223372036854775806) :
    Calls Tryd.prog 33 #[.string s, .string ⟨#[46]⟩] w fun e w' => (∃ a t b, e = .returned (.tuple #[.string a, .string t, .bool b]) ∧ nats a = ahead (nats s)) ∧ Below w.heap.size w w' := by
  have HI := Lib.hid (lite_cut s w hs)
  go_enter Tryd.func33, Tryd.ntmps33
  go_wp2_with fail
  refine HI.out.mono ?_
  rintro e w2 ⟨⟨a, t, b, rfl, h⟩, hb⟩
  have HA := Lib.hid h
  have HB := Lib.hid hb
  clear h hb
  go_wp2
  go_ret3
  exact ⟨⟨_, _, _, rfl, HA.out⟩, HB.out⟩
end Go.Proofs.YtajhegjemhegiaaDoor
namespace TextMath

/-- The letters of n held bits (worth r) and of the bytes behind them. -/
def lettersFrom (n r : Nat) (l : List Nat) : List Nat :=
  if 6 ≤ n then letter (r / 2 ^ (n - 6) % 64) :: lettersFrom (n - 6) (r % 2 ^ (n - 6)) l
  else match l with
    | [] => if 0 < n then [letter (r * 2 ^ (6 - n) % 64)] else []
    | b :: t => lettersFrom (n + 8) (r * 256 + b) t
termination_by (l.length, n)
/-- The bytes of n held bits (worth r) and of the letters behind them. -/
def bytesFrom (n r : Nat) (l : List Nat) : List Nat :=
  if 8 ≤ n then r / 2 ^ (n - 8) % 256 :: bytesFrom (n - 8) (r % 2 ^ (n - 8)) l
  else match l with
    | [] => []
    | c :: t => bytesFrom (n + 6) (r * 64 + number c) t
termination_by (l.length, n)

theorem letters_put {n : Nat} (r : Nat) (l : List Nat) (h : 6 ≤ n) : lettersFrom n r l = letter (r / 2 ^ (n - 6) % 64) :: lettersFrom (n - 6) (r % 2 ^ (n - 6)) l := by
  rw [lettersFrom.eq_def, if_pos h]
theorem letters_take {n : Nat} (r b : Nat) (t : List Nat) (h : n < 6) : lettersFrom n r (b :: t) = lettersFrom (n + 8) (r * 256 + b) t := by
  rw [lettersFrom, if_neg (by omega)]
theorem letters_end {n : Nat} (r : Nat) (h : n < 6) : lettersFrom n r [] = if 0 < n then [letter (r * 2 ^ (6 - n) % 64)] else [] := by
  rw [lettersFrom, if_neg (by omega)]
theorem bytes_put {n : Nat} (r : Nat) (l : List Nat) (h : 8 ≤ n) : bytesFrom n r l = r / 2 ^ (n - 8) % 256 :: bytesFrom (n - 8) (r % 2 ^ (n - 8)) l := by
  rw [bytesFrom.eq_def, if_pos h]
theorem bytes_take {n : Nat} (r c : Nat) (t : List Nat) (h : n < 8) : bytesFrom n r (c :: t) = bytesFrom (n + 6) (r * 64 + number c) t := by
  rw [bytesFrom, if_neg (by omega)]
theorem bytes_end {n : Nat} (r : Nat) (h : n < 8) : bytesFrom n r [] = [] := by
  rw [bytesFrom, if_neg (by omega)]

theorem letters_all : ∀ (l : List Nat), (∀ b ∈ l, b < 256) → lettersFrom 0 0 l = enc l
  | [], _ => by
    rw [letters_end _ (by decide)]
    rfl
  | [a], h => by
    have ha := h a (by simp)
    rw [letters_take _ _ _ (by decide), letters_put _ _ (by decide), letters_end _ (by decide), if_pos (by decide), enc_one a ha]
    congr 2
    · simp only [Nat.zero_mul, Nat.zero_add, Nat.reduceSub, Nat.reducePow]
      omega
    · congr 1
      simp only [Nat.zero_mul, Nat.zero_add, Nat.reduceSub, Nat.reducePow]
      omega
  | [a, b], h => by
    have ha := h a (by simp)
    have hb := h b (by simp)
    rw [letters_take _ _ _ (by decide), letters_put _ _ (by decide), letters_take _ _ _ (by decide), letters_put _ _ (by decide), letters_end _ (by decide), if_pos (by decide), enc_two a b ha hb]
    simp only [Nat.zero_mul, Nat.zero_add, Nat.reduceSub, Nat.reducePow, Nat.reduceAdd]
    rw [show a / 4 % 64 = a / 4 by omega, show (a % 4 * 256 + b) / 16 % 64 = a % 4 * 16 + b / 16 by omega, show (a % 4 * 256 + b) % 16 * 4 % 64 = b % 16 * 4 by omega]
  | a :: b :: c :: r, h => by
    have ha := h a (by simp)
    have hb := h b (by simp)
    have hc := h c (by simp)
    have ih := letters_all r (fun x hx => h x (by simp [hx]))
    rw [letters_take _ _ _ (by decide), letters_put _ _ (by decide), letters_take _ _ _ (by decide), letters_put _ _ (by decide), letters_take _ _ _ (by decide), letters_put _ _ (by decide), letters_put _ _ (by decide), enc_cons a b c r ha hb hc]
    simp only [Nat.zero_mul, Nat.zero_add, Nat.reduceSub, Nat.reducePow, Nat.reduceAdd, Nat.mod_one, Nat.div_one]
    rw [ih, show a / 4 % 64 = a / 4 by omega, show (a % 4 * 256 + b) / 16 % 64 = a % 4 * 16 + b / 16 by omega, show ((a % 4 * 256 + b) % 16 * 256 + c) / 64 % 64 = b % 16 * 4 + c / 64 by omega,
      show ((a % 4 * 256 + b) % 16 * 256 + c) % 64 % 64 = c % 64 by omega]

theorem bytes_all : ∀ (l : List Nat), (∀ c ∈ l, number c < 64) → l.length % 4 ≠ 1 → bytesFrom 0 0 l = decBytes l
  | [], _, _ => by
    rw [bytes_end _ (by decide)]
    rfl
  | [a], _, h => absurd rfl h
  | [a, b], h, _ => by
    have ha := h a (by simp)
    have hb := h b (by simp)
    rw [bytes_take _ _ _ (by decide), bytes_take _ _ _ (by decide), bytes_put _ _ (by decide), bytes_end _ (by decide), dec_last_two a b ha hb]
    simp only [Nat.zero_mul, Nat.zero_add, Nat.reduceSub, Nat.reducePow, Nat.reduceAdd]
    rw [show (number a * 64 + number b) / 16 % 256 = number a * 4 + number b / 16 by omega]
  | [a, b, c], h, _ => by
    have ha := h a (by simp)
    have hb := h b (by simp)
    have hc := h c (by simp)
    rw [bytes_take _ _ _ (by decide), bytes_take _ _ _ (by decide), bytes_put _ _ (by decide), bytes_take _ _ _ (by decide), bytes_put _ _ (by decide), bytes_end _ (by decide), dec_last_three a b c ha hb hc]
    simp only [Nat.zero_mul, Nat.zero_add, Nat.reduceSub, Nat.reducePow, Nat.reduceAdd]
    rw [show (number a * 64 + number b) / 16 % 256 = number a * 4 + number b / 16 by omega, show ((number a * 64 + number b) % 16 * 64 + number c) / 4 % 256 = number b % 16 * 16 + number c / 4 by omega]
  | a :: b :: c :: d :: r, h, hl => by
    have ha := h a (by simp)
    have hb := h b (by simp)
    have hc := h c (by simp)
    have hd := h d (by simp)
    have ih := bytes_all r (fun x hx => h x (by simp [hx])) (by simp only [List.length_cons] at hl; omega)
    rw [bytes_take _ _ _ (by decide), bytes_take _ _ _ (by decide), bytes_put _ _ (by decide), bytes_take _ _ _ (by decide), bytes_put _ _ (by decide), bytes_take _ _ _ (by decide), bytes_put _ _ (by decide), dec_cons a b c d r ha hb hc hd]
    simp only [Nat.zero_mul, Nat.zero_add, Nat.reduceSub, Nat.reducePow, Nat.reduceAdd, Nat.mod_one, Nat.div_one]
    rw [ih, show (number a * 64 + number b) / 16 % 256 = number a * 4 + number b / 16 by omega, show ((number a * 64 + number b) % 16 * 64 + number c) / 4 % 256 = number b % 16 * 16 + number c / 4 by omega,
      show (((number a * 64 + number b) % 16 * 64 + number c) % 4 * 64 + number d) % 256 = number c % 4 * 64 + number d by omega]

/-- The number of the letter that c is, by the ranges; 64: it is none. -/
def numberBy (c : Nat) : Nat := if 65 ≤ c ∧ c ≤ 90 then c - 65 else if 97 ≤ c ∧ c ≤ 122 then c - 97 + 26 else if 48 ≤ c ∧ c ≤ 57 then c - 48 + 52 else if c = 45 then 62 else if c = 95 then 63 else 64
theorem number_by_table : ((List.range 256).all fun c => number c == numberBy c) = true := by kernel_rfl
theorem number_by (c : Nat) (h : c < 256) : number c = numberBy c := by
  have h1 := number_by_table
  rw [List.all_eq_true] at h1
  simpa using h1 c (List.mem_range.2 h)
end TextMath
namespace Go.Proofs.YtajhegjemhegiaaDoor
open TextNat

theorem all_false {l : List Nat} {p : Nat → Bool} {i z : Nat} (h : l[i]? = some z) (hp : p z = false) : l.all p = false := by
  rw [Bool.eq_false_iff]
  intro ha
  rw [List.all_eq_true] at ha
  rw [ha z (List.mem_of_getElem? h)] at hp
  cases hp

theorem all_step {l : List Nat} {p : Nat → Bool} {i z : Nat} (h : l[i]? = some z) (ha : (l.take i).all p = true) (hp : p z = true) : (l.take (i + 1)).all p = true := by
  rw [List.take_add_one, h, List.all_append, ha]
  simp [hp]

def baseOctet (c : Nat) : Bool := (decide (97 ≤ c) && decide (c ≤ 122)) || (decide (65 ≤ c) && decide (c ≤ 90)) || (decide (48 ≤ c) && decide (c ≤ 57))

theorem token_split (c : Nat) : TextMath.tokenOctet c = (baseOctet c || TextMath.signs.contains c) := rfl

theorem sign_at : ∀ (k : Nat) (h : k < (⟨#[33, 35, 36, 37, 38, 39, 42, 43, 45, 46, 94, 95, 96, 124, 126]⟩ : ByteArray).size), ((⟨#[33, 35, 36, 37, 38, 39, 42, 43, 45, 46, 94, 95, 96, 124, 126]⟩ : ByteArray)[k]'h).toNat = TextMath.signs.getD k 0 := by
  intro k h
  have h15 : k < 15 := h
  have : k = 0 ∨ k = 1 ∨ k = 2 ∨ k = 3 ∨ k = 4 ∨ k = 5 ∨ k = 6 ∨ k = 7 ∨ k = 8 ∨ k = 9 ∨ k = 10 ∨ k = 11 ∨ k = 12 ∨ k = 13 ∨ k = 14 := by omega
  rcases this with rfl | rfl | rfl | rfl | rfl | rfl | rfl | rfl | rfl | rfl | rfl | rfl | rfl | rfl | rfl <;> rfl

theorem take_contains (l : List Nat) (k c : Nat) (h : k < l.length) : (l.take (k + 1)).contains c = ((l.take k).contains c || (c == l.getD k 0)) := by
  have e : l.getD k 0 = l[k] := by simp [List.getD, h]
  rw [e, Bool.eq_iff_iff, Bool.or_eq_true, List.contains_iff_mem, List.contains_iff_mem, beq_iff_eq, List.take_add_one, List.getElem?_eq_getElem h, List.mem_append]
  simp

theorem drop_all {p : Nat → Bool} : ∀ (A X : List Nat), (∀ a ∈ A, p a = true) → (A ++ X).dropWhile p = X.dropWhile p
  | [], _, _ => rfl
  | a :: A, X, h => by
    rw [List.cons_append, List.dropWhile_cons, if_pos (h a (by simp))]
    exact drop_all A X (fun b hb => h b (by simp [hb]))

theorem drop_none {p : Nat → Bool} (X : List Nat) (h : ∀ z, X[0]? = some z → p z = false) : X.dropWhile p = X := by
  cases X with
  | nil => rfl
  | cons a r =>
    have := h a rfl
    rw [List.dropWhile_cons, if_neg (by rw [this]; decide)]

/-- What is left without blanks around, told by its two ends. -/
theorem trim_ends (l : List Nat) (i t : Nat) (hit : i ≤ t) (ht : t ≤ l.length) (h1 : ∀ j z, j < i → l[j]? = some z → TextMath.blank z = true) (h2 : ∀ z, l[i]? = some z → i < t → TextMath.blank z = false)
    (h3 : ∀ j z, t ≤ j → l[j]? = some z → TextMath.blank z = true) (h4 : ∀ z, i < t → l[t - 1]? = some z → TextMath.blank z = false) (h5 : i = t → i = l.length) : TextMath.trim l = (l.take t).drop i := by
  obtain ⟨A, hA⟩ : ∃ A, A = l.take i := ⟨_, rfl⟩
  obtain ⟨B, hB⟩ : ∃ B, B = (l.take t).drop i := ⟨_, rfl⟩
  obtain ⟨C, hC⟩ : ∃ C, C = l.drop t := ⟨_, rfl⟩
  have hl : l = A ++ (B ++ C) := by
    rw [hA, hB, hC, ← List.append_assoc]
    have e : l.take i ++ (l.take t).drop i = l.take t := by
      have := List.take_append_drop i (l.take t)
      rw [List.take_take, Nat.min_eq_left hit] at this
      exact this
    rw [e, List.take_append_drop]
  have hAl : A.length = i := by rw [hA, List.length_take]; omega
  have hBl : B.length = t - i := by rw [hB, List.length_drop, List.length_take]; omega
  have hAb : ∀ a ∈ A, TextMath.blank a = true := by
    intro a ha
    obtain ⟨j, hj, e⟩ := List.getElem_of_mem ha
    refine h1 j a (by omega) ?_
    rw [hl, List.getElem?_append_left hj, List.getElem?_eq_getElem hj, e]
  have hCb : ∀ a ∈ C, TextMath.blank a = true := by
    intro a ha
    obtain ⟨j, hj, e⟩ := List.getElem_of_mem ha
    refine h3 (t + j) a (by omega) ?_
    rw [← List.getElem?_drop, ← hC, List.getElem?_eq_getElem hj, e]
  rw [← hB]
  unfold TextMath.trim
  have e1 : l.dropWhile TextMath.blank = B ++ C := by
    conv => lhs; rw [hl]
    rw [drop_all A _ hAb]
    by_cases hlt : i < t
    · refine drop_none _ (fun z hz => h2 z ?_ hlt)
      rw [hl, List.getElem?_append_right (by omega), hAl, Nat.sub_self]
      exact hz
    · have h6 := h5 (by omega)
      have : B = [] := List.eq_nil_of_length_eq_zero (by omega)
      have h7 : C = [] := by rw [hC]; exact List.drop_of_length_le (by omega)
      rw [this, h7]
      rfl
  rw [e1, List.reverse_append, drop_all C.reverse _ (fun a ha => hCb a (List.mem_reverse.1 ha))]
  have e2 : B.reverse.dropWhile TextMath.blank = B.reverse := by
    refine drop_none _ (fun z hz => ?_)
    have hne : 0 < B.length := by
      have := (List.getElem?_eq_some_iff.1 hz).1
      simpa using this
    refine h4 z (by omega) ?_
    rw [hl, List.getElem?_append_right (by omega), List.getElem?_append_left (by omega), hAl]
    rw [List.getElem?_reverse hne] at hz
    rw [show t - 1 - i = B.length - 1 - 0 by omega]
    exact hz
  rw [e2, List.reverse_reverse]

theorem text_extract (s : ByteArray) (i t : Nat) : nats (s.extract i t) = ((nats s).take t).drop i := by
  unfold nats
  rw [Lib.extract_data, List.map_take, List.map_drop, List.drop_take]

theorem head_drop {p : Nat → Bool} : ∀ (l : List Nat) (z : Nat), (l.dropWhile p)[0]? = some z → p z = false
  | [], _, h => by simp at h
  | a :: r, z, h => by
    rw [List.dropWhile_cons] at h
    split at h
    · exact head_drop r z h
    · rename_i hp
      simp at h
      rw [← h]
      simpa using hp
theorem drop_suffix {p : Nat → Bool} (l : List Nat) : ∃ A, l = A ++ l.dropWhile p := ⟨l.takeWhile p, (List.takeWhile_append_dropWhile).symm⟩
/-- What is trimmed is trimmed. -/
theorem trim_trim (l : List Nat) : TextMath.trim (TextMath.trim l) = TextMath.trim l := by
  obtain ⟨A, hA⟩ : ∃ A, A = l.dropWhile TextMath.blank := ⟨_, rfl⟩
  obtain ⟨B, hB⟩ : ∃ B, B = A.reverse.dropWhile TextMath.blank := ⟨_, rfl⟩
  have e1 : TextMath.trim l = B.reverse := by unfold TextMath.trim; rw [← hA, ← hB]
  obtain ⟨C, hC⟩ := drop_suffix (p := TextMath.blank) A.reverse
  rw [← hB] at hC
  have hA2 : A = B.reverse ++ C.reverse := by rw [← List.reverse_append, ← hC, List.reverse_reverse]
  have h1 : B.reverse.dropWhile TextMath.blank = B.reverse := drop_none _ fun z hz => by
    refine head_drop l z ?_
    rw [← hA, hA2]
    cases hb : B.reverse with
    | nil => rw [hb] at hz; simp at hz
    | cons a r => rw [hb] at hz; simpa using hz
  have h2 : B.dropWhile TextMath.blank = B := drop_none _ fun z hz => head_drop A.reverse z (by rw [← hB]; exact hz)
  rw [e1]
  unfold TextMath.trim
  rw [h1, List.reverse_reverse, h2]
theorem trim_lt (l : List Nat) (h : ∀ b ∈ l, b < 256) : ∀ b ∈ TextMath.trim l, b < 256 := by
  intro b hb
  have h1 := List.mem_reverse.1 hb
  have h2 := List.mem_reverse.1 ((List.dropWhile_sublist _).subset h1)
  exact h b ((List.dropWhile_sublist _).subset h2)
theorem trim_len (l : List Nat) : (TextMath.trim l).length ≤ l.length := by
  unfold TextMath.trim
  rw [List.length_reverse]
  refine Nat.le_trans (List.dropWhile_sublist _).length_le ?_
  rw [List.length_reverse]
  exact (List.dropWhile_sublist _).length_le
end Go.Proofs.YtajhegjemhegiaaDoor
