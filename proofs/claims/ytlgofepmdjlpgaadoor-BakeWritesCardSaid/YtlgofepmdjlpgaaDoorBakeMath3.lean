/-
  Plain mathematics of chapter 14 in the words of the library's own contracts: prefixes, suffixes, digits, joined texts; a number that stays at the greatest one. No program is run here.
-/
import Derived.Test.YtlgofepmdjlpgaaDoorPart02
import Derived.Lib.Strings
import Derived.Lib.ItoaMem
import Derived.Lib.Join
namespace BakeMath
open TextMath TextNat Go

/-! A number, with the greatest one as its end. -/
theorem val_min {l : List Nat} {i x : Nat} (h : l[i]? = some x) : min (10 * min (val (l.take i)) top + (x - 48)) top = min (val (l.take (i + 1))) top := by
  have e : l.take (i + 1) = l.take i ++ [x] := by rw [List.take_add_one, h]; rfl
  rw [e, val_snoc]
  omega
theorem number_min {l d : List Nat} {below : Bool} (h1 : below = (l.head? == some 45)) (h2 : d = if below = true then l.tail else l) : numberF l = if d = [] ∨ d.all digit = false then -1 else if below = true then 0 else ((min (val d) top : Nat) : Int) := by
  unfold numberF
  rw [← h1]
  simp only [← h2]
  by_cases he : d = [] ∨ d.all digit = false
  · rw [if_pos he]
    rcases he with rfl | he
    · rfl
    · rw [he, if_pos (by simp)]
  · rw [if_neg he]
    simp only [not_or, Bool.not_eq_false] at he
    rw [he.2, if_neg (by simp [he.1])]

/-! Paths. -/
def pb (b : Nat) : Bool := decide (32 ≤ b) && decide (b ≤ 126) && b != 59
theorem path_cons (x : Nat) (t : List Nat) : rightPath (x :: t) = (x == 47 && t.all pb && t.head? != some 32 && t.getLast? != some 32) := by
  unfold rightPath
  by_cases h : x = 47
  · subst h
    cases t with
    | nil => decide
    | cons y r =>
      rw [List.getLast?_cons_cons]
      show (false || ((47 :: y :: r).head? == some 47 && (47 :: y :: r).all (fun b => decide (32 ≤ b) && decide (b ≤ 126) && b != 59) && some y != some 32 && (y :: r).getLast? != some 32)) = (47 == 47 && (y :: r).all pb && some y != some 32 && (y :: r).getLast? != some 32)
      rfl
  · have h1 : (x == 47) = false := by simpa using h
    have h2 : ((x :: t).head? == some 47) = false := by simpa using h
    rw [h1, h2]
    rfl

/-! Prefixes and suffixes of one byte. -/
theorem pre_one (s : ByteArray) (c : UInt8) : Lib.hasPrefix s.data.toList [c] = ((nats s).head? == some c.toNat) := by
  unfold Lib.hasPrefix nats
  cases s.data.toList with
  | nil => rfl
  | cons b r =>
    simp only [List.isPrefixOf, List.map_cons, List.head?_cons, Bool.and_true]
    rw [Bool.eq_iff_iff]
    simp only [beq_iff_eq, Option.some.injEq]
    exact ⟨fun h => by rw [h], fun h => (UInt8.toNat_inj.1 h).symm⟩
theorem suf_one (s : ByteArray) (c : UInt8) : Lib.hasSuffix s.data.toList [c] = ((nats s).getLast? == some c.toNat) := by
  unfold Lib.hasSuffix nats
  rw [List.getLast?_map, List.isSuffixOf, List.getLast?_eq_head?_reverse]
  cases s.data.toList.reverse with
  | nil => rfl
  | cons b r =>
    simp only [List.reverse_cons, List.reverse_nil, List.nil_append, List.isPrefixOf, List.head?_cons, Bool.and_true, Option.map_some]
    rw [Bool.eq_iff_iff]
    simp only [beq_iff_eq, Option.some.injEq]
    exact ⟨fun h => by rw [h], fun h => (UInt8.toNat_inj.1 h).symm⟩
/-- A text without one byte ahead. -/
def unled (c : Nat) (l : List Nat) : List Nat := if l.head? = some c then l.tail else l
theorem cut_one (s : ByteArray) (c : UInt8) : (⟨(Lib.trimPrefix s.data.toList [c]).toArray⟩ : ByteArray) = txt (unled c.toNat (nats s)) := by
  apply nats_inj
  rw [nats_txt _ (fun b hb => by
    unfold unled at hb
    split at hb
    · exact nats_lt s b (List.mem_of_mem_tail hb)
    · exact nats_lt s b hb)]
  unfold Lib.trimPrefix unled
  rw [pre_one]
  by_cases h : (nats s).head? = some c.toNat
  · rw [if_pos h, if_pos (by rw [h]; simp)]
    unfold nats
    simp
  · rw [if_neg h, if_neg (by simpa using h)]
theorem unled_lt {c : Nat} {l : List Nat} (h : ∀ b ∈ l, b < 256) : ∀ b ∈ unled c l, b < 256 := fun b hb => by
  unfold unled at hb
  split at hb
  · exact h b (List.mem_of_mem_tail hb)
  · exact h b hb
theorem unled_len (c : Nat) (l : List Nat) : (unled c l).length ≤ l.length := by
  unfold unled
  split
  · rw [List.length_tail]; omega
  · exact Nat.le_refl _

/-! Digits. -/
theorem decF_digits : ∀ (f n : Nat), n < 10 ^ (f + 1) → (Lib.decDigits n).map UInt8.toNat = decF f n
  | 0, n, h => by
    have h1 : n < 10 := by simpa using h
    rw [Lib.decDigits_one h1]
    unfold decF
    simp only [List.map_cons, List.map_nil]
    rw [show (UInt8.ofNat (48 + n)).toNat = 48 + n by simp; omega]
    congr 1
    omega
  | f + 1, n, h => by
    unfold decF
    by_cases hn : n < 10
    · rw [if_pos hn, Lib.decDigits_one hn]
      simp only [List.map_cons, List.map_nil]
      rw [show (UInt8.ofNat (48 + n)).toNat = 48 + n by simp; omega]
    · rw [if_neg hn, Lib.decDigits, dif_neg hn, List.map_append, decF_digits f (n / 10) (by rw [Nat.pow_succ] at h; omega)]
      simp only [List.map_cons, List.map_nil]
      rw [show (UInt8.ofNat (48 + n % 10)).toNat = 48 + n % 10 by simp; omega]
theorem itoa_txt {n : Nat} (h : n ≤ top) : (⟨(Lib.itoa (n : Int)).toArray⟩ : ByteArray) = txt (dec n) := by
  rw [Lib.itoa_nonneg]
  have h1 := decF_digits 20 n (by unfold top at h; omega)
  have h2 : dec n = (Lib.decDigits n).map UInt8.toNat := h1.symm
  rw [h2]
  unfold txt
  rw [List.map_map]
  congr 2
  rw [show (UInt8.ofNat ∘ UInt8.toNat) = id by funext b; simp, List.map_id]

/-! Joined texts. -/
theorem join_more (x : List Nat) (r : List (List Nat)) : (⟨(Lib.join (((x :: r).map txt).map (·.data.toList)) [59, 32]).toArray⟩ : ByteArray) = txt (x ++ r.flatMap fun a => 59 :: 32 :: a) := by
  have h1 : ∀ l : List Nat, (txt l).data.toList = l.map UInt8.ofNat := fun l => by simp [txt]
  rw [List.map_cons, List.map_cons, Lib.join_cons, h1]
  unfold txt Lib.joinTail
  congr 2
  rw [List.map_append]
  congr 1
  induction r with
  | nil => rfl
  | cons a r ih =>
    simp only [List.map_cons, List.flatten_cons, List.flatMap_cons, List.map_append] at ih ⊢
    rw [ih]
    simp

/-! The parts of a header, without the blanks ahead. -/
def pPath (c : CookieT) : List (List Nat) := if c.path = [] then [] else [[80, 97, 116, 104, 61] ++ c.path]
def pAge (c : CookieT) : List (List Nat) := if c.age = -1 then [] else [[77, 97, 120, 45, 65, 103, 101, 61] ++ dec c.age.toNat]
def pSec (c : CookieT) : List (List Nat) := if c.sec then [[83, 101, 99, 117, 114, 101]] else []
def pHttp (c : CookieT) : List (List Nat) := if c.http then [[72, 116, 116, 112, 79, 110, 108, 121]] else []
def pSite (c : CookieT) : List (List Nat) :=
  if c.site = 1 then [[83, 97, 109, 101, 83, 105, 116, 101, 61, 83, 116, 114, 105, 99, 116]]
  else if c.site = 2 then [[83, 97, 109, 101, 83, 105, 116, 101, 61, 76, 97, 120]]
  else if c.site = 3 then [[83, 97, 109, 101, 83, 105, 116, 101, 61, 78, 111, 110, 101]] else []
def more (c : CookieT) : List (List Nat) := pPath c ++ pAge c ++ pSec c ++ pHttp c ++ pSite c
theorem header_more {c : CookieT} (h : -1 ≤ c.age) : header c = c.name ++ 61 :: c.value ++ (more c).flatMap fun a => 59 :: 32 :: a := by
  unfold header
  congr 1
  have e1 : (aPath c).flatMap (fun a => 59 :: a) = (pPath c).flatMap fun a => 59 :: 32 :: a := by
    unfold aPath pPath
    split <;> simp
  have e2 : (aAge c).flatMap (fun a => 59 :: a) = (pAge c).flatMap fun a => 59 :: 32 :: a := by
    unfold aAge pAge
    by_cases hp : 0 ≤ c.age
    · rw [if_pos hp, if_neg (by omega)]
      simp
    · rw [if_neg hp, if_pos (by omega)]
      rfl
  have e3 : (aSec c).flatMap (fun a => 59 :: a) = (pSec c).flatMap fun a => 59 :: 32 :: a := by
    unfold aSec pSec
    split <;> simp
  have e4 : (aHttp c).flatMap (fun a => 59 :: a) = (pHttp c).flatMap fun a => 59 :: 32 :: a := by
    unfold aHttp pHttp
    split <;> simp
  have e5 : (aSite c).flatMap (fun a => 59 :: a) = (pSite c).flatMap fun a => 59 :: 32 :: a := by
    unfold aSite pSite
    split
    · simp
    · split
      · simp
      · split <;> simp
  unfold attrsOf more
  simp only [List.flatMap_append]
  rw [e1, e2, e3, e4, e5]
end BakeMath
