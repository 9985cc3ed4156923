/-
  Texts of one claim, merged.
  TextStream: Plain mathematics of chapter 4: letters and bytes one by one, with so many bits held: what comes out is the document's. No program, no conditions but those typed.
  TextNumber: The contracts of the program's own number, octet, alphanumeric of chapter 4. The condition: a byte.
-/
import Derived.Test.YtlgofepmdjlpgaaDoorPart15
import Derived.Test.YtlgofepmdjlpgaaDoorPart07
import Derived.Test.YtlgofepmdjlpgaaDoorProg
import Derived.WalkKit
import Derived.Handy
import Derived.Outline
import Derived.Lib.Hide
import Derived.Deep.LoopGhost
import Derived.Deep.RegionWith
import Derived.Lib.Strings
namespace TextMath

/-- The letters of n held bits (worth r) and of the bytes behind them. -/
def lettersFrom (n r : Nat) (l : List Nat) : List Nat :=
  if 6 ≤ n then letter (r / 2 ^ (n - 6) % 64) :: lettersFrom (n - 6) (r % 2 ^ (n - 6)) l
  else match l with
    | [] => if 0 < n then [letter (r * 2 ^ (6 - n) % 64)] else []
    | b :: t => lettersFrom (n + 8) (r * 256 + b) t
termination_by (l.length, n)
/-- The bytes of n held bits (worth r) and of the letters behind them. -/
def bytesFrom (n r : Nat) (l : List Nat) : List Nat :=
  if 8 ≤ n then r / 2 ^ (n - 8) % 256 :: bytesFrom (n - 8) (r % 2 ^ (n - 8)) l
  else match l with
    | [] => []
    | c :: t => bytesFrom (n + 6) (r * 64 + number c) t
termination_by (l.length, n)

theorem letters_put {n : Nat} (r : Nat) (l : List Nat) (h : 6 ≤ n) : lettersFrom n r l = letter (r / 2 ^ (n - 6) % 64) :: lettersFrom (n - 6) (r % 2 ^ (n - 6)) l := by
  rw [lettersFrom.eq_def, if_pos h]
theorem letters_take {n : Nat} (r b : Nat) (t : List Nat) (h : n < 6) : lettersFrom n r (b :: t) = lettersFrom (n + 8) (r * 256 + b) t := by
  rw [lettersFrom, if_neg (by omega)]
theorem letters_end {n : Nat} (r : Nat) (h : n < 6) : lettersFrom n r [] = if 0 < n then [letter (r * 2 ^ (6 - n) % 64)] else [] := by
  rw [lettersFrom, if_neg (by omega)]
theorem bytes_put {n : Nat} (r : Nat) (l : List Nat) (h : 8 ≤ n) : bytesFrom n r l = r / 2 ^ (n - 8) % 256 :: bytesFrom (n - 8) (r % 2 ^ (n - 8)) l := by
  rw [bytesFrom.eq_def, if_pos h]
theorem bytes_take {n : Nat} (r c : Nat) (t : List Nat) (h : n < 8) : bytesFrom n r (c :: t) = bytesFrom (n + 6) (r * 64 + number c) t := by
  rw [bytesFrom, if_neg (by omega)]
theorem bytes_end {n : Nat} (r : Nat) (h : n < 8) : bytesFrom n r [] = [] := by
  rw [bytesFrom, if_neg (by omega)]

theorem letters_all : ∀ (l : List Nat), (∀ b ∈ l, b < 256) → lettersFrom 0 0 l = enc l
  | [], _ => by
    rw [letters_end _ (by decide)]
    rfl
  | [a], h => by
    have ha := h a (by simp)
    rw [letters_take _ _ _ (by decide), letters_put _ _ (by decide), letters_end _ (by decide), if_pos (by decide), enc_one a ha]
    congr 2
    · simp only [Nat.zero_mul, Nat.zero_add, Nat.reduceSub, Nat.reducePow]
      omega
    · congr 1
      simp only [Nat.zero_mul, Nat.zero_add, Nat.reduceSub, Nat.reducePow]
      omega
  | [a, b], h => by
    have ha := h a (by simp)
    have hb := h b (by simp)
    rw [letters_take _ _ _ (by decide), letters_put _ _ (by decide), letters_take _ _ _ (by decide), letters_put _ _ (by decide), letters_end _ (by decide), if_pos (by decide), enc_two a b ha hb]
    simp only [Nat.zero_mul, Nat.zero_add, Nat.reduceSub, Nat.reducePow, Nat.reduceAdd]
    rw [show a / 4 % 64 = a / 4 by omega, show (a % 4 * 256 + b) / 16 % 64 = a % 4 * 16 + b / 16 by omega, show (a % 4 * 256 + b) % 16 * 4 % 64 = b % 16 * 4 by omega]
  | a :: b :: c :: r, h => by
    have ha := h a (by simp)
    have hb := h b (by simp)
    have hc := h c (by simp)
    have ih := letters_all r (fun x hx => h x (by simp [hx]))
    rw [letters_take _ _ _ (by decide), letters_put _ _ (by decide), letters_take _ _ _ (by decide), letters_put _ _ (by decide), letters_take _ _ _ (by decide), letters_put _ _ (by decide), letters_put _ _ (by decide), enc_cons a b c r ha hb hc]
    simp only [Nat.zero_mul, Nat.zero_add, Nat.reduceSub, Nat.reducePow, Nat.reduceAdd, Nat.mod_one, Nat.div_one]
    rw [ih, show a / 4 % 64 = a / 4 by omega, show (a % 4 * 256 + b) / 16 % 64 = a % 4 * 16 + b / 16 by omega, show ((a % 4 * 256 + b) % 16 * 256 + c) / 64 % 64 = b % 16 * 4 + c / 64 by omega,
      show ((a % 4 * 256 + b) % 16 * 256 + c) % 64 % 64 = c % 64 by omega]

theorem bytes_all : ∀ (l : List Nat), (∀ c ∈ l, number c < 64) → l.length % 4 ≠ 1 → bytesFrom 0 0 l = decBytes l
  | [], _, _ => by
    rw [bytes_end _ (by decide)]
    rfl
  | [a], _, h => absurd rfl h
  | [a, b], h, _ => by
    have ha := h a (by simp)
    have hb := h b (by simp)
    rw [bytes_take _ _ _ (by decide), bytes_take _ _ _ (by decide), bytes_put _ _ (by decide), bytes_end _ (by decide), dec_last_two a b ha hb]
    simp only [Nat.zero_mul, Nat.zero_add, Nat.reduceSub, Nat.reducePow, Nat.reduceAdd]
    rw [show (number a * 64 + number b) / 16 % 256 = number a * 4 + number b / 16 by omega]
  | [a, b, c], h, _ => by
    have ha := h a (by simp)
    have hb := h b (by simp)
    have hc := h c (by simp)
    rw [bytes_take _ _ _ (by decide), bytes_take _ _ _ (by decide), bytes_put _ _ (by decide), bytes_take _ _ _ (by decide), bytes_put _ _ (by decide), bytes_end _ (by decide), dec_last_three a b c ha hb hc]
    simp only [Nat.zero_mul, Nat.zero_add, Nat.reduceSub, Nat.reducePow, Nat.reduceAdd]
    rw [show (number a * 64 + number b) / 16 % 256 = number a * 4 + number b / 16 by omega, show ((number a * 64 + number b) % 16 * 64 + number c) / 4 % 256 = number b % 16 * 16 + number c / 4 by omega]
  | a :: b :: c :: d :: r, h, hl => by
    have ha := h a (by simp)
    have hb := h b (by simp)
    have hc := h c (by simp)
    have hd := h d (by simp)
    have ih := bytes_all r (fun x hx => h x (by simp [hx])) (by simp only [List.length_cons] at hl; omega)
    rw [bytes_take _ _ _ (by decide), bytes_take _ _ _ (by decide), bytes_put _ _ (by decide), bytes_take _ _ _ (by decide), bytes_put _ _ (by decide), bytes_take _ _ _ (by decide), bytes_put _ _ (by decide), dec_cons a b c d r ha hb hc hd]
    simp only [Nat.zero_mul, Nat.zero_add, Nat.reduceSub, Nat.reducePow, Nat.reduceAdd, Nat.mod_one, Nat.div_one]
    rw [ih, show (number a * 64 + number b) / 16 % 256 = number a * 4 + number b / 16 by omega, show ((number a * 64 + number b) % 16 * 64 + number c) / 4 % 256 = number b % 16 * 16 + number c / 4 by omega,
      show (((number a * 64 + number b) % 16 * 64 + number c) % 4 * 64 + number d) % 256 = number c % 4 * 64 + number d by omega]

/-- The number of the letter that c is, by the ranges; 64: it is none. -/
def numberBy (c : Nat) : Nat := if 65 ≤ c ∧ c ≤ 90 then c - 65 else if 97 ≤ c ∧ c ≤ 122 then c - 97 + 26 else if 48 ≤ c ∧ c ≤ 57 then c - 48 + 52 else if c = 45 then 62 else if c = 95 then 63 else 64
theorem number_by_table : ((List.range 256).all fun c => number c == numberBy c) = true := by kernel_rfl
theorem number_by (c : Nat) (h : c < 256) : number c = numberBy c := by
  have h1 := number_by_table
  rw [List.all_eq_true] at h1
  simpa using h1 c (List.mem_range.2 h)
end TextMath
namespace Go.Proofs.YtlgofepmdjlpgaaDoor
open Go.RowKit TextNat

/-- A byte's bounds. -/
theorem octetOk (c : Nat) (w : World) (hc : c < 256) : Calls Tryd.prog 45 #[.int .u8 (c : Int)] w fun e w' => e = .returned (.bool (TextMath.octet c)) ∧ w' = w := by
  go_enter Tryd.func45, Tryd.ntmps45
  go_wp2
  all_goals
    go_ret
    refine ⟨?_, rfl⟩
    show Ending.returned (Value.bool _) = Ending.returned (Value.bool _)
    congr 2
    unfold TextMath.octet
    rw [Bool.eq_iff_iff]
    simp
    (try simp only [beq_iff_eq, beq_eq_false_iff_ne, ne_eq] at *)
    omega

theorem alphanumericOk (c : Nat) (w : World) (hc : c < 256) : Calls Tryd.prog 43 #[.int .u8 (c : Int)] w fun e w' => e = .returned (.bool (baseOctet c)) ∧ w' = w := by
  go_enter Tryd.func43, Tryd.ntmps43
  go_wp2
  all_goals
    go_ret
    refine ⟨?_, rfl⟩
    show Ending.returned (Value.bool _) = Ending.returned (Value.bool _)
    congr 2
    unfold baseOctet
    rw [Bool.eq_iff_iff]
    simp
    (try simp only [beq_iff_eq, beq_eq_false_iff_ne, ne_eq] at *)
    omega
end Go.Proofs.YtlgofepmdjlpgaaDoor
