/-
  Texts of one claim, merged.
  Grow: For rows that the call itself makes, of bytes or of ints, over this program: what 'append' asks of the element's type, one new cell, a row of bytes as a text. No conditions but those typed.
  WireMath: Plain mathematics of chapter 5 over lists of numbers: a number's groups of seven bits, what stands next in some bytes, things one behind the other. No program, no conditions but those typed.
-/
import Derived.Test.YtlgofepmdjlpgaaDoorProg
import Derived.Test.YtlgofepmdjlpgaaDoorPart07
import Derived.Test.YtlgofepmdjlpgaaDoorPart08
import Derived.Test.YtlgofepmdjlpgaaDoorPart09
import Derived.Test.YtlgofepmdjlpgaaDoorPart02
import Derived.WalkKit
import Derived.Handy
import Derived.Outline
import Derived.Lib.Hide
import Derived.Deep.LoopGhost
import Derived.Deep.RegionWith
import Derived.Deep.RegionLaw
import Derived.StillTailTactics
import Derived.BigQuiet
import Derived.Laws.IdiomStrings
import Derived.Test.YtlgofepmdjlpgaaDoorPart03
namespace Go.Proofs.YtlgofepmdjlpgaaDoor
open Go.RowKit TextNat

theorem info_byte : (Tryd.prog.info? 5).map (fun i => (i.zero, i.size, i.bytes)) = some (some (.int .u8 0), 1, 1) := by kernel_rfl
/-- Bytes in memory, as a text. -/
theorem text_row (w : World) (B cap : Nat) (D : List Nat) (hD : ∀ b ∈ D, b < 256) (hc : ∀ j, j < D.length → w.cell? ⟨B, j, none⟩ = (natVals .u8 D)[j]?) :
    (convert 41 9 (.slice (some ⟨B, 0, none⟩) D.length cap)).run Tryd.prog w = .ok (.string (txt D)) w := by
  have h := run_convert_bytes_back (P := Tryd.prog) w 41 9 5 ⟨B, 0, none⟩ cap (D.map UInt8.ofNat) Tryd.underlying41 Tryd.underlying5 Tryd.underlying9 (fun j hj => by
    have hj' : j < D.length := by simpa using hj
    rw [WideShapes.add_plain, Nat.zero_add, hc j hj', natVals_at, List.getElem?_eq_getElem hj']
    have hb := hD D[j] (List.getElem_mem hj')
    simp [Nat.mod_eq_of_lt hb])
  rw [List.length_map] at h
  exact h
end Go.Proofs.YtlgofepmdjlpgaaDoor
namespace WireMath

/-- A number's bytes; f: how many at most. -/
def numF : Nat → Nat → List Nat
  | 0, n => [n]
  | f + 1, n => if n < 128 then [n] else (n % 128 + 128) :: numF f (n / 128)
def num (n : Nat) : List Nat := numF 8 n

theorem numF_len_pos : ∀ f n, 0 < (numF f n).length
  | 0, _ => by simp [numF]
  | f + 1, n => by unfold numF; split <;> simp
theorem numF_len : ∀ f n, (numF f n).length ≤ f + 1
  | 0, _ => by simp [numF]
  | f + 1, n => by
    unfold numF
    split
    · simp
    · have := numF_len f (n / 128)
      simp only [List.length_cons]
      omega
theorem numF_lt : ∀ f n, n < 128 ^ (f + 1) → ∀ b ∈ numF f n, b < 256
  | 0, n, h, b, hb => by
    simp [numF] at hb
    simp at h
    omega
  | f + 1, n, h, b, hb => by
    unfold numF at hb
    split at hb
    · simp at hb; omega
    · rcases List.mem_cons.1 hb with rfl | hb
      · omega
      · exact numF_lt f (n / 128) (Nat.div_lt_of_lt_mul (by rw [Nat.pow_succ, Nat.mul_comm] at h; exact h)) b hb
theorem num_lt (n : Nat) (h : n < 9223372036854775808) : ∀ b ∈ num n, b < 256 := numF_lt 8 n h
theorem num_len (n : Nat) : (num n).length ≤ 9 := numF_len 8 n
theorem num_len_pos (n : Nat) : 0 < (num n).length := numF_len_pos 8 n
/-- More room changes nothing. -/
theorem numF_more : ∀ f n, n < 128 ^ (f + 1) → numF (f + 1) n = numF f n
  | 0, n, h => by
    simp at h
    simp [numF, h]
  | f + 1, n, h => by
    have h2 : n / 128 < 128 ^ (f + 1) := Nat.div_lt_of_lt_mul (by rw [Nat.pow_succ, Nat.mul_comm] at h; exact h)
    unfold numF
    split
    · rfl
    · rw [numF_more f _ h2]
theorem num_step (n : Nat) (h : 128 ≤ n) (h2 : n < 9223372036854775808) : num n = (n % 128 + 128) :: num (n / 128) := by
  unfold num
  rw [show (8 : Nat) = 7 + 1 from rfl]
  conv => lhs; unfold numF
  rw [if_neg (by omega), numF_more 7 (n / 128) (by show n / 128 < 128 ^ 8; omega)]
theorem num_small (n : Nat) (h : n < 128) : num n = [n] := by
  show numF (7 + 1) n = [n]
  unfold numF
  rw [if_pos h]

/-- The number that stands at the beginning, and of how many bytes; f: how many at most. -/
def rawF : Nat → List Nat → Option (Nat × Nat)
  | 0, _ => none
  | _ + 1, [] => none
  | f + 1, c :: r => if c < 128 then some (c, 1) else
    match rawF f r with
    | none => none
    | some (v, k) => if v = 0 then none else some (c - 128 + 128 * v, k + 1)
def top : Nat := 4611686018427387903
/-- The number that stands next, at most so great. -/
def next (l : List Nat) (most : Int) : Option (Nat × Nat) :=
  match rawF 9 l with
  | none => none
  | some (v, k) => if (v : Int) ≤ most ∧ v ≤ top then some (v, k) else none

/-- What a number is written as is read as it. -/
theorem rawF_num : ∀ (f n : Nat) (r : List Nat), n < 128 ^ (f + 1) → rawF (f + 1) (numF f n ++ r) = some (n, (numF f n).length)
  | 0, n, r, h => by
    simp at h
    simp [numF, rawF, h]
  | f + 1, n, r, h => by
    unfold numF
    split
    · rename_i h1
      simp [rawF, h1]
    · rename_i h1
      have h2 : n / 128 < 128 ^ (f + 1) := Nat.div_lt_of_lt_mul (by rw [Nat.pow_succ, Nat.mul_comm] at h; exact h)
      have ih := rawF_num f (n / 128) r h2
      rw [List.cons_append, rawF, if_neg (by omega), ih]
      simp only
      rw [if_neg (by omega)]
      simp only [List.length_cons, Option.some.injEq, Prod.mk.injEq, and_true]
      omega
/-- What is read as a number is what it is written as. -/
theorem rawF_says : ∀ (f : Nat) (l : List Nat) (v k : Nat), (∀ b ∈ l, b < 256) → rawF (f + 1) l = some (v, k) → v < 128 ^ (f + 1) ∧ k = (numF f v).length ∧ ∃ r, l = numF f v ++ r
  | _, [], _, _, _, h => by simp [rawF] at h
  | 0, c :: r, v, k, _, h => by
    unfold rawF at h
    split at h
    · rename_i h1
      simp only [Option.some.injEq, Prod.mk.injEq] at h
      obtain ⟨rfl, rfl⟩ := h
      exact ⟨by simpa using h1, rfl, r, rfl⟩
    · simp [rawF] at h
  | f + 1, c :: r, v, k, hl, h => by
    unfold rawF at h
    split at h
    · rename_i h1
      simp only [Option.some.injEq, Prod.mk.injEq] at h
      obtain ⟨rfl, rfl⟩ := h
      refine ⟨?_, ?_, r, ?_⟩
      · have : 128 ≤ 128 ^ (f + 1 + 1) := by rw [Nat.pow_succ]; have := Nat.pow_pos (n := f + 1) (show 0 < 128 by omega); omega
        omega
      · unfold numF; rw [if_pos h1]; rfl
      · unfold numF; rw [if_pos h1]; rfl
    · rename_i h1
      cases hr : rawF (f + 1) r with
      | none => rw [hr] at h; simp at h
      | some p =>
        obtain ⟨v2, k2⟩ := p
        rw [hr] at h
        simp only at h
        split at h
        · cases h
        · rename_i h3
          simp only [Option.some.injEq, Prod.mk.injEq] at h
          obtain ⟨rfl, rfl⟩ := h
          obtain ⟨e1, e2, r2, e3⟩ := rawF_says f r v2 k2 (fun b hb => hl b (List.mem_cons_of_mem _ hb)) hr
          have hc : c < 256 := hl c (List.mem_cons_self ..)
          have hd : (c - 128 + 128 * v2) / 128 = v2 := by omega
          have hm : (c - 128 + 128 * v2) % 128 + 128 = c := by omega
          refine ⟨?_, ?_, r2, ?_⟩
          · rw [Nat.pow_succ]; omega
          · rw [numF, if_neg (by omega), hd, e2]; rfl
          · rw [numF, if_neg (by omega), hd, hm, List.cons_append, ← e3]
theorem next_num (n : Nat) (r : List Nat) (most : Int) (h1 : (n : Int) ≤ most) (h2 : n ≤ top) : next (num n ++ r) most = some (n, (num n).length) := by
  unfold next num
  rw [rawF_num 8 n r (by unfold top at h2; show n < 128 ^ 9; omega)]
  simp only
  rw [if_pos ⟨h1, h2⟩]
theorem next_says {l : List Nat} {most : Int} {v k : Nat} (hl : ∀ b ∈ l, b < 256) (h : next l most = some (v, k)) : (v : Int) ≤ most ∧ v ≤ top ∧ k = (num v).length ∧ ∃ r, l = num v ++ r := by
  unfold next at h
  cases hr : rawF 9 l with
  | none => rw [hr] at h; cases h
  | some p =>
    obtain ⟨v2, k2⟩ := p
    rw [hr] at h
    simp only at h
    split at h
    · rename_i h3
      simp only [Option.some.injEq, Prod.mk.injEq] at h
      obtain ⟨rfl, rfl⟩ := h
      obtain ⟨_, e2, e3⟩ := rawF_says 8 l v2 k2 hl hr
      exact ⟨h3.1, h3.2, e2, e3⟩
    · cases h
/-- A number that is cut is none. -/
theorem rawF_cut : ∀ (f n j : Nat), n < 128 ^ (f + 1) → j < (numF f n).length → rawF (f + 1) ((numF f n).take j) = none
  | 0, n, j, _, hj => by
    simp [numF] at hj
    subst hj
    rfl
  | f + 1, n, j, h, hj => by
    unfold numF at hj ⊢
    cases j with
    | zero => rfl
    | succ j =>
      split at hj
      · simp at hj
      · rename_i h1
        rw [if_neg h1]
        have h2 : n / 128 < 128 ^ (f + 1) := Nat.div_lt_of_lt_mul (by rw [Nat.pow_succ, Nat.mul_comm] at h; exact h)
        rw [List.take_succ_cons, rawF, if_neg (by omega), rawF_cut f (n / 128) j h2 (by simpa using hj)]
end WireMath
