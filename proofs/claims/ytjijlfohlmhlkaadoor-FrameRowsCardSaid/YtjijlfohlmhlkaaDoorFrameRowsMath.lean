/-
  Plain mathematics of chapter 9: frames one behind the other. No program, no conditions but those typed.
-/
import Derived.Test.YtjijlfohlmhlkaaDoorFrameLaws
namespace FrameMath
open TextNat Go.Proofs.YtjijlfohlmhlkaaDoor
def cat : List (List Nat) → List Nat
  | [] => []
  | p :: r => framed p ++ cat r
def upto (ps : List (List Nat)) (i : Nat) : Nat := (cat (ps.take i)).length
theorem cat_append : ∀ a b : List (List Nat), cat (a ++ b) = cat a ++ cat b
  | [], _ => rfl
  | p :: a, b => by
    show framed p ++ cat (a ++ b) = framed p ++ cat a ++ cat b
    rw [cat_append a b, List.append_assoc]
theorem cat_split {ps : List (List Nat)} {i : Nat} {p : List Nat} (h : ps[i]? = some p) : cat ps = cat (ps.take i) ++ (framed p ++ cat (ps.drop (i + 1))) := by
  have hi := (List.getElem?_eq_some_iff.1 h).1
  have : ps = ps.take i ++ p :: ps.drop (i + 1) := by
    have hp : ps[i]'hi = p := (List.getElem?_eq_some_iff.1 h).2
    rw [← hp, List.getElem_cons_drop, List.take_append_drop]
  conv => lhs; rw [this]
  rw [cat_append]
  rfl
theorem cat_snoc {ps : List (List Nat)} {i : Nat} {p : List Nat} (h : ps[i]? = some p) : cat (ps.take (i + 1)) = cat (ps.take i) ++ framed p := by
  rw [List.take_add_one, h, cat_append]
  show _ ++ (framed p ++ []) = _
  rw [List.append_nil]
theorem upto_next {ps : List (List Nat)} {i : Nat} {p : List Nat} (h : ps[i]? = some p) : upto ps (i + 1) = upto ps i + (framed p).length := by
  unfold upto
  rw [cat_snoc h, List.length_append]
theorem upto_all (ps : List (List Nat)) : upto ps ps.length = (cat ps).length := by
  unfold upto
  rw [List.take_length]
theorem upto_le {ps : List (List Nat)} (hps : ∀ p ∈ ps, p.length ≤ 300) : ∀ i, upto ps i ≤ 621 * i
  | 0 => by simp [upto, cat]
  | i + 1 => by
    cases h : ps[i]? with
    | none =>
      have : ps.take (i + 1) = ps.take i := by rw [List.take_of_length_le (by have := List.getElem?_eq_none_iff.1 h; omega), List.take_of_length_le (List.getElem?_eq_none_iff.1 h)]
      unfold upto
      rw [this]
      have := upto_le hps i
      unfold upto at this
      omega
    | some p =>
      rw [upto_next h, framed_len]
      have := upto_le hps i
      have := hps p (List.mem_of_getElem? h)
      omega
theorem cat_oct {ps : List (List Nat)} (hl : ∀ p ∈ ps, p.length ≤ 8192) (hb : ∀ p ∈ ps, Oct p) : ∀ b ∈ cat ps, b < 256 := by
  induction ps with
  | nil => intro b h; cases h
  | cons p r ih =>
    intro b h
    rcases List.mem_append.1 h with h | h
    · exact framed_bytes (hl p (by simp)) (hb p (by simp)) b h
    · exact ih (fun q hq => hl q (by simp [hq])) (fun q hq => hb q (by simp [hq])) b h
theorem upto_lt {ps : List (List Nat)} {i : Nat} {p : List Nat} (h : ps[i]? = some p) : upto ps i < (cat ps).length := by
  have := congrArg List.length (cat_split h)
  rw [List.length_append, List.length_append, framed_len] at this
  unfold upto
  omega
theorem open_cat {ps : List (List Nat)} {i : Nat} {p : List Nat} (h : ps[i]? = some p) (hp : p.length ≤ 8192) (bp : Oct p) : openF (cat ps) (upto ps i : Nat) = some p := by
  have := upto_lt h
  unfold openF
  rw [if_pos (by omega)]
  have hd : (cat ps).drop ((upto ps i : Nat) : Int).toNat = framed p ++ cat (ps.drop (i + 1)) := by
    show (cat ps).drop (upto ps i) = _
    rw [cat_split h]
    exact List.drop_left' rfl
  rw [hd]
  exact stands_framed hp bp _
theorem open_end (ps : List (List Nat)) : openF (cat ps) ((cat ps).length : Nat) = none := by
  unfold openF
  rw [if_neg (by omega)]
theorem cat_at {ps : List (List Nat)} {i : Nat} {p : List Nat} (h : ps[i]? = some p) {j : Nat} (hj : j < (framed p).length) : (cat ps)[upto ps i + j]? = (framed p)[j]? := by
  rw [cat_split h, List.getElem?_append_right (by unfold upto; omega)]
  rw [show upto ps i + j - (cat (ps.take i)).length = j by unfold upto; omega, List.getElem?_append_left hj]
theorem find_here {ps : List (List Nat)} {i : Nat} {p : List Nat} (h : ps[i]? = some p) : findF (cat ps) (upto ps i : Nat) = (upto ps i : Nat) := by
  refine find_at (Int.le_refl _) ?_ (fun j hj hk => by omega)
  have := cat_at h (j := 0) (by rw [framed_len]; omega)
  rw [Nat.add_zero] at this
  rw [this]
  rfl
theorem not_one {ps : List (List Nat)} {i : Nat} {p : List Nat} (h : ps[i]? = some p) (hp : p.length ≤ 8192) (bp : Oct p) {j : Nat} (h1 : upto ps i + 1 ≤ j) (h2 : j < upto ps (i + 1)) : (cat ps)[j]? ≠ some 1 := by
  rw [upto_next h] at h2
  obtain ⟨m, rfl⟩ : ∃ m, j = upto ps i + (m + 1) := ⟨j - upto ps i - 1, by omega⟩
  rw [cat_at h (by omega)]
  intro hk
  have hk2 : (nibs (rawF p))[m]? = some 1 := hk
  have := nibs_mem (rawF_bytes (by omega) bp) 1 (List.mem_of_getElem? hk2)
  omega
theorem find_next {ps : List (List Nat)} {i : Nat} {p : List Nat} (h : ps[i]? = some p) (hp : p.length ≤ 8192) (bp : Oct p) : findF (cat ps) ((upto ps i : Nat) + 1 : Int) = if i + 1 < ps.length then ((upto ps (i + 1) : Nat) : Int) else -1 := by
  split
  · rename_i hn
    have hq : ps[i + 1]? = some (ps[i + 1]'hn) := List.getElem?_eq_getElem hn
    refine find_at (by have := upto_next h; have := framed_len p; omega) ?_ (fun j hj hk => not_one h hp bp (by omega) hj)
    have := cat_at hq (j := 0) (by rw [framed_len]; omega)
    rw [Nat.add_zero] at this
    rw [this]
    rfl
  · rename_i hn
    have hi := (List.getElem?_eq_some_iff.1 h).1
    have hl : i + 1 = ps.length := by omega
    refine find_none fun j hk => ?_
    by_cases hj : j < upto ps (i + 1)
    · exact not_one h hp bp (by omega) hj
    · rw [List.getElem?_eq_none (by rw [hl, upto_all] at hj; omega)]
      simp
end FrameMath
