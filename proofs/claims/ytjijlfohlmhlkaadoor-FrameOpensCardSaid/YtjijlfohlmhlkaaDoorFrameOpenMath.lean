/-
  Plain mathematics of chapter 9: reading pairs of letters one by one, and what stands at a place said by what was read. No program, no conditions but those typed.
-/
import Derived.Test.YtjijlfohlmhlkaaDoorFrameLaws
namespace FrameMath
open TextNat Go.Proofs.YtjijlfohlmhlkaaDoor
/-- What is read so far, and what is to come. -/
def ReadTo (r D : List Nat) : Prop := D ++ bytesOf (r.drop (2 * D.length)) = bytesOf r
theorem ReadTo.start (r : List Nat) : ReadTo r [] := rfl
theorem drop_two {r : List Nat} {k x y : Nat} (hx : r[k]? = some x) (hy : r[k + 1]? = some y) : r.drop k = x :: y :: r.drop (k + 2) := by
  have h1 := (List.getElem?_eq_some_iff.1 hx)
  have h2 := (List.getElem?_eq_some_iff.1 hy)
  obtain ⟨a1, a2⟩ := h1
  obtain ⟨b1, b2⟩ := h2
  rw [List.drop_eq_getElem_cons a1, List.drop_eq_getElem_cons b1, a2, b2]
theorem ReadTo.next {r D : List Nat} {x y : Nat} (h : ReadTo r D) (hx : r[2 * D.length]? = some x) (hy : r[2 * D.length + 1]? = some y) (hv : 64 ≤ x ∧ x < 80 ∧ 64 ≤ y ∧ y < 80) : ReadTo r (D ++ [16 * (x - 64) + (y - 64)]) := by
  unfold ReadTo at *
  rw [drop_two hx hy, bytesOf, if_pos hv] at h
  rw [← h, List.length_append, List.append_assoc]
  show D ++ ([_] ++ bytesOf (r.drop (2 * (D.length + 1)))) = _
  rw [show 2 * (D.length + 1) = 2 * D.length + 2 by omega]
  rfl
theorem ReadTo.wrong {r D : List Nat} {x y : Nat} (h : ReadTo r D) (hx : r[2 * D.length]? = some x) (hy : r[2 * D.length + 1]? = some y) (hv : ¬ (64 ≤ x ∧ x < 80 ∧ 64 ≤ y ∧ y < 80)) : D = bytesOf r := by
  unfold ReadTo at h
  rw [drop_two hx hy, bytesOf, if_neg hv, List.append_nil] at h
  exact h
theorem ReadTo.end {r D : List Nat} (h : ReadTo r D) (hl : r.length ≤ 2 * D.length + 1) : D = bytesOf r := by
  unfold ReadTo at h
  have hs : (r.drop (2 * D.length)).length ≤ 1 := by rw [List.length_drop]; omega
  have : bytesOf (r.drop (2 * D.length)) = [] := by
    match hr : r.drop (2 * D.length), hs with
    | [], _ => rfl
    | [_], _ => rfl
    | _ :: _ :: _, hs => simp at hs
  rw [this, List.append_nil] at h
  exact h
theorem bytesOf_lt (r : List Nat) : ∀ b ∈ bytesOf r, b < 256 := by
  induction r using bytesOf.induct with
  | case1 a b r hc ih =>
    unfold bytesOf
    rw [if_pos hc]
    intro x hx
    rcases List.mem_cons.1 hx with rfl | hx
    · omega
    · exact ih x hx
  | case2 a b r hc =>
    unfold bytesOf
    rw [if_neg hc]
    intro x hx
    cases hx
  | case3 l hl =>
    intro x hx
    unfold bytesOf at hx
    split at hx
    · rename_i a b r
      exact absurd rfl (hl a b r)
    · cases hx
theorem bytesOf_len (r : List Nat) : 2 * (bytesOf r).length ≤ r.length := by
  induction r using bytesOf.induct with
  | case1 a b r hc ih =>
    unfold bytesOf
    rw [if_pos hc, List.length_cons, List.length_cons, List.length_cons]
    omega
  | case2 a b r hc =>
    unfold bytesOf
    rw [if_neg hc]
    simp
  | case3 l hl =>
    unfold bytesOf
    split
    · rename_i a b r
      exact absurd rfl (hl a b r)
    · simp
/-- What stands at a place, by what was read behind it. -/
theorem openF_at {l : List Nat} {i : Nat} (h1 : l[i]? = some 1) {D : List Nat} (hD : D = bytesOf (l.drop (i + 1))) {n : Nat} (hn : n = D.getD 0 0 * 256 + D.getD 1 0) :
    openF l (i : Int) = if D.length < 10 then none else if 8192 < n ∨ D.length - 10 < n then none else if rawF ((D.drop 6).take n) = D.take (10 + n) then some ((D.drop 6).take n) else none := by
  have hi := (List.getElem?_eq_some_iff.1 h1).1
  unfold openF
  rw [if_pos (by omega)]
  show stands (l.drop i) = _
  rw [List.drop_eq_getElem_cons hi, (List.getElem?_eq_some_iff.1 h1).2]
  unfold stands
  simp only []
  rw [← hD, ← hn]
theorem openF_not {l : List Nat} {i z : Nat} (h1 : l[i]? = some z) (hz : z ≠ 1) : openF l (i : Int) = none := by
  have hi := (List.getElem?_eq_some_iff.1 h1).1
  unfold openF
  rw [if_pos (by omega)]
  show stands (l.drop i) = _
  rw [List.drop_eq_getElem_cons hi, (List.getElem?_eq_some_iff.1 h1).2]
  unfold stands
  split
  · rename_i r h
    exact absurd (List.cons.inj h).1 hz
  · rfl
theorem openF_out {l : List Nat} {k : Int} (h : k < 0 ∨ (l.length : Int) ≤ k) : openF l k = none := by
  unfold openF
  rw [if_neg (by omega)]
end FrameMath
