/-
  Plain mathematics of chapter 7: how stamps stand, the greatest one. No program, no conditions but those typed.
-/
import Derived.Test.YtkoojfpafgkgiaaInts
namespace StampMath
/-- A stamp: its time, its region. -/
abbrev St := Int × Int
def less (a b : St) : Bool := if a.1 = b.1 then decide (a.2 < b.2) else decide (a.1 < b.1)
theorem less_iff {a b : St} : less a b = true ↔ a.1 < b.1 ∨ (a.1 = b.1 ∧ a.2 < b.2) := by
  unfold less
  split
  · rw [decide_eq_true_iff]; omega
  · rw [decide_eq_true_iff]; omega
theorem less_not {a b : St} : less a b = false ↔ b.1 < a.1 ∨ (a.1 = b.1 ∧ b.2 ≤ a.2) := by
  rw [← Bool.not_eq_true, less_iff]
  omega
theorem less_self (a : St) : less a a = false := by rw [less_not]; omega
/-- Of two unlike ones just one is below the other. -/
theorem less_one (a b : St) : (decide (a = b) == (less a b != less b a)) = false := by
  obtain ⟨a1, a2⟩ := a
  obtain ⟨b1, b2⟩ := b
  cases h : less (a1, a2) (b1, b2) <;> cases k : less (b1, b2) (a1, a2)
  · rw [less_not] at h k
    have e : (a1, a2) = (b1, b2) := by simp at h k ⊢; omega
    rw [decide_eq_true e]
    rfl
  · rw [less_not] at h
    rw [less_iff] at k
    have e : ¬ (a1, a2) = (b1, b2) := by simp at h k ⊢; omega
    rw [decide_eq_false e]
    rfl
  · rw [less_iff] at h
    rw [less_not] at k
    have e : ¬ (a1, a2) = (b1, b2) := by simp at h k ⊢; omega
    rw [decide_eq_false e]
    rfl
  · rw [less_iff] at h k
    simp at h k
    omega
theorem less_trans {a b c : St} (h : less a b = true) (k : less b c = true) : less a c = true := by
  rw [less_iff] at *
  omega
/-- Is it below none of them? -/
def top (l : List St) (a : St) : Bool := l.all fun b => !less a b
theorem top_iff {l : List St} {a : St} : top l a = true ↔ ∀ b ∈ l, less a b = false := by simp [top]
theorem top_one {l : List St} {a b : St} (ha : a ∈ l) (hb : b ∈ l) (h : top l a = true) (k : top l b = true) : a = b := by
  have h1 := top_iff.1 h b hb
  have h2 := top_iff.1 k a ha
  rw [less_not] at h1 h2
  obtain ⟨a1, a2⟩ := a
  obtain ⟨b1, b2⟩ := b
  simp at h1 h2 ⊢
  omega
/-- The greatest: the first that is below none. -/
def great (l : List St) : Option St := l.find? (top l)
def greatV (l : List St) : St := (great l).getD (0, 0)
def greatB (l : List St) : Bool := (great l).isSome
theorem great_is {l : List St} {a : St} (ha : a ∈ l) (h : top l a = true) : great l = some a := by
  unfold great
  cases hf : l.find? (top l) with
  | none =>
    have := List.find?_eq_none.1 hf a ha
    exact absurd h this
  | some b => rw [top_one (List.mem_of_find?_eq_some hf) ha (List.find?_some hf) h]
theorem great_none {l : List St} (h : ∀ (i : Nat) (a : St), l[i]? = some a → top l a = false) : great l = none := by
  unfold great
  rw [List.find?_eq_none]
  intro a ha
  obtain ⟨i, hi⟩ := List.getElem?_of_mem ha
  rw [h i a hi]
  exact Bool.false_ne_true
theorem great_at {l : List St} {i : Nat} {a : St} (hi : l[i]? = some a) (h : top l a = true) : greatV l = a ∧ greatB l = true := by
  have hg := great_is (List.mem_of_getElem? hi) h
  unfold greatV greatB
  rw [hg]
  exact ⟨rfl, rfl⟩
theorem great_nil {l : List St} (h : great l = none) : greatV l = (0, 0) ∧ greatB l = false := by
  unfold greatV greatB
  rw [h]
  exact ⟨rfl, rfl⟩
/-- Below none of the first ones? -/
def topTo (l : List St) (a : St) (k : Nat) : Bool := (l.take k).all fun b => !less a b
theorem topTo_zero (l : List St) (a : St) : topTo l a 0 = true := by simp [topTo]
theorem topTo_step {l : List St} {a b : St} {k : Nat} (h : l[k]? = some b) : topTo l a (k + 1) = (topTo l a k && !less a b) := by
  unfold topTo
  rw [List.take_add_one, h]
  simp
theorem topTo_all {l : List St} {a : St} {k : Nat} (h : l.length ≤ k) : topTo l a k = top l a := by
  unfold topTo top
  rw [List.take_of_length_le h]
/-- A greatest one there always is, if there is any. -/
theorem top_exists : ∀ l : List St, l ≠ [] → ∃ a ∈ l, top l a = true
  | [], h => absurd rfl h
  | [a], _ => ⟨a, by simp, by simp [top, less_self]⟩
  | a :: b :: l, _ => by
    obtain ⟨c, hc, ht⟩ := top_exists (b :: l) (by simp)
    cases h : less c a with
    | false => exact ⟨c, List.mem_cons_of_mem _ hc, top_iff.2 fun x hx => by
        rcases List.mem_cons.1 hx with rfl | hx
        · exact h
        · exact top_iff.1 ht x hx⟩
    | true => exact ⟨a, by simp, top_iff.2 fun x hx => by
        rcases List.mem_cons.1 hx with rfl | hx
        · exact less_self _
        · have h1 := top_iff.1 ht x hx
          rw [less_not] at h1 ⊢
          rw [less_iff] at h
          omega⟩
end StampMath
