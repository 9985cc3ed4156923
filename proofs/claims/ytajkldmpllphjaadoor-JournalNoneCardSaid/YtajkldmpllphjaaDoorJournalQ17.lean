/-
  What Open comes to in chapter 10, way by way, as the program asks it. No program is run here.
-/
import Derived.Test.YtajkldmpllphjaaDoorJournalQ10
import Derived.Test.YtajkldmpllphjaaDoorJournalQ16
namespace Go.Proofs.YtajkldmpllphjaaDoor
open Go.RowKit BlockMath FrameMath TextNat JournalMath

theorem reading_end {l : List Nat} (hl : Oct l) : ∀ (k i : Nat) (D : List Part), l.length - i ≤ k → Reading l i D → Reading l (endOf l) (partsOf l)
  | k, i, D, hk, h => by
    cases hat : atP l i with
    | none =>
      obtain ⟨h1, h2⟩ := h.stop hat
      rw [h1, h2]
      exact h
    | some q =>
      obtain ⟨p, m⟩ := q
      obtain ⟨_, q2, _, q4, _⟩ := atP_is hl hat
      have h5 := seal_len p
      match k, hk with
      | 0, hk => exact absurd hk (by omega)
      | k + 1, hk => exact reading_end hl k m (D ++ [p]) (by omega) (h.next hl hat)
theorem reading_all (s : ByteArray) : Reading (nats s) (endOf (nats s)) (partsOf (nats s)) := reading_end (nats_ok s) _ 0 [] (Nat.le_refl _) (Reading.start _)
theorem begun_gen {L : List Part} (hv : ∀ p ∈ L, Valid p) : begunB L = true ↔ 0 < genOf L := by
  cases L with
  | nil =>
    constructor
    · intro h
      exact absurd h (by decide)
    · intro h
      exact absurd h (by decide)
  | cons p r =>
    unfold begunB genOf
    show (p.kind == 1) = true ↔ 0 < (if p.kind = 1 then p.gen else 0)
    have h1 := (hv p (List.mem_cons_self ..)).g1
    by_cases hk : p.kind = 1
    · rw [if_pos hk, hk]
      exact ⟨fun _ => by omega, fun _ => rfl⟩
    · rw [if_neg hk]
      exact ⟨fun h => absurd (by simpa using h) hk, fun h => by omega⟩
theorem begun_head {L : List Part} (h : begunB L = true) : genOf L = headGen L := by
  cases L with
  | nil => cases h
  | cons p r =>
    have hk : p.kind = 1 := by simpa [begunB] using h
    unfold genOf headGen
    show (if p.kind = 1 then p.gen else 0) = p.gen
    rw [if_pos hk]
theorem whole_begun {L : List Part} (h : whole L = true) : begunB L = true := by
  cases L with
  | nil => cases h
  | cons p r =>
    unfold whole wholeF at h
    split at h
    · rename_i hc
      have := hc.2.1.2 rfl
      unfold begunB
      show (p.kind == 1) = true
      rw [this]
      rfl
    · cases h
theorem relied_not {L M : List Part} (hv : ∀ p ∈ L, Valid p) (c : Bool) : reliedB L M c = true ↔ ¬ (0 < genOf L ∧ (!c && whole M) = true ∧ genOf L < genOf M) := by
  rw [← begun_gen hv]
  unfold reliedB
  cases hb : begunB L with
  | false => simp
  | true =>
    cases hm : (!c && whole M) with
    | false => simp
    | true =>
      have h1 := begun_head hb
      have h2 := begun_head (whole_begun (L := M) (by simp at hm; exact hm.2))
      rw [h1, h2]
      simp
def badB (x y : List Nat) : Bool := corrupt x && reliedB (partsOf x) (partsOf y) (corrupt y) || corrupt y && reliedB (partsOf y) (partsOf x) (corrupt x)
theorem bad_iff (s t : ByteArray) : badB (nats s) (nats t) = true ↔ (corrupt (nats s) = true ∧ ¬ (0 < genOf (partsOf (nats s)) ∧ (!corrupt (nats t) && whole (partsOf (nats t))) = true ∧ genOf (partsOf (nats s)) < genOf (partsOf (nats t)))) ∨ (corrupt (nats t) = true ∧ ¬ (0 < genOf (partsOf (nats t)) ∧ (!corrupt (nats s) && whole (partsOf (nats s))) = true ∧ genOf (partsOf (nats t)) < genOf (partsOf (nats s)))) := by
  unfold badB
  rw [Bool.or_eq_true, Bool.and_eq_true, Bool.and_eq_true, relied_not (reading_all s).valid, relied_not (reading_all t).valid]
section
variable {a b : Dk} (ha : a.off = false) (hb : b.off = false)
theorem opened_off (h : a.off = true ∨ b.off = true) : (opened a b).1 = 5 := by
  unfold opened
  simp only [if_pos h]
include ha hb
theorem opened_bad (h : badB (nats (all a)) (nats (all b)) = true) : (opened a b).1 = 6 := by
  have h2 := (bad_iff (all a) (all b)).1 h
  unfold opened
  simp only [ha, hb]
  rw [if_neg (by simp), if_pos h2]
theorem opened_new (h : badB (nats (all a)) (nats (all b)) = false) (hx : (!corrupt (nats (all a)) && whole (partsOf (nats (all a)))) = false) (hy : (!corrupt (nats (all b)) && whole (partsOf (nats (all b)))) = false) :
    opened a b = ((JournalMath.start [] ⟨a, b, false, 0, false⟩).1, [], (JournalMath.start [] ⟨a, b, false, 0, false⟩).2) := by
  have h2 := mt (bad_iff (all a) (all b)).2 (by rw [h]; simp)
  unfold opened
  simp only [ha, hb]
  rw [if_neg (by simp), if_neg h2, if_pos ⟨hx, hy⟩]
theorem opened_first (h : badB (nats (all a)) (nats (all b)) = false) (hx : (!corrupt (nats (all a)) && whole (partsOf (nats (all a)))) = true) (hy : (!corrupt (nats (all b)) && whole (partsOf (nats (all b)))) = false ∨ headGen (partsOf (nats (all b))) ≤ headGen (partsOf (nats (all a)))) :
    opened a b = ((JournalMath.settle a (headGen (partsOf (nats (all a)))) (partsOf (nats (all a))) (endOf (nats (all a)))).1, recs (JournalMath.settle a (headGen (partsOf (nats (all a)))) (partsOf (nats (all a))) (endOf (nats (all a)))).2.1, ⟨(JournalMath.settle a (headGen (partsOf (nats (all a)))) (partsOf (nats (all a))) (endOf (nats (all a)))).2.2, b, false, headGen (partsOf (nats (all a))), false⟩) := by
  have h2 := mt (bad_iff (all a) (all b)).2 (by rw [h]; simp)
  have e1 := begun_head (whole_begun (L := partsOf (nats (all a))) (by simp at hx; exact hx.2))
  unfold opened
  simp only [ha, hb]
  rw [if_neg (by simp), if_neg h2, if_neg (by rw [hx]; simp), if_neg (by
    rw [hx]
    rintro (h | ⟨h3, h4⟩)
    · cases h
    · rcases hy with h5 | h5
      · rw [h5] at h3
        cases h3
      · rw [e1, begun_head (whole_begun (L := partsOf (nats (all b))) (by simp at h3; exact h3.2))] at h4
        omega), e1]
theorem opened_second (h : badB (nats (all a)) (nats (all b)) = false) (hy : (!corrupt (nats (all b)) && whole (partsOf (nats (all b)))) = true) (hx : (!corrupt (nats (all a)) && whole (partsOf (nats (all a)))) = false ∨ ((!corrupt (nats (all a)) && whole (partsOf (nats (all a)))) = true ∧ headGen (partsOf (nats (all a))) < headGen (partsOf (nats (all b))))) :
    opened a b = ((JournalMath.settle b (headGen (partsOf (nats (all b)))) (partsOf (nats (all b))) (endOf (nats (all b)))).1, recs (JournalMath.settle b (headGen (partsOf (nats (all b)))) (partsOf (nats (all b))) (endOf (nats (all b)))).2.1, ⟨a, (JournalMath.settle b (headGen (partsOf (nats (all b)))) (partsOf (nats (all b))) (endOf (nats (all b)))).2.2, true, headGen (partsOf (nats (all b))), false⟩) := by
  have h2 := mt (bad_iff (all a) (all b)).2 (by rw [h]; simp)
  have e1 := begun_head (whole_begun (L := partsOf (nats (all b))) (by simp at hy; exact hy.2))
  unfold opened
  simp only [ha, hb]
  rw [if_neg (by simp), if_neg h2, if_neg (by rw [hy]; simp), if_pos (by
    rcases hx with h5 | ⟨h5, h6⟩
    · exact .inl h5
    · exact .inr ⟨hy, by rw [e1, begun_head (whole_begun (L := partsOf (nats (all a))) (by simp at h5; exact h5.2))]; exact h6⟩), e1]
end
end Go.Proofs.YtajkldmpllphjaaDoor
