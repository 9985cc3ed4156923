/-
  Plain mathematics of chapter 9: a frame that is turned at a place, cut, or has noughts, is none. No program, no conditions but those typed.
-/
import Derived.Test.YtjijlfohlmhlkaaDoorFrameMath
namespace FrameMath
open CrcMath
theorem framed_mem {p : List Nat} (h : p.length ≤ 65535) (hp : Oct p) : ∀ b ∈ framed p, b = 1 ∨ (64 ≤ b ∧ b < 80) := by
  intro b hb
  rcases List.mem_cons.1 hb with rfl | hb
  · exact Or.inl rfl
  · exact Or.inr (nibs_mem (rawF_bytes h hp) b hb)
/-- The first five letters tell how long the payload is. -/
theorem framed_head (p : List Nat) : (framed p).take 5 = 1 :: nibs (head p.length) := rfl
theorem framed_sum (p : List Nat) : ((framed p).drop 5).take 8 = nibs (four (sum (head p.length))) := by
  show (((1 :: nibs (rawF p)).drop 5).take 8) = _
  rw [List.drop_succ_cons]
  unfold rawF
  rw [List.append_assoc, List.append_assoc, nibs_append, List.drop_left' (by rfl), nibs_append]
  exact List.take_left' rfl
theorem len_of_head {p q : List Nat} (h : (framed p).take 5 = (framed q).take 5) : p.length = q.length := by
  rw [framed_head, framed_head] at h
  exact head_inj (nibs_inj _ _ (List.cons.inj h).2)
theorem take_prefix {l a b : List Nat} (h : l = a ++ b) {n : Nat} (hn : n ≤ a.length) : l.take n = a.take n := by
  rw [h, List.take_append_of_le_length hn]
theorem head_differ {n m : Nat} (hn : n ≤ 8192) (hm : m ≤ 8192) (hne : n ≠ m) (hs : sum (head n) = sum (head m)) : n / 256 ≠ m / 256 ∧ n % 256 ≠ m % 256 := by
  constructor
  · intro h
    have h2 : n % 256 = m % 256 := by
      unfold head at hs
      rw [h] at hs
      exact (sum_tells [m / 256] [] (n % 256) (m % 256) (by omega) (by omega)).1 hs
    omega
  · intro h
    have h2 : n / 256 = m / 256 := by
      unfold head at hs
      rw [h] at hs
      exact (sum_tells [] [m % 256] (n / 256) (m / 256) (by omega) (by omega)).1 hs
    omega
theorem behind (X Y : List Nat) {n : Nat} (hX : X.length = n) (k : Nat) : (X ++ Y)[k + n]? = Y[k]? := by
  rw [List.getElem?_append_right (by omega), hX, show k + n - n = k by omega]
/-- Of one length, and of unlike letters at one place alone: that can't be. -/
theorem no_single {p q : List Nat} (hl : p.length = q.length) (bp : Oct p) (bq : Oct q) (i : Nat) (h : ∀ j, j ≠ i → (framed p)[j]? = (framed q)[j]?) : p = q := by
  -- the raw bytes are unlike at one place at most
  have hlen : p.length = q.length := hl
  have hr : ∀ k, k ≠ (i - 1) / 2 → (rawF p)[k]? = (rawF q)[k]? := by
    intro k hk
    have nib_at : ∀ (l : List Nat) (k : Nat), (nibs l)[2 * k]? = (l[k]?).map (fun b => 64 + b / 16) ∧ (nibs l)[2 * k + 1]? = (l[k]?).map (fun b => 64 + b % 16) := by
      intro l
      induction l with
      | nil => intro k; simp [nibs]
      | cons b r ih =>
        intro k
        cases k with
        | zero => simp [nibs]
        | succ k =>
          have := ih k
          rw [show 2 * (k + 1) = 2 * k + 1 + 1 by omega]
          simp only [nibs, List.getElem?_cons_succ]
          exact this
    have e1 := h (2 * k + 1) (by omega)
    have e2 := h (2 * k + 2) (by omega)
    have f : ∀ p : List Nat, (framed p)[2 * k + 1]? = ((rawF p)[k]?).map (fun b => 64 + b / 16) ∧ (framed p)[2 * k + 2]? = ((rawF p)[k]?).map (fun b => 64 + b % 16) := fun p => by
      unfold framed
      rw [show 2 * k + 2 = (2 * k + 1) + 1 by omega, List.getElem?_cons_succ, List.getElem?_cons_succ]
      exact nib_at (rawF p) k
    rw [(f p).1, (f q).1] at e1
    rw [(f p).2, (f q).2] at e2
    cases ha : (rawF p)[k]? with
    | none =>
      rw [ha] at e1
      cases hb : (rawF q)[k]? with
      | none => rfl
      | some b => rw [hb] at e1; simp at e1
    | some a =>
      rw [ha] at e1 e2
      cases hb : (rawF q)[k]? with
      | none => rw [hb] at e1; simp at e1
      | some b =>
        rw [hb] at e1 e2
        simp at e1 e2
        congr 1
        omega
  have hraw : ∀ p : List Nat, rawF p = (head p.length ++ four (sum (head p.length))) ++ (p ++ four (sum (head p.length ++ p))) := fun p => by
    unfold rawF
    simp [List.append_assoc]
  have h6 : (head p.length ++ four (sum (head p.length))).length = 6 := rfl
  have h6' : (head q.length ++ four (sum (head q.length))).length = 6 := rfl
  have hpq : ∀ k, k + 6 ≠ (i - 1) / 2 → (p ++ four (sum (head p.length ++ p)))[k]? = (q ++ four (sum (head q.length ++ q)))[k]? := by
    intro k hk
    have := hr (k + 6) hk
    rw [hraw p, hraw q, behind _ _ h6 k, behind _ _ h6' k] at this
    exact this
  have pay : ∀ k, k < p.length → k + 6 ≠ (i - 1) / 2 → p[k]? = q[k]? := by
    intro k hk hne
    have := hpq k hne
    rwa [List.getElem?_append_left hk, List.getElem?_append_left (by omega)] at this
  by_cases hin : 6 ≤ (i - 1) / 2 ∧ (i - 1) / 2 < 6 + p.length
  · -- the place lies in the payload: the sums are alike
    obtain ⟨k, hk⟩ : ∃ k, (i - 1) / 2 = k + 6 := ⟨(i - 1) / 2 - 6, by omega⟩
    have hkp : k < p.length := by omega
    have hkq : k < q.length := by omega
    have hsum : four (sum (head p.length ++ p)) = four (sum (head q.length ++ q)) := by
      apply List.ext_getElem?
      intro j
      have := hpq (p.length + j) (by omega)
      rw [List.getElem?_append_right (by omega), List.getElem?_append_right (by omega)] at this
      rwa [show p.length + j - p.length = j by omega, show p.length + j - q.length = j by omega] at this
    have hs := four_inj hsum
    have hq : q = p.take k ++ q[k]'hkq :: p.drop (k + 1) := by
      apply List.ext_getElem?
      intro j
      by_cases h1 : j < k
      · rw [List.getElem?_append_left (by rw [List.length_take]; omega), List.getElem?_take, if_pos h1]
        exact (pay j (by omega) (by omega)).symm
      · rw [List.getElem?_append_right (by rw [List.length_take]; omega), List.length_take, show min k p.length = k by omega]
        by_cases h2 : j = k
        · rw [h2, show k - k = 0 by omega]
          simp [hkq]
        · obtain ⟨m, rfl⟩ : ∃ m, j = k + 1 + m := ⟨j - k - 1, by omega⟩
          rw [show k + 1 + m - k = m + 1 by omega, List.getElem?_cons_succ, List.getElem?_drop]
          by_cases h3 : k + 1 + m < p.length
          · exact (pay _ h3 (by omega)).symm
          · rw [List.getElem?_eq_none (by omega), List.getElem?_eq_none (by omega)]
    have hp : p = p.take k ++ p[k]'hkp :: p.drop (k + 1) := by
      rw [List.getElem_cons_drop, List.take_append_drop]
    have ht := (sum_tells (head p.length ++ p.take k) (p.drop (k + 1)) (p[k]'hkp) (q[k]'hkq) (bp _ (List.getElem_mem hkp)) (bq _ (List.getElem_mem hkq))).1 (by
      have e1 : head p.length ++ p.take k ++ p[k]'hkp :: p.drop (k + 1) = head p.length ++ p := by rw [List.append_assoc, ← hp]
      have e2 : head p.length ++ p.take k ++ q[k]'hkq :: p.drop (k + 1) = head q.length ++ q := by rw [List.append_assoc, ← hq, hl]
      rw [e1, e2]
      exact hs)
    rw [hq, ← ht]
    exact hp
  · -- elsewhere: the payloads are alike
    apply List.ext_getElem?
    intro k
    by_cases hk : k < p.length
    · exact pay k hk (by omega)
    · rw [List.getElem?_eq_none (by omega), List.getElem?_eq_none (by omega)]
theorem framed_zero (p : List Nat) : (framed p)[0]? = some 1 := rfl
theorem framed_at {p : List Nat} : (framed p)[1]? = some (64 + p.length / 256 / 16) ∧ (framed p)[2]? = some (64 + p.length / 256 % 16) ∧ (framed p)[3]? = some (64 + p.length % 256 / 16) ∧ (framed p)[4]? = some (64 + p.length % 256 % 16) := ⟨rfl, rfl, rfl, rfl⟩
/-- A frame of which one letter is another one is none, whatever stands behind it. -/
theorem turned {p q x y : List Nat} (hp : p.length ≤ 8192) (hq : q.length ≤ 8192) (bp : Oct p) (bq : Oct q) {i z c : Nat} (hz : (framed p)[i]? = some z) (hc : c ≠ z) (he : (framed p).set i c ++ x = framed q ++ y) : False := by
  have hi : i < (framed p).length := (List.getElem?_eq_some_iff.1 hz).1
  have lp := framed_len p
  have lq := framed_len q
  have hall : ∀ j, j ≠ i → j < (framed p).length → j < (framed q).length → (framed p)[j]? = (framed q)[j]? := by
    intro j hj h1 h2
    have : ((framed p).set i c ++ x)[j]? = (framed q ++ y)[j]? := by rw [he]
    rw [List.getElem?_append_left (by rw [List.length_set]; exact h1), List.getElem?_append_left h2, List.getElem?_set_ne (Ne.symm hj)] at this
    exact this
  have hat : i < (framed q).length → (framed q)[i]? = some c := by
    intro h2
    have : ((framed p).set i c ++ x)[i]? = (framed q ++ y)[i]? := by rw [he]
    rw [List.getElem?_append_left (by rw [List.length_set]; exact hi), List.getElem?_append_left h2, List.getElem?_set_self hi] at this
    exact this.symm
  have same : p.length = q.length → False := by
    intro hl
    have hpq := no_single hl bp bq i (fun j hj => by
      by_cases h1 : j < (framed p).length
      · exact hall j hj h1 (by omega)
      · rw [List.getElem?_eq_none (by omega), List.getElem?_eq_none (by omega)])
    subst hpq
    have := hat hi
    rw [hz] at this
    exact hc (Option.some.inj this).symm
  by_cases h0 : i = 0
  · subst h0
    have h1 := hat (by omega)
    rw [framed_zero] at h1 hz
    exact hc ((Option.some.inj h1).symm.trans (Option.some.inj hz))
  obtain ⟨a1, a2, a3, a4⟩ := framed_at (p := p)
  obtain ⟨b1, b2, b3, b4⟩ := framed_at (p := q)
  by_cases h5 : 5 ≤ i
  · have e1 := hall 1 (by omega) (by omega) (by omega)
    have e2 := hall 2 (by omega) (by omega) (by omega)
    have e3 := hall 3 (by omega) (by omega) (by omega)
    have e4 := hall 4 (by omega) (by omega) (by omega)
    rw [a1, b1] at e1
    rw [a2, b2] at e2
    rw [a3, b3] at e3
    rw [a4, b4] at e4
    simp only [Option.some.injEq] at e1 e2 e3 e4
    exact same (by omega)
  · have hsum : four (sum (head p.length)) = four (sum (head q.length)) := by
      apply nibs_inj
      rw [← framed_sum, ← framed_sum]
      apply List.ext_getElem?
      intro k
      rw [List.getElem?_take, List.getElem?_take]
      by_cases hk : k < 8
      · rw [if_pos hk, if_pos hk, List.getElem?_drop, List.getElem?_drop]
        exact hall (5 + k) (by omega) (by omega) (by omega)
      · rw [if_neg hk, if_neg hk]
    by_cases hl : p.length = q.length
    · exact same hl
    · obtain ⟨d1, d2⟩ := head_differ hp hq hl (four_inj hsum)
      by_cases h3 : i ≤ 2
      · have e3 := hall 3 (by omega) (by omega) (by omega)
        have e4 := hall 4 (by omega) (by omega) (by omega)
        rw [a3, b3] at e3
        rw [a4, b4] at e4
        simp only [Option.some.injEq] at e3 e4
        omega
      · have e1 := hall 1 (by omega) (by omega) (by omega)
        have e2 := hall 2 (by omega) (by omega) (by omega)
        rw [a1, b1] at e1
        rw [a2, b2] at e2
        simp only [Option.some.injEq] at e1 e2
        omega
/-- A frame that is cut is none. -/
theorem cut_none {p q y : List Nat} (hp : p.length ≤ 8192) (hq : q.length ≤ 8192) (bp : Oct p) (bq : Oct q) {i : Nat} (hi : i < (framed p).length) (he : (framed p).take i = framed q ++ y) : False := by
  have h1 : framed p ++ [] = framed q ++ (y ++ (framed p).drop i) := by
    rw [← List.append_assoc, ← he, List.take_append_drop, List.append_nil]
  have hpq := framed_one hp hq bp bq h1
  subst hpq
  have := congrArg List.length he
  rw [List.length_take, List.length_append] at this
  omega
/-- A frame of which some letters are noughts is none, whatever stands behind it. -/
theorem lost {p q b x y : List Nat} (hp : p.length ≤ 8192) (hq : q.length ≤ 8192) (bp : Oct p) (bq : Oct q) (hb : b.length = (framed p).length) (hall : ∀ j z : Nat, (framed p)[j]? = some z → b[j]? = some z ∨ b[j]? = some 0) {k : Nat} (hk : b[k]? = some 0) (he : b ++ x = framed q ++ y) : False := by
  have hkl : k < b.length := (List.getElem?_eq_some_iff.1 hk).1
  have hat : ∀ j : Nat, j < b.length → j < (framed q).length → b[j]? = (framed q)[j]? := by
    intro j h1 h2
    have : (b ++ x)[j]? = (framed q ++ y)[j]? := by rw [he]
    rwa [List.getElem?_append_left h1, List.getElem?_append_left h2] at this
  have hno : ∀ j : Nat, (framed q)[j]? ≠ some 0 := by
    intro j h
    rcases framed_mem (by omega) bq 0 (List.mem_of_getElem? h) with h | h <;> omega
  by_cases h1 : k < (framed q).length
  · have := hat k hkl h1
    rw [hk] at this
    exact hno k this.symm
  · have hpre : framed p = framed q ++ (framed p).drop (framed q).length := by
      apply List.ext_getElem?
      intro j
      by_cases hj : j < (framed q).length
      · rw [List.getElem?_append_left hj]
        have h2 : j < (framed p).length := by omega
        have hz := List.getElem?_eq_getElem h2
        rcases hall j _ hz with h | h
        · rw [hz, ← h]
          exact hat j (by omega) hj
        · rw [hat j (by omega) hj] at h
          exact absurd h (hno j)
      · rw [List.getElem?_append_right (by omega), List.getElem?_drop]
        congr 1
        omega
    have hpq := framed_one hp hq bp bq (show framed p ++ [] = _ by rw [List.append_nil]; exact hpre)
    subst hpq
    omega
end FrameMath
