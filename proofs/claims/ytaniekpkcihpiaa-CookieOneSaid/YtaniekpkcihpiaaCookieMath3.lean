/-
  Plain mathematics of chapter 13: headers, read piece by piece. No program is run here.
-/
import Derived.Test.YtaniekpkcihpiaaCookieMath2
namespace CookieMath
open TextMath

/-- How far two lists go together. -/
def pre : List Nat → List Nat → Nat
  | x :: u, y :: m => if x = y then pre u m + 1 else 0
  | _, _ => 0
theorem pre_nil (m : List Nat) : pre [] m = 0 := by cases m <;> rfl
theorem pre_end (u : List Nat) : pre u [] = 0 := by cases u <;> rfl
theorem pre_ne {x y : Nat} (h : x ≠ y) (u m : List Nat) : pre (x :: u) (y :: m) = 0 := if_neg h
theorem pre_eq (x : Nat) (u m : List Nat) : pre (x :: u) (x :: m) = pre u m + 1 := if_pos rfl
theorem pre_le : ∀ (u m : List Nat), pre u m ≤ m.length ∧ pre u m ≤ u.length
  | [], m => by rw [pre_nil]; omega
  | x :: u, [] => by rw [pre_end]; omega
  | x :: u, y :: m => by
    have := pre_le u m
    unfold pre
    simp only [List.length_cons]
    split <;> omega
theorem pre_drop : ∀ {u m : List Nat}, pre u m = m.length → u = m ++ u.drop m.length
  | u, [], _ => rfl
  | [], y :: m, h => by rw [pre_nil] at h; simp at h
  | x :: u, y :: m, h => by
    unfold pre at h
    split at h
    · rename_i hxy
      rw [List.length_cons] at h
      rw [List.length_cons, List.drop_succ_cons, List.cons_append, ← pre_drop (show pre u m = m.length by omega), hxy]
    · simp at h
/-- How many bytes of this kind stand first. -/
def far (p : Nat → Bool) (l : List Nat) : Nat := (l.takeWhile p).length
theorem far_nil (p : Nat → Bool) : far p [] = 0 := rfl
theorem far_yes {p : Nat → Bool} {z : Nat} (h : p z = true) (l : List Nat) : far p (z :: l) = far p l + 1 := by
  unfold far
  rw [List.takeWhile_cons, h]
  rfl
theorem far_no {p : Nat → Bool} {z : Nat} (h : p z = false) (l : List Nat) : far p (z :: l) = 0 := by
  unfold far
  rw [List.takeWhile_cons, h]
  rfl
theorem far_le (p : Nat → Bool) (l : List Nat) : far p l ≤ l.length := by
  unfold far
  exact (List.takeWhile_prefix p).length_le
theorem far_all {p : Nat → Bool} : ∀ {l : List Nat}, ∀ c ∈ l.take (far p l), p c = true
  | [], c, h => by simp at h
  | z :: l, c, h => by
    cases hz : p z with
    | false =>
      rw [far_no hz] at h
      simp at h
    | true =>
      rw [far_yes hz, List.take_succ_cons] at h
      rcases List.mem_cons.1 h with rfl | h
      · exact hz
      · exact far_all c h
theorem far_stop {p : Nat → Bool} : ∀ {l r : List Nat} {c : Nat}, l.drop (far p l) = c :: r → p c = false
  | [], r, c, h => by simp at h
  | z :: l, r, c, h => by
    cases hz : p z with
    | false =>
      rw [far_no hz] at h
      obtain ⟨rfl, -⟩ : z = c ∧ l = r := by simpa using h
      exact hz
    | true =>
      rw [far_yes hz, List.drop_succ_cons] at h
      exact far_stop h
/-- No name, or none with an equals sign behind it. -/
theorem run_refuse (u nm : List Nat) (out : List Pair) (i : Nat) (h : far tokenOctet u = 0 ∨ pre (u.drop (far tokenOctet u)) [61] = 0) : run 0 [] nm out u i = .inr (i + far tokenOctet u) := by
  obtain ⟨k, hk⟩ : ∃ k, k = far tokenOctet u := ⟨_, rfl⟩
  have hs : u = u.take k ++ u.drop k := (List.take_append_drop k u).symm
  have hl : (u.take k).length = k := by rw [List.length_take, hk]; exact Nat.min_eq_left (far_le _ _)
  have h1 := run_name (u.take k) [] nm out (u.drop k) i (by rw [hk]; exact far_all)
  rw [← hs, hl] at h1
  rw [h1, ← hk]
  rw [← hk] at h
  cases hd : u.drop k with
  | nil =>
    rw [run, if_neg (by decide)]
  | cons c r =>
    have hc : tokenOctet c = false := far_stop (by rw [← hk]; exact hd)
    rw [run_cons, if_pos rfl, if_neg (by rw [hc]; decide), if_pos]
    rcases h with h | h
    · right
      rw [h]
      rfl
    · left
      intro h2
      rw [hd, h2, pre_eq] at h
      omega
/-- A name, and an equals sign behind it. -/
theorem run_named (u nm : List Nat) (out : List Pair) (i : Nat) (h0 : far tokenOctet u ≠ 0) (h : pre (u.drop (far tokenOctet u)) [61] = 1) : run 0 [] nm out u i = run 1 [] (u.take (far tokenOctet u)) out (u.drop (far tokenOctet u + 1)) (i + far tokenOctet u + 1) := by
  obtain ⟨k, hk⟩ : ∃ k, k = far tokenOctet u := ⟨_, rfl⟩
  have hs : u = u.take k ++ u.drop k := (List.take_append_drop k u).symm
  have hl : (u.take k).length = k := by rw [List.length_take, hk]; exact Nat.min_eq_left (far_le _ _)
  have h1 := run_name (u.take k) [] nm out (u.drop k) i (by rw [hk]; exact far_all)
  rw [← hs, hl] at h1
  rw [h1, ← hk]
  rw [← hk] at h h0
  have h2 := pre_drop (m := [61]) (show pre (u.drop k) [61] = 1 from h)
  rw [List.drop_drop] at h2
  rw [h2, List.singleton_append, run_cons, if_pos rfl, if_neg (by rw [eq_no]; decide), if_neg (by
    rintro (h3 | h3)
    · exact h3 rfl
    · rw [List.nil_append] at h3
      rw [h3] at hl
      exact h0 hl.symm)]
  rfl
theorem run_valued (u nm : List Nat) (out : List Pair) (i : Nat) : run 1 [] nm out u i = run 1 (u.take (far octet u)) nm out (u.drop (far octet u)) (i + far octet u) := by
  obtain ⟨k, hk⟩ : ∃ k, k = far octet u := ⟨_, rfl⟩
  have hs : u = u.take k ++ u.drop k := (List.take_append_drop k u).symm
  have hl : (u.take k).length = k := by rw [List.length_take, hk]; exact Nat.min_eq_left (far_le _ _)
  have h1 := run_value (u.take k) [] nm out (u.drop k) i (by rw [hk]; exact far_all)
  rw [← hs, hl] at h1
  rw [h1, ← hk]
  rfl
/-- A value to the end. -/
theorem run_last (u nm : List Nat) (out : List Pair) (i : Nat) (h : u.length ≤ far octet u) : run 1 [] nm out u i = .inl (out ++ [(nm, u.take (far octet u))]) := by
  rw [run_valued, List.drop_eq_nil_of_le h, run, if_pos rfl]
/-- A value that isn't followed by what must stand between. -/
theorem run_cut (u nm : List Nat) (out : List Pair) (i : Nat) (h : far octet u < u.length) (h2 : pre (u.drop (far octet u)) [59, 32] ≠ 2) : run 1 [] nm out u i = .inr (i + far octet u + pre (u.drop (far octet u)) [59, 32]) := by
  rw [run_valued]
  cases hd : u.drop (far octet u) with
  | nil =>
    have := congrArg List.length hd
    rw [List.length_drop, List.length_nil] at this
    omega
  | cons c r =>
    rw [hd] at h2
    have hc := far_stop hd
    rw [run_cons, if_neg (by decide), if_pos rfl, if_neg (by rw [hc]; decide)]
    by_cases h59 : c = 59
    · subst h59
      rw [if_neg (fun h => h rfl)]
      rw [pre_eq] at h2 ⊢
      cases r with
      | nil =>
        rw [run, if_neg (by decide), pre_nil]
      | cons c2 r2 =>
        rw [run_cons, if_neg (by decide), if_neg (by decide)]
        by_cases h32 : c2 = 32
        · subst h32
          rw [pre_eq, pre_end] at h2
          exact absurd rfl h2
        · rw [if_pos h32, pre_ne h32]
    · rw [if_pos h59, pre_ne h59]
      rfl
/-- A value, and what must stand between, behind it. -/
theorem run_more (u nm : List Nat) (out : List Pair) (i : Nat) (h2 : pre (u.drop (far octet u)) [59, 32] = 2) : run 1 [] nm out u i = run 0 [] [] (out ++ [(nm, u.take (far octet u))]) (u.drop (far octet u + 2)) (i + far octet u + 2) := by
  rw [run_valued]
  have h3 := pre_drop (m := [59, 32]) (show pre (u.drop (far octet u)) [59, 32] = 2 from h2)
  rw [List.drop_drop] at h3
  rw [h3]
  show run 1 _ nm out (59 :: 32 :: u.drop (far octet u + 2)) _ = _
  rw [run_cons, if_neg (by decide), if_pos rfl, if_neg (by rw [semi_no]; decide), if_neg (fun h => h rfl)]
  rw [run_cons, if_neg (by decide), if_neg (by decide), if_neg (fun h => h rfl)]
end CookieMath
