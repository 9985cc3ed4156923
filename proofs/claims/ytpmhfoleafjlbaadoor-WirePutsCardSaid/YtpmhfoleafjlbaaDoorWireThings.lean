/-
  Plain mathematics of chapter 5: things' bytes by their kinds, and what things come to. No program, no conditions but those typed.
-/
import Derived.Test.YtpmhfoleafjlbaaDoorWireGood
namespace WireMath

theorem written_on : ∀ (l : List Thing) (bs : List (List Nat)) (p : Put), p.bad = none → l.map bytes = bs.map some → p.out.length + bs.flatten.length ≤ 65536 → l.foldl put p = ⟨p.out ++ bs.flatten, none⟩
  | [], [], p, h, _, _ => by obtain ⟨o, b⟩ := p; cases h; simp
  | [], b :: r, _, _, h, _ => by simp at h
  | x :: l, [], _, _, h, _ => by simp at h
  | x :: l, b :: r, p, h, hm, hl => by
    simp only [List.map_cons, List.cons.injEq] at hm
    simp only [List.flatten_cons, List.length_append] at hl
    have hp : put p x = ⟨p.out ++ b, none⟩ := by
      unfold put
      rw [h, hm.1]
      simp only
      rw [if_neg (by omega)]
    rw [List.foldl_cons, hp, written_on l r ⟨p.out ++ b, none⟩ rfl hm.2 (by simp only [List.length_append]; omega)]
    simp
theorem written_all {l : List Thing} {bs : List (List Nat)} (h : l.map bytes = bs.map some) (hl : bs.flatten.length ≤ 65536) : written l = ⟨bs.flatten, none⟩ := by
  exact written_on l bs ⟨[], none⟩ rfl h (by show 0 + _ ≤ _; omega)
theorem trimmed_top {v : List Int} (h : trimmed v big = true) : trimmed v top = true := by
  unfold trimmed big at h
  unfold trimmed top
  simp only [Bool.and_eq_true, decide_eq_true_eq, List.all_eq_true] at h ⊢
  refine ⟨⟨h.1.1, fun z hz => ⟨(h.1.2 z hz).1, ?_⟩⟩, h.2⟩
  have := (h.1.2 z hz).2
  omega
theorem bytes_k0 {x : Thing} (h : x.k = 0) (h0 : 0 ≤ x.n) (h1 : x.n ≤ top) : bytes x = some (num x.n.toNat) := by
  unfold bytes
  rw [h, if_neg (by decide), if_neg (by decide), if_neg (by decide), if_pos ⟨h0, h1⟩]
theorem bytes_k1 {x : Thing} (h : x.k = 1) : bytes x = some (textBytes x.s) := by
  unfold bytes
  rw [h, if_pos rfl]
  rfl
theorem bytes_k2 {x : Thing} (h : x.k = 2) : bytes x = some (flagBytes x.b) := by
  unfold bytes
  rw [h, if_neg (by decide), if_pos rfl]
  rfl
theorem bytes_k3 {x : Thing} (h : x.k = 3) (hv : trimmed x.v top = true) : bytes x = some (vecBytes x.v) := by
  unfold bytes
  rw [h, if_neg (by decide), if_neg (by decide), if_pos rfl, if_pos hv]
end WireMath
