/-
  Plain mathematics of chapter 4: where a text stops being letters, and the bytes of what is. No program, no conditions but those typed.
-/
import Derived.Test.YtaniekpkcihpiaaTextBits
namespace TextMath

theorem find_some {l : List Nat} {p : Nat → Bool} {i z : Nat} (hz : l[i]? = some z) (hp : p z = true) (hlt : ∀ j y : Nat, j < i → l[j]? = some y → p y = false) : l.findIdx? p = some i := by
  have hil := (List.getElem?_eq_some_iff.1 hz).1
  have hiz := (List.getElem?_eq_some_iff.1 hz).2
  rw [List.findIdx?_eq_some_iff_getElem]
  refine ⟨hil, by rw [hiz]; exact hp, fun j hj => ?_⟩
  rw [hlt j l[j] hj (List.getElem?_eq_getElem _)]
  decide
theorem find_none {l : List Nat} {p : Nat → Bool} (h : ∀ j y : Nat, l[j]? = some y → p y = false) : l.findIdx? p = none := by
  rw [List.findIdx?_eq_none_iff]
  intro y hy
  obtain ⟨j, hj, e⟩ := List.getElem_of_mem hy
  exact h j y (by rw [List.getElem?_eq_getElem hj, e])
theorem fault_letter {l : List Nat} {i z : Nat} (hz : l[i]? = some z) (hp : number z = 64) (hlt : ∀ j y : Nat, j < i → l[j]? = some y → number y < 64) : fault l = some i := by
  unfold fault
  rw [find_some (p := fun c => number c == 64) hz (by simp [hp]) (fun j y hj hy => by have := hlt j y hj hy; simp; omega)]
theorem fault_count {l : List Nat} (hlt : ∀ j y : Nat, l[j]? = some y → number y < 64) (h : l.length % 4 = 1) : fault l = some l.length := by
  unfold fault
  rw [find_none (p := fun c => number c == 64) (fun j y hy => by have := hlt j y hy; simp; omega)]
  simp [h]
theorem decBits_len (l : List Nat) : (decBits l).length = 6 * l.length := flat_len (fun z => bits6_len (number z)) l
theorem decBits_at (l : List Nat) (i q z : Nat) (hq : q < 6) (hz : l[i]? = some z) : (decBits l)[6 * i + q]? = some (number z / 2 ^ (5 - q) % 2) := by
  unfold decBits
  rw [flat_at (fun z => bits6_len (number z)) l i q hq, hz, Option.bind_some, bits6_at _ q hq]
theorem decBits_lt (l : List Nat) : ∀ b ∈ decBits l, b < 2 := flat_lt (fun z => bits6_lt (number z)) l
theorem fault_bits {l : List Nat} (hlt : ∀ j y : Nat, l[j]? = some y → number y < 64) (h : l.length % 4 ≠ 1) {t z : Nat} (ht : 8 * (6 * l.length / 8) ≤ t) (hz : (decBits l)[t]? = some z) (h1 : z ≠ 0) : fault l = some (l.length - 1) := by
  unfold fault
  rw [find_none (p := fun c => number c == 64) (fun j y hy => by have := hlt j y hy; simp; omega)]
  have ha : ((decBits l).drop (8 * ((decBits l).length / 8))).any (· != 0) = true := by
    rw [List.any_eq_true]
    refine ⟨z, ?_, by simp [h1]⟩
    refine List.mem_of_getElem? (i := t - 8 * ((decBits l).length / 8)) ?_
    rw [List.getElem?_drop, decBits_len, show 8 * (6 * l.length / 8) + (t - 8 * (6 * l.length / 8)) = t by omega]
    exact hz
  simp only [ha]
  rw [if_neg h, if_pos trivial]
theorem fault_none {l : List Nat} (hlt : ∀ j y : Nat, l[j]? = some y → number y < 64) (h : l.length % 4 ≠ 1) (h0 : ∀ t z : Nat, 8 * (6 * l.length / 8) ≤ t → (decBits l)[t]? = some z → z = 0) : fault l = none := by
  unfold fault
  rw [find_none (p := fun c => number c == 64) (fun j y hy => by have := hlt j y hy; simp; omega)]
  have ha : ((decBits l).drop (8 * ((decBits l).length / 8))).any (· != 0) = false := by
    rw [List.any_eq_false]
    intro z hz
    obtain ⟨j, hj, e⟩ := List.getElem_of_mem hz
    have := h0 (8 * (6 * l.length / 8) + j) z (by omega) (by
      rw [← decBits_len l, ← List.getElem?_drop, List.getElem?_eq_getElem hj, e])
    simp [this]
  simp only [ha]
  rw [if_neg h, if_neg (by decide)]
theorem decBytes_len (l : List Nat) : (decBytes l).length = 6 * l.length / 8 := by simp [decBytes, decBits_len]
theorem decBytes_at (l : List Nat) (j : Nat) (h : j < 6 * l.length / 8) : (decBytes l)[j]? = some (num (group (decBits l) 8 j)) := by
  unfold decBytes
  rw [List.getElem?_map, List.getElem?_range (by rw [decBits_len]; exact h)]
  rfl
theorem decBytes_lt (l : List Nat) : ∀ b ∈ decBytes l, b < 256 := by
  intro b hb
  obtain ⟨j, _, rfl⟩ := List.mem_map.1 hb
  have h := num_lt (group_lt (decBits_lt l) 8 j)
  have h2 : (group (decBits l) 8 j).length ≤ 8 := by unfold group; rw [List.length_take]; omega
  have h3 : 2 ^ (group (decBits l) 8 j).length ≤ 2 ^ 8 := Nat.pow_le_pow_right (by decide) h2
  omega
end TextMath
