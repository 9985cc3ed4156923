/-
  Texts of one claim, merged.
  TextBits: Plain mathematics of chapter 4, bit by bit: where each bit stands, a group's number step by step. No program, no conditions but those typed.
  TextDec: Plain mathematics of chapter 4: where a text stops being letters, and the bytes of what is. No program, no conditions but those typed.
-/
import Derived.Test.YtlgofepmdjlpgaaDoorPart01
namespace TextMath

theorem bits8_len (b : Nat) : (bits8 b).length = 8 := rfl
theorem bits6_len (b : Nat) : (bits6 b).length = 6 := rfl
theorem bits8_at (z m : Nat) (h : m < 8) : (bits8 z)[m]? = some (z / 2 ^ (7 - m) % 2) := by
  have : m = 0 ∨ m = 1 ∨ m = 2 ∨ m = 3 ∨ m = 4 ∨ m = 5 ∨ m = 6 ∨ m = 7 := by omega
  rcases this with rfl | rfl | rfl | rfl | rfl | rfl | rfl | rfl <;> simp [bits8]
theorem bits6_at (z m : Nat) (h : m < 6) : (bits6 z)[m]? = some (z / 2 ^ (5 - m) % 2) := by
  have : m = 0 ∨ m = 1 ∨ m = 2 ∨ m = 3 ∨ m = 4 ∨ m = 5 := by omega
  rcases this with rfl | rfl | rfl | rfl | rfl | rfl <;> simp [bits6]
/-- Where a row's piece stands among all pieces. -/
theorem flat_at {f : Nat → List Nat} {k : Nat} (hf : ∀ z, (f z).length = k) : ∀ (l : List Nat) (q m : Nat), m < k → (l.flatMap f)[k * q + m]? = (l[q]?).bind fun z => (f z)[m]?
  | [], q, m, _ => by simp
  | a :: l, 0, m, h => by
    rw [List.flatMap_cons, List.getElem?_append_left (by rw [hf]; omega)]
    simp
  | a :: l, q + 1, m, h => by
    rw [List.flatMap_cons, List.getElem?_append_right (by rw [hf, Nat.mul_succ]; omega), hf, show k * (q + 1) + m - k = k * q + m by rw [Nat.mul_succ]; omega, flat_at hf l q m h]
    simp
theorem flat_len {f : Nat → List Nat} {k : Nat} (hf : ∀ z, (f z).length = k) : ∀ l : List Nat, (l.flatMap f).length = k * l.length
  | [] => by simp
  | a :: l => by rw [List.flatMap_cons, List.length_append, hf, flat_len hf l, List.length_cons, Nat.mul_succ]; omega
theorem take_step {l : List Nat} {i z : Nat} (h : l[i]? = some z) : l.take (i + 1) = l.take i ++ [z] := by
  rw [List.take_add_one, h]
  rfl

theorem num_snoc (l : List Nat) (b : Nat) : num (l ++ [b]) = num l * 2 + b := by
  unfold num
  rw [List.foldl_append]
  rfl
theorem num_lt_from : ∀ (l : List Nat) (n : Nat), (∀ b ∈ l, b < 2) → l.foldl (fun n b => n * 2 + b) n < (n + 1) * 2 ^ l.length
  | [], n, _ => by simp
  | b :: l, n, h => by
    have hb := h b (by simp)
    have ih := num_lt_from l (n * 2 + b) (fun c hc => h c (by simp [hc]))
    rw [List.foldl_cons, List.length_cons, Nat.pow_succ]
    have : (n * 2 + b + 1) * 2 ^ l.length ≤ (n + 1) * (2 ^ l.length * 2) := by
      rw [Nat.mul_comm (2 ^ l.length), ← Nat.mul_assoc]
      exact Nat.mul_le_mul_right _ (by omega)
    omega
theorem num_lt {l : List Nat} (h : ∀ b ∈ l, b < 2) : num l < 2 ^ l.length := by
  have := num_lt_from l 0 h
  unfold num
  omega
theorem bits8_lt (z : Nat) : ∀ b ∈ bits8 z, b < 2 := by
  intro b hb
  simp only [bits8, List.mem_cons, List.not_mem_nil, or_false] at hb
  rcases hb with rfl | rfl | rfl | rfl | rfl | rfl | rfl | rfl <;> exact Nat.mod_lt _ (by decide)
theorem bits6_lt (z : Nat) : ∀ b ∈ bits6 z, b < 2 := by
  intro b hb
  simp only [bits6, List.mem_cons, List.not_mem_nil, or_false] at hb
  rcases hb with rfl | rfl | rfl | rfl | rfl | rfl <;> exact Nat.mod_lt _ (by decide)
theorem flat_lt {f : Nat → List Nat} (hf : ∀ z, ∀ b ∈ f z, b < 2) (l : List Nat) : ∀ b ∈ l.flatMap f, b < 2 := by
  intro b hb
  obtain ⟨z, _, h⟩ := List.mem_flatMap.1 hb
  exact hf z b h
theorem padTo6_lt {m : List Nat} (h : ∀ b ∈ m, b < 2) : ∀ b ∈ padTo6 m, b < 2 := by
  intro b hb
  rcases List.mem_append.1 hb with h1 | h1
  · exact h b h1
  · rw [(List.mem_replicate.1 h1).2]; decide
theorem padTo6_len (m : List Nat) : (padTo6 m).length % 6 = 0 := by
  simp only [padTo6, List.length_append, List.length_replicate]
  omega
theorem group_lt {m : List Nat} (h : ∀ b ∈ m, b < 2) (k j : Nat) : ∀ b ∈ group m k j, b < 2 := fun b hb => h b (List.mem_of_mem_drop (List.mem_of_mem_take hb))
theorem group_at (m : List Nat) (k j q : Nat) (h : q < k) : (group m k j)[q]? = m[k * j + q]? := by
  unfold group
  rw [List.getElem?_take, if_pos h, List.getElem?_drop]
theorem group_len (m : List Nat) (k j : Nat) (h : k * j + k ≤ m.length) : (group m k j).length = k := by
  unfold group
  rw [List.length_take, List.length_drop]
  omega
/-- The letters, one after the other. -/
theorem enc_len (l : List Nat) : (enc l).length = (padTo6 (l.flatMap bits8)).length / 6 := by simp [enc]
theorem enc_at (l : List Nat) (j : Nat) (h : 6 * j + 6 ≤ (padTo6 (l.flatMap bits8)).length) : (enc l)[j]? = some (letter (num (group (padTo6 (l.flatMap bits8)) 6 j))) := by
  unfold enc
  rw [List.getElem?_map, List.getElem?_range (by omega)]
  rfl
theorem enc_lt (l : List Nat) : ∀ b ∈ enc l, b < 256 := by
  intro b hb
  obtain ⟨j, _, rfl⟩ := List.mem_map.1 hb
  refine letter_lt _ ?_
  have h := num_lt (group_lt (padTo6_lt (flat_lt bits8_lt l)) 6 j)
  have h2 : (group (padTo6 (l.flatMap bits8)) 6 j).length ≤ 6 := by unfold group; rw [List.length_take]; omega
  have h3 : 2 ^ (group (padTo6 (l.flatMap bits8)) 6 j).length ≤ 2 ^ 6 := Nat.pow_le_pow_right (by decide) h2
  omega
end TextMath
namespace TextMath

theorem find_some {l : List Nat} {p : Nat → Bool} {i z : Nat} (hz : l[i]? = some z) (hp : p z = true) (hlt : ∀ j y : Nat, j < i → l[j]? = some y → p y = false) : l.findIdx? p = some i := by
  have hil := (List.getElem?_eq_some_iff.1 hz).1
  have hiz := (List.getElem?_eq_some_iff.1 hz).2
  rw [List.findIdx?_eq_some_iff_getElem]
  refine ⟨hil, by rw [hiz]; exact hp, fun j hj => ?_⟩
  rw [hlt j l[j] hj (List.getElem?_eq_getElem _)]
  decide
theorem find_none {l : List Nat} {p : Nat → Bool} (h : ∀ j y : Nat, l[j]? = some y → p y = false) : l.findIdx? p = none := by
  rw [List.findIdx?_eq_none_iff]
  intro y hy
  obtain ⟨j, hj, e⟩ := List.getElem_of_mem hy
  exact h j y (by rw [List.getElem?_eq_getElem hj, e])
theorem fault_letter {l : List Nat} {i z : Nat} (hz : l[i]? = some z) (hp : number z = 64) (hlt : ∀ j y : Nat, j < i → l[j]? = some y → number y < 64) : fault l = some i := by
  unfold fault
  rw [find_some (p := fun c => number c == 64) hz (by simp [hp]) (fun j y hj hy => by have := hlt j y hj hy; simp; omega)]
theorem fault_count {l : List Nat} (hlt : ∀ j y : Nat, l[j]? = some y → number y < 64) (h : l.length % 4 = 1) : fault l = some l.length := by
  unfold fault
  rw [find_none (p := fun c => number c == 64) (fun j y hy => by have := hlt j y hy; simp; omega)]
  simp [h]
theorem decBits_len (l : List Nat) : (decBits l).length = 6 * l.length := flat_len (fun z => bits6_len (number z)) l
theorem decBits_at (l : List Nat) (i q z : Nat) (hq : q < 6) (hz : l[i]? = some z) : (decBits l)[6 * i + q]? = some (number z / 2 ^ (5 - q) % 2) := by
  unfold decBits
  rw [flat_at (fun z => bits6_len (number z)) l i q hq, hz, Option.bind_some, bits6_at _ q hq]
theorem decBits_lt (l : List Nat) : ∀ b ∈ decBits l, b < 2 := flat_lt (fun z => bits6_lt (number z)) l
theorem fault_bits {l : List Nat} (hlt : ∀ j y : Nat, l[j]? = some y → number y < 64) (h : l.length % 4 ≠ 1) {t z : Nat} (ht : 8 * (6 * l.length / 8) ≤ t) (hz : (decBits l)[t]? = some z) (h1 : z ≠ 0) : fault l = some (l.length - 1) := by
  unfold fault
  rw [find_none (p := fun c => number c == 64) (fun j y hy => by have := hlt j y hy; simp; omega)]
  have ha : ((decBits l).drop (8 * ((decBits l).length / 8))).any (· != 0) = true := by
    rw [List.any_eq_true]
    refine ⟨z, ?_, by simp [h1]⟩
    refine List.mem_of_getElem? (i := t - 8 * ((decBits l).length / 8)) ?_
    rw [List.getElem?_drop, decBits_len, show 8 * (6 * l.length / 8) + (t - 8 * (6 * l.length / 8)) = t by omega]
    exact hz
  simp only [ha]
  rw [if_neg h, if_pos trivial]
theorem fault_none {l : List Nat} (hlt : ∀ j y : Nat, l[j]? = some y → number y < 64) (h : l.length % 4 ≠ 1) (h0 : ∀ t z : Nat, 8 * (6 * l.length / 8) ≤ t → (decBits l)[t]? = some z → z = 0) : fault l = none := by
  unfold fault
  rw [find_none (p := fun c => number c == 64) (fun j y hy => by have := hlt j y hy; simp; omega)]
  have ha : ((decBits l).drop (8 * ((decBits l).length / 8))).any (· != 0) = false := by
    rw [List.any_eq_false]
    intro z hz
    obtain ⟨j, hj, e⟩ := List.getElem_of_mem hz
    have := h0 (8 * (6 * l.length / 8) + j) z (by omega) (by
      rw [← decBits_len l, ← List.getElem?_drop, List.getElem?_eq_getElem hj, e])
    simp [this]
  simp only [ha]
  rw [if_neg h, if_neg (by decide)]
theorem decBytes_len (l : List Nat) : (decBytes l).length = 6 * l.length / 8 := by simp [decBytes, decBits_len]
theorem decBytes_at (l : List Nat) (j : Nat) (h : j < 6 * l.length / 8) : (decBytes l)[j]? = some (num (group (decBits l) 8 j)) := by
  unfold decBytes
  rw [List.getElem?_map, List.getElem?_range (by rw [decBits_len]; exact h)]
  rfl
theorem decBytes_lt (l : List Nat) : ∀ b ∈ decBytes l, b < 256 := by
  intro b hb
  obtain ⟨j, _, rfl⟩ := List.mem_map.1 hb
  have h := num_lt (group_lt (decBits_lt l) 8 j)
  have h2 : (group (decBits l) 8 j).length ≤ 8 := by unfold group; rw [List.length_take]; omega
  have h3 : 2 ^ (group (decBits l) 8 j).length ≤ 2 ^ 8 := Nat.pow_le_pow_right (by decide) h2
  omega
end TextMath
