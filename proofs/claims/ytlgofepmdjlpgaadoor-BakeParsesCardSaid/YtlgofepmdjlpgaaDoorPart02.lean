/-
  Texts of one claim, merged.
  BakeMath2: Plain mathematics of chapter 14, as its functions go byte by byte. No program is run here.
  Text: Texts as lists of numbers below 256, and back. No conditions but those typed.
-/
import Derived.Test.YtlgofepmdjlpgaaDoorPart01
namespace BakeMath
open TextMath

theorem mem_at {c : Nat} {l : List Nat} : c ∈ l ↔ ∃ j : Nat, l[j]? = some c := ⟨List.getElem?_of_mem, fun ⟨_, h⟩ => List.mem_of_getElem? h⟩
theorem cutAt_no {c : Nat} {l : List Nat} (h : ∀ j : Nat, j < l.length → l[j]? ≠ some c) : cutAt c l = (l, [], false) := cutAt_none fun hm => by
  obtain ⟨j, hj⟩ := mem_at.1 hm
  exact h j (List.getElem?_eq_some_iff.1 hj).1 hj
theorem cutAt_at {c i : Nat} {l : List Nat} (h : ∀ j : Nat, j < i → l[j]? ≠ some c) (hi : l[i]? = some c) : cutAt c l = (l.take i, l.drop (i + 1), true) := by
  have hlt := (List.getElem?_eq_some_iff.1 hi).1
  have e : l = l.take i ++ c :: l.drop (i + 1) := by
    have h1 := List.drop_eq_getElem_cons hlt
    rw [(List.getElem?_eq_some_iff.1 hi).2] at h1
    rw [← h1, List.take_append_drop]
  have hn : c ∉ l.take i := fun hm => by
    obtain ⟨j, hj⟩ := mem_at.1 hm
    rw [List.getElem?_take] at hj
    split at hj
    · exact h j (by assumption) hj
    · cases hj
  have h2 := cutAt_some (l.drop (i + 1)) hn
  rw [← e] at h2
  exact h2
/-- How long what is left is. -/
theorem cutAt_len (c : Nat) : ∀ l : List Nat, (cutAt c l).1.length ≤ l.length ∧ (cutAt c l).2.1.length ≤ l.length ∧ ((cutAt c l).2.2 = true → (cutAt c l).2.1.length < l.length)
  | [] => ⟨Nat.le_refl _, Nat.le_refl _, fun h => by cases h⟩
  | b :: r => by
    obtain ⟨h1, h2, h3⟩ := cutAt_len c r
    unfold cutAt
    split
    · simp
    · refine ⟨(by simp; omega), (by simp; omega), fun h => ?_⟩
      have := h3 h
      simp
      omega
theorem cutAt_mem (c : Nat) : ∀ l : List Nat, (∀ b ∈ (cutAt c l).1, b ∈ l) ∧ ∀ b ∈ (cutAt c l).2.1, b ∈ l
  | [] => ⟨fun b h => h, fun b h => h⟩
  | x :: r => by
    obtain ⟨h1, h2⟩ := cutAt_mem c r
    unfold cutAt
    split
    · exact ⟨fun b h => (by cases h), fun b h => (by simp [h])⟩
    · refine ⟨fun b h => ?_, fun b h => (by simp [h2 b h])⟩
      rcases List.mem_cons.1 h with rfl | h
      · simp
      · simp [h1 b h]
/-- The attributes that are left. -/
def left (more : Bool) (rest : List Nat) : List (List Nat) := if more = true then parts rest else []
theorem left_step (rest : List Nat) : left true rest = (cutAt 59 rest).1 :: left (cutAt 59 rest).2.2 (cutAt 59 rest).2.1 := parts_cut rest
theorem parseF_left (l : List Nat) : parseF l = (first l).map fun c => (left (cutAt 59 l).2.2 (cutAt 59 l).2.1).foldl step c := rfl
/-! Numbers. -/
def cap (n b : Nat) : Nat := if n ≤ top then 10 * n + (b - 48) else n
def Caps (n m : Nat) : Prop := ((n ≤ top → n = m) ∧ (top < n → top < m)) ∧ n ≤ 10 * top + 9
theorem caps_step {n m b : Nat} (h : Caps n m) (hb : digit b = true) : Caps (cap n b) (10 * m + (b - 48)) := by
  obtain ⟨⟨h1, h2⟩, h3⟩ := h
  have hb2 : 48 ≤ b ∧ b ≤ 57 := by
    simp [digit] at hb
    omega
  unfold cap
  by_cases hn : n ≤ top
  · rw [if_pos hn, ← h1 hn]
    exact ⟨⟨fun _ => rfl, fun h => h⟩, by omega⟩
  · rw [if_neg hn]
    have := h2 (by omega)
    exact ⟨⟨fun h => absurd h hn, fun _ => by omega⟩, by omega⟩
theorem caps_all : ∀ (l : List Nat) (n m : Nat), Caps n m → l.all digit = true → Caps (l.foldl cap n) (l.foldl (fun n b => 10 * n + (b - 48)) m)
  | [], _, _, h, _ => h
  | b :: r, n, m, h, hl => by
    rw [List.all_cons, Bool.and_eq_true] at hl
    exact caps_all r _ _ (caps_step h hl.1) hl.2
theorem cap_val (l : List Nat) (h : l.all digit = true) : Caps (l.foldl cap 0) (val l) := caps_all l 0 0 ⟨⟨fun _ => rfl, fun h => h⟩, by decide⟩ h
/-- What the digits d come to. -/
theorem number_of {l d : List Nat} {below : Bool} (h1 : below = (l.head? == some 45)) (h2 : d = if below = true then l.tail else l) : numberF l = if d = [] ∨ d.all digit = false then -1 else if below = true then 0 else (((if top < d.foldl cap 0 then top else d.foldl cap 0) : Nat) : Int) := by
  unfold numberF
  rw [← h1]
  simp only [← h2]
  by_cases he : d = [] ∨ d.all digit = false
  · rw [if_pos he, if_pos]
    rcases he with rfl | he
    · rfl
    · rw [he]; simp
  · rw [if_neg he, if_neg]
    · cases below with
      | true => rfl
      | false =>
        simp only [Bool.false_eq_true, if_false]
        have ha : d.all digit = true := by
          cases hd : d.all digit with
          | true => rfl
          | false => exact absurd (.inr hd) he
        obtain ⟨⟨k1, k2⟩, _⟩ := cap_val d ha
        by_cases hc : top < d.foldl cap 0
        · rw [if_pos hc, Nat.min_eq_right (Nat.le_of_lt (k2 hc))]
        · rw [if_neg hc, k1 (by omega), Nat.min_eq_left (by rw [← k1 (by omega)]; omega)]
    · intro h
      rw [Bool.or_eq_true] at h
      rcases h with h | h
      · exact he (.inl (by simpa using h))
      · exact he (.inr (by simpa using h))
theorem number_ge (l : List Nat) : -1 ≤ numberF l ∧ numberF l ≤ 1099511627776 := by
  unfold numberF
  simp only
  split
  · omega
  · split
    · omega
    · have : min (val (if (l.head? == some 45) = true then l.tail else l)) top ≤ top := Nat.min_le_right _ _
      unfold top at *
      omega
/-! Paths. -/
/-- Is the byte b at the place i of a path of so many bytes one that can't be? -/
def badAt (n i b : Nat) : Bool := (decide (i = 0) && decide (b ≠ 47)) || decide (b < 32) || decide (126 < b) || decide (b = 59) || (decide (b = 32) && (decide (i = 1) || decide (i + 1 = n)))
theorem path_bytes (l : List Nat) : rightPath l = true ↔ ∀ i b : Nat, l[i]? = some b → badAt l.length i b = false := by
  unfold rightPath
  cases l with
  | nil => simp
  | cons x r =>
    simp only [List.isEmpty_cons, Bool.false_or, Bool.and_eq_true, List.all_eq_true, List.head?_cons, bne_iff_ne, decide_eq_true_eq, beq_iff_eq, Option.some.injEq]
    constructor
    · rintro ⟨⟨⟨rfl, h2⟩, h3⟩, h4⟩ i b hb
      obtain ⟨⟨k1, k2⟩, k3⟩ := h2 b (List.mem_of_getElem? hb)
      unfold badAt
      simp only [Bool.or_eq_false_iff, Bool.and_eq_false_iff, decide_eq_false_iff_not]
      refine ⟨⟨⟨⟨?_, by omega⟩, by omega⟩, k3⟩, ?_⟩
      · by_cases hi : i = 0
        · subst hi
          right
          simp at hb
          simp [hb]
        · exact .inl hi
      · by_cases hb32 : b = 32
        · right
          subst hb32
          refine ⟨fun hi => h3 (by rw [← hi]; exact hb), fun hn => h4 ?_⟩
          rw [List.getLast?_eq_getElem?, ← hb]
          congr 1
          omega
        · exact .inl hb32
    · intro h
      have hx := h 0 x rfl
      unfold badAt at hx
      simp only [Bool.or_eq_false_iff, Bool.and_eq_false_iff, decide_eq_false_iff_not, not_true_eq_false, false_or] at hx
      refine ⟨⟨⟨by have := hx.1.1.1.1; omega, fun b hm => ?_⟩, fun h1 => ?_⟩, fun h1 => ?_⟩
      · obtain ⟨i, hi⟩ := mem_at.1 hm
        have := h i b hi
        unfold badAt at this
        simp only [Bool.or_eq_false_iff, Bool.and_eq_false_iff, decide_eq_false_iff_not] at this
        exact ⟨⟨by have := this.1.1.1.2; omega, by have := this.1.1.2; omega⟩, this.1.2⟩
      · have := h 1 32 h1
        simp [badAt] at this
      · rw [List.getLast?_eq_getElem?] at h1
        have := h _ 32 h1
        simp [badAt] at this
end BakeMath
namespace TextNat
/-- A text's bytes. -/
def nats (s : ByteArray) : List Nat := s.data.toList.map UInt8.toNat
/-- The text of these bytes. -/
def txt (l : List Nat) : ByteArray := ⟨(l.map UInt8.ofNat).toArray⟩
theorem nats_len (s : ByteArray) : (nats s).length = s.size := by rw [nats, List.length_map]; exact Array.length_toList
theorem nats_lt (s : ByteArray) : ∀ b ∈ nats s, b < 256 := by
  intro b hb
  obtain ⟨x, _, rfl⟩ := List.mem_map.1 hb
  exact UInt8.toNat_lt x
theorem txt_len (l : List Nat) : (txt l).size = l.length := by simp [txt, ByteArray.size]
theorem txt_nats (s : ByteArray) : txt (nats s) = s := by
  obtain ⟨a⟩ := s
  simp only [txt, nats, List.map_map]
  congr 1
  have : (UInt8.ofNat ∘ UInt8.toNat) = id := by funext x; simp
  rw [this, List.map_id]
theorem nats_txt (l : List Nat) (h : ∀ b ∈ l, b < 256) : nats (txt l) = l := by
  simp only [txt, nats, List.map_map]
  have : ∀ l : List Nat, (∀ b ∈ l, b < 256) → l.map (UInt8.toNat ∘ UInt8.ofNat) = l := by
    intro l
    induction l with
    | nil => intro _; rfl
    | cons a r ih =>
      intro h
      have ha := h a (by simp)
      rw [List.map_cons, ih (fun b hb => h b (by simp [hb]))]
      congr 1
      show (UInt8.ofNat a).toNat = a
      rw [UInt8.toNat_ofNat']
      omega
  exact this l h
theorem nats_inj {s t : ByteArray} (h : nats s = nats t) : s = t := by rw [← txt_nats s, ← txt_nats t, h]
theorem nats_append (s t : ByteArray) : nats (s ++ t) = nats s ++ nats t := by
  have e : (s ++ t).data = s.data ++ t.data := by simp
  simp [nats, e]
theorem txt_append (a b : List Nat) : txt a ++ txt b = txt (a ++ b) := by
  have e : (txt a ++ txt b).data = (txt a).data ++ (txt b).data := by simp
  have h : ∀ x y : ByteArray, x.data = y.data → x = y := fun x y h => by cases x; cases y; simpa using h
  apply h
  rw [e]
  simp [txt]
theorem nats_at (s : ByteArray) (i : Nat) (h : i < s.size) : (nats s)[i]? = some (s[i].toNat) := by
  rw [nats, List.getElem?_map]
  have e : s.data.toList[i]? = some s[i] := by
    rw [Array.getElem?_toList]
    exact Array.getElem?_eq_getElem h
  rw [e]
  rfl
end TextNat
