/-
  Plain mathematics of chapter 15: how cells stand, and which one wins. No program is run here.
-/
import Derived.Test.YtkoojfpafgkgiaaStampMath
namespace RegMath
open StampMath

/-- A strict order in which any two unlike ones stand. -/
structure Strict {α : Type} (r : α → α → Bool) : Prop where
  irr : ∀ a, r a a = false
  trans : ∀ a b c, r a b = true → r b c = true → r a c = true
  tri : ∀ a b, a = b ∨ r a b = true ∨ r b a = true
theorem Strict.asym {α : Type} {r : α → α → Bool} (h : Strict r) {a b : α} (hab : r a b = true) : r b a = false := by
  cases hba : r b a with
  | false => rfl
  | true =>
    have := h.trans a b a hab hba
    rw [h.irr a] at this
    cases this
/-- First by the one, then by the other. -/
def both {α β : Type} [DecidableEq α] (r : α → α → Bool) (s : β → β → Bool) (x y : α × β) : Bool := if x.1 = y.1 then s x.2 y.2 else r x.1 y.1
theorem Strict.both {α β : Type} [DecidableEq α] {r : α → α → Bool} {s : β → β → Bool} (hr : Strict r) (hs : Strict s) : Strict (both r s) where
  irr := fun a => by
    show (if a.1 = a.1 then s a.2 a.2 else r a.1 a.1) = false
    rw [if_pos rfl]
    exact hs.irr _
  trans := fun a b c h k => by
    change (if a.1 = b.1 then s a.2 b.2 else r a.1 b.1) = true at h
    change (if b.1 = c.1 then s b.2 c.2 else r b.1 c.1) = true at k
    show (if a.1 = c.1 then s a.2 c.2 else r a.1 c.1) = true
    by_cases e1 : a.1 = b.1
    · rw [if_pos e1] at h
      by_cases e2 : b.1 = c.1
      · rw [if_pos e2] at k
        rw [if_pos (e1.trans e2)]
        exact hs.trans _ _ _ h k
      · rw [if_neg e2] at k
        rw [if_neg (by rw [e1]; exact e2), e1]
        exact k
    · rw [if_neg e1] at h
      by_cases e2 : b.1 = c.1
      · rw [if_neg (by rw [← e2]; exact e1), ← e2]
        exact h
      · rw [if_neg e2] at k
        have h3 := hr.trans _ _ _ h k
        rw [if_neg]
        · exact h3
        · intro e
          rw [e, hr.irr] at h3
          cases h3
  tri := fun a b => by
    show a = b ∨ (if a.1 = b.1 then s a.2 b.2 else r a.1 b.1) = true ∨ (if b.1 = a.1 then s b.2 a.2 else r b.1 a.1) = true
    by_cases e1 : a.1 = b.1
    · rw [if_pos e1, if_pos e1.symm]
      rcases hs.tri a.2 b.2 with h | h | h
      · exact .inl (Prod.ext e1 h)
      · exact .inr (.inl h)
      · exact .inr (.inr h)
    · rw [if_neg e1, if_neg (fun e => e1 e.symm)]
      rcases hr.tri a.1 b.1 with h | h | h
      · exact absurd h e1
      · exact .inr (.inl h)
      · exact .inr (.inr h)
theorem strict_stamp : Strict less where
  irr := less_self
  trans := fun _ _ _ => less_trans
  tri := fun a b => by
    by_cases h : less a b = true
    · exact .inr (.inl h)
    · by_cases k : less b a = true
      · exact .inr (.inr k)
      · rw [Bool.not_eq_true, less_not] at h k
        obtain ⟨a1, a2⟩ := a
        obtain ⟨b1, b2⟩ := b
        refine .inl ?_
        simp at h k ⊢
        omega
def boolLess (a b : Bool) : Bool := !a && b
theorem strict_bool : Strict boolLess where
  irr := fun a => by cases a <;> rfl
  trans := fun a b c => by cases a <;> cases b <;> cases c <;> decide
  tri := fun a b => by cases a <;> cases b <;> decide
def intLess (a b : Int) : Bool := decide (a < b)
theorem strict_int : Strict intLess where
  irr := fun a => by simp [intLess]
  trans := fun a b c h k => by simp [intLess] at *; omega
  tri := fun a b => by simp [intLess]; omega
/-- Byte by byte. -/
def lex : List Nat → List Nat → Bool
  | _, [] => false
  | [], _ :: _ => true
  | a :: x, b :: y => decide (a < b) || (a == b && lex x y)
theorem lex_irr : ∀ a, lex a a = false
  | [] => rfl
  | a :: x => by simp [lex, lex_irr x]
theorem lex_trans : ∀ a b c, lex a b = true → lex b c = true → lex a c = true
  | _, [], _, h, _ => by simp [lex] at h
  | _, _ :: _, [], _, k => by simp [lex] at k
  | [], _ :: _, _ :: _, _, _ => rfl
  | a :: x, b :: y, c :: z, h, k => by
    simp only [lex, Bool.or_eq_true, Bool.and_eq_true, decide_eq_true_eq, beq_iff_eq] at *
    rcases h with h | ⟨rfl, h⟩
    · rcases k with k | ⟨rfl, _⟩
      · exact .inl (by omega)
      · exact .inl h
    · rcases k with k | ⟨rfl, k⟩
      · exact .inl k
      · exact .inr ⟨rfl, lex_trans x y z h k⟩
theorem lex_tri : ∀ a b, a = b ∨ lex a b = true ∨ lex b a = true
  | [], [] => .inl rfl
  | [], _ :: _ => .inr (.inl rfl)
  | _ :: _, [] => .inr (.inr rfl)
  | a :: x, b :: y => by
    simp only [lex, Bool.or_eq_true, Bool.and_eq_true, decide_eq_true_eq, beq_iff_eq]
    rcases Nat.lt_trichotomy a b with h | rfl | h
    · exact .inr (.inl (.inl h))
    · rcases lex_tri x y with rfl | h | h
      · exact .inl rfl
      · exact .inr (.inl (.inr ⟨rfl, h⟩))
      · exact .inr (.inr (.inr ⟨rfl, h⟩))
    · exact .inr (.inr (.inl h))
theorem strict_lex : Strict lex := ⟨lex_irr, lex_trans, lex_tri⟩
/-- What a register has. -/
structure Cell where
  st : St
  val : List Nat
  gone : Bool
  life : Int
deriving DecidableEq
def zero : Cell := ⟨(0, 0), [], false, 0⟩
def key (c : Cell) : ((St × Bool) × List Nat) × Int := (((c.st, c.gone), c.val), c.life)
theorem key_one {a b : Cell} (h : key a = key b) : a = b := by
  cases a; cases b
  simp [key] at h
  simp [h]
def order : ((St × Bool) × List Nat) × Int → ((St × Bool) × List Nat) × Int → Bool := both (both (both less boolLess) lex) intLess
theorem strict_order : Strict order := ((strict_stamp.both strict_bool).both strict_lex).both strict_int
/-- Is a cell above another one? -/
def above (a b : Cell) : Bool := if a.st ≠ b.st then less b.st a.st else if a.gone = true ∧ b.gone = false then true else if b.gone = true ∧ a.gone = false then false else if a.val ≠ b.val then lex b.val a.val else decide (b.life < a.life)
theorem above_order (a b : Cell) : above a b = order (key b) (key a) := by
  obtain ⟨a1, av, ag, al⟩ := a
  obtain ⟨b1, bv, bg, bl⟩ := b
  unfold above order both key intLess boolLess
  simp only
  by_cases h1 : a1 = b1
  · subst h1
    cases ag <;> cases bg
    · by_cases h2 : av = bv
      · subst h2; simp
      · have h3 : ¬ bv = av := fun e => h2 e.symm
        simp [h2, h3]
    · simp
    · simp
    · by_cases h2 : av = bv
      · subst h2; simp
      · have h3 : ¬ bv = av := fun e => h2 e.symm
        simp [h2, h3]
  · have h2 : ¬ b1 = a1 := fun e => h1 e.symm
    simp [h1, h2]
theorem above_self (a : Cell) : above a a = false := by rw [above_order]; exact strict_order.irr _
theorem above_trans {a b c : Cell} (h : above a b = true) (k : above b c = true) : above a c = true := by
  rw [above_order] at *
  exact strict_order.trans _ _ _ k h
theorem above_tri (a b : Cell) : a = b ∨ above a b = true ∨ above b a = true := by
  rw [above_order, above_order]
  rcases strict_order.tri (key a) (key b) with h | h | h
  · exact .inl (key_one h)
  · exact .inr (.inr h)
  · exact .inr (.inl h)
theorem above_asym {a b : Cell} (h : above a b = true) : above b a = false := by
  rw [above_order] at *
  exact strict_order.asym h
/-- P15.1: of two unlike cells just one is above the other. -/
theorem above_one (a b : Cell) : (decide (a = b) == (above a b != above b a)) = false := by
  rcases above_tri a b with rfl | h | h
  · rw [decide_eq_true rfl, above_self]; rfl
  · have k := above_asym h
    rw [h, k, decide_eq_false (fun e => by rw [e, above_self] at h; cases h)]
    rfl
  · have k := above_asym h
    rw [h, k, decide_eq_false (fun e => by rw [e, above_self] at h; cases h)]
    rfl
/-! Which one wins. -/
def best (l : List Cell) (c : Cell) : Bool := l.all fun x => !above x c
theorem best_iff {l : List Cell} {c : Cell} : best l c = true ↔ ∀ x ∈ l, above x c = false := by simp [best]
structure Wins (l : List Cell) (m : Cell) : Prop where
  mem : m ∈ l
  top : ∀ x ∈ l, above x m = false
theorem wins_one {l : List Cell} {a b : Cell} (ha : Wins l a) (hb : Wins l b) : a = b := by
  rcases above_tri a b with h | h | h
  · exact h
  · rw [hb.top a ha.mem] at h; cases h
  · rw [ha.top b hb.mem] at h; cases h
/-- The one that none is above; the zero cell of none. -/
def merge (l : List Cell) : Cell := (l.find? (best l)).getD zero
/-- .. one by one. -/
def higher (a b : Cell) : Cell := if above a b = true then a else b
theorem higher_wins {l : List Cell} {m x : Cell} (h : Wins l m) : Wins (x :: l) (higher x m) := by
  unfold higher
  by_cases k : above x m = true
  · rw [if_pos k]
    refine ⟨by simp, fun y hy => ?_⟩
    rcases List.mem_cons.1 hy with rfl | hy
    · exact above_self _
    · cases hc : above y x with
      | false => rfl
      | true =>
        have := above_trans hc k
        rw [h.top y hy] at this
        cases this
  · rw [if_neg k]
    refine ⟨by simp [h.mem], fun y hy => ?_⟩
    rcases List.mem_cons.1 hy with rfl | hy
    · simpa using k
    · exact h.top y hy
theorem wins_some : ∀ {l : List Cell}, l ≠ [] → ∃ m, Wins l m
  | [], h => absurd rfl h
  | [a], _ => ⟨a, by simp, fun x hx => by rw [List.mem_singleton.1 hx]; exact above_self a⟩
  | a :: b :: r, _ => by
    obtain ⟨m, hm⟩ := wins_some (l := b :: r) (by simp)
    exact ⟨_, higher_wins (x := a) hm⟩
theorem merge_is {l : List Cell} {m : Cell} (h : Wins l m) : merge l = m := by
  unfold merge
  cases hf : l.find? (best l) with
  | none =>
    have := List.find?_eq_none.1 hf m h.mem
    exact absurd (best_iff.2 h.top) this
  | some c =>
    have h1 := List.find?_some hf
    have h2 := List.mem_of_find?_eq_some hf
    exact wins_one ⟨h2, best_iff.1 h1⟩ h
theorem merge_wins {l : List Cell} (h : l ≠ []) : Wins l (merge l) := by
  obtain ⟨m, hm⟩ := wins_some h
  rw [merge_is hm]
  exact hm
theorem merge_nil : merge [] = zero := rfl
/-- P15.2: in whichever order, and as often as they come. -/
theorem merge_same {l l' : List Cell} (h : ∀ x, x ∈ l ↔ x ∈ l') : merge l = merge l' := by
  by_cases hl : l = []
  · subst hl
    have : l' = [] := by
      cases l' with
      | nil => rfl
      | cons a r => exact absurd ((h a).2 (by simp)) (by simp)
    rw [this]
  · have hw := merge_wins hl
    exact (merge_is ⟨(h _).1 hw.mem, fun x hx => hw.top x ((h x).2 hx)⟩).symm
/-- .. however they are merged one by one. -/
theorem merge_parts {l l' : List Cell} (h : l ≠ []) (h' : l' ≠ []) : merge [merge l, merge l'] = merge (l ++ l') := by
  have h1 := merge_wins h
  have h2 := merge_wins h'
  have hne : l ++ l' ≠ [] := by simp [h]
  have hw := merge_wins hne
  refine merge_is ?_
  refine ⟨?_, fun x hx => ?_⟩
  · rcases List.mem_append.1 hw.mem with hm | hm
    · have : merge l = merge (l ++ l') := wins_one h1 ⟨hm, fun x hx => hw.top x (by simp [hx])⟩
      rw [this]; simp
    · have : merge l' = merge (l ++ l') := wins_one h2 ⟨hm, fun x hx => hw.top x (by simp [hx])⟩
      rw [this]; simp
  · simp only [List.mem_cons, List.not_mem_nil, or_false] at hx
    rcases hx with rfl | rfl
    · exact hw.top _ (List.mem_append_left _ h1.mem)
    · exact hw.top _ (List.mem_append_right _ h2.mem)
/-- .. or again. -/
theorem merge_again {l : List Cell} (h : l ≠ []) : merge (l ++ [merge l]) = merge l := merge_same fun x => by
  have := (merge_wins h).mem
  simp only [List.mem_append, List.mem_singleton]
  exact ⟨fun hx => hx.elim id fun e => e ▸ this, .inl⟩
/-- One by one, from any one of them on. -/
theorem merge_fold : ∀ (done todo : List Cell) (one : Cell), Wins done one → todo.foldl (fun o x => merge [x, o]) one = merge (done ++ todo)
  | done, [], one, h => by rw [List.append_nil]; exact (merge_is h).symm
  | done, x :: todo, one, h => by
    have h1 : Wins (done ++ [x]) (merge [x, one]) := by
      have hw := merge_wins (l := [x, one]) (by simp)
      have h2 := hw.top x (by simp)
      have h3 := hw.top one (by simp)
      refine ⟨?_, fun y hy => ?_⟩
      · have := hw.mem
        simp only [List.mem_cons, List.not_mem_nil, or_false] at this
        rcases this with e | e
        · rw [e]; simp
        · rw [e]; exact List.mem_append_left _ h.mem
      · simp only [List.mem_append, List.mem_singleton] at hy
        rcases hy with hy | rfl
        · cases hc : above y (merge [x, one]) with
          | false => rfl
          | true =>
            rcases above_tri one (merge [x, one]) with e | e | e
            · rw [← e, h.top y hy] at hc; cases hc
            · rw [h3] at e; cases e
            · have := above_trans hc e
              rw [h.top y hy] at this; cases this
        · exact h2
    rw [List.foldl_cons, merge_fold (done ++ [x]) todo _ h1, List.append_assoc]
    rfl
end RegMath
