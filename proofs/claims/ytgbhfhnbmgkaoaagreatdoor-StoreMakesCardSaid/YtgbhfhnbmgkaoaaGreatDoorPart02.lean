/-
  Texts of one claim, merged.
  StampMath: Plain mathematics of chapter 7: how stamps stand, the greatest one. No program, no conditions but those typed.
  RegMath: Plain mathematics of chapter 15: how cells stand, and which one wins. No program is run here.
  StoreMath: Plain mathematics of chapter 16: rising rows, what a write makes of them, what a sweep lets go, what shows. No program is run here.
-/
import Derived.Test.YtgbhfhnbmgkaoaaGreatDoorPart01
namespace StampMath
/-- A stamp: its time, its region. -/
abbrev St := Int × Int
def less (a b : St) : Bool := if a.1 = b.1 then decide (a.2 < b.2) else decide (a.1 < b.1)
theorem less_iff {a b : St} : less a b = true ↔ a.1 < b.1 ∨ (a.1 = b.1 ∧ a.2 < b.2) := by
  unfold less
  split
  · rw [decide_eq_true_iff]; omega
  · rw [decide_eq_true_iff]; omega
theorem less_not {a b : St} : less a b = false ↔ b.1 < a.1 ∨ (a.1 = b.1 ∧ b.2 ≤ a.2) := by
  rw [← Bool.not_eq_true, less_iff]
  omega
theorem less_self (a : St) : less a a = false := by rw [less_not]; omega
/-- Of two unlike ones just one is below the other. -/
theorem less_one (a b : St) : (decide (a = b) == (less a b != less b a)) = false := by
  obtain ⟨a1, a2⟩ := a
  obtain ⟨b1, b2⟩ := b
  cases h : less (a1, a2) (b1, b2) <;> cases k : less (b1, b2) (a1, a2)
  · rw [less_not] at h k
    have e : (a1, a2) = (b1, b2) := by simp at h k ⊢; omega
    rw [decide_eq_true e]
    rfl
  · rw [less_not] at h
    rw [less_iff] at k
    have e : ¬ (a1, a2) = (b1, b2) := by simp at h k ⊢; omega
    rw [decide_eq_false e]
    rfl
  · rw [less_iff] at h
    rw [less_not] at k
    have e : ¬ (a1, a2) = (b1, b2) := by simp at h k ⊢; omega
    rw [decide_eq_false e]
    rfl
  · rw [less_iff] at h k
    simp at h k
    omega
theorem less_trans {a b c : St} (h : less a b = true) (k : less b c = true) : less a c = true := by
  rw [less_iff] at *
  omega
/-- Is it below none of them? -/
def top (l : List St) (a : St) : Bool := l.all fun b => !less a b
theorem top_iff {l : List St} {a : St} : top l a = true ↔ ∀ b ∈ l, less a b = false := by simp [top]
theorem top_one {l : List St} {a b : St} (ha : a ∈ l) (hb : b ∈ l) (h : top l a = true) (k : top l b = true) : a = b := by
  have h1 := top_iff.1 h b hb
  have h2 := top_iff.1 k a ha
  rw [less_not] at h1 h2
  obtain ⟨a1, a2⟩ := a
  obtain ⟨b1, b2⟩ := b
  simp at h1 h2 ⊢
  omega
/-- The greatest: the first that is below none. -/
def great (l : List St) : Option St := l.find? (top l)
def greatV (l : List St) : St := (great l).getD (0, 0)
def greatB (l : List St) : Bool := (great l).isSome
theorem great_is {l : List St} {a : St} (ha : a ∈ l) (h : top l a = true) : great l = some a := by
  unfold great
  cases hf : l.find? (top l) with
  | none =>
    have := List.find?_eq_none.1 hf a ha
    exact absurd h this
  | some b => rw [top_one (List.mem_of_find?_eq_some hf) ha (List.find?_some hf) h]
theorem great_none {l : List St} (h : ∀ (i : Nat) (a : St), l[i]? = some a → top l a = false) : great l = none := by
  unfold great
  rw [List.find?_eq_none]
  intro a ha
  obtain ⟨i, hi⟩ := List.getElem?_of_mem ha
  rw [h i a hi]
  exact Bool.false_ne_true
theorem great_at {l : List St} {i : Nat} {a : St} (hi : l[i]? = some a) (h : top l a = true) : greatV l = a ∧ greatB l = true := by
  have hg := great_is (List.mem_of_getElem? hi) h
  unfold greatV greatB
  rw [hg]
  exact ⟨rfl, rfl⟩
theorem great_nil {l : List St} (h : great l = none) : greatV l = (0, 0) ∧ greatB l = false := by
  unfold greatV greatB
  rw [h]
  exact ⟨rfl, rfl⟩
/-- Below none of the first ones? -/
def topTo (l : List St) (a : St) (k : Nat) : Bool := (l.take k).all fun b => !less a b
theorem topTo_zero (l : List St) (a : St) : topTo l a 0 = true := by simp [topTo]
theorem topTo_step {l : List St} {a b : St} {k : Nat} (h : l[k]? = some b) : topTo l a (k + 1) = (topTo l a k && !less a b) := by
  unfold topTo
  rw [List.take_add_one, h]
  simp
theorem topTo_all {l : List St} {a : St} {k : Nat} (h : l.length ≤ k) : topTo l a k = top l a := by
  unfold topTo top
  rw [List.take_of_length_le h]
/-- A greatest one there always is, if there is any. -/
theorem top_exists : ∀ l : List St, l ≠ [] → ∃ a ∈ l, top l a = true
  | [], h => absurd rfl h
  | [a], _ => ⟨a, by simp, by simp [top, less_self]⟩
  | a :: b :: l, _ => by
    obtain ⟨c, hc, ht⟩ := top_exists (b :: l) (by simp)
    cases h : less c a with
    | false => exact ⟨c, List.mem_cons_of_mem _ hc, top_iff.2 fun x hx => by
        rcases List.mem_cons.1 hx with rfl | hx
        · exact h
        · exact top_iff.1 ht x hx⟩
    | true => exact ⟨a, by simp, top_iff.2 fun x hx => by
        rcases List.mem_cons.1 hx with rfl | hx
        · exact less_self _
        · have h1 := top_iff.1 ht x hx
          rw [less_not] at h1 ⊢
          rw [less_iff] at h
          omega⟩
end StampMath
namespace RegMath
open StampMath

/-- A strict order in which any two unlike ones stand. -/
structure Strict {α : Type} (r : α → α → Bool) : Prop where
  irr : ∀ a, r a a = false
  trans : ∀ a b c, r a b = true → r b c = true → r a c = true
  tri : ∀ a b, a = b ∨ r a b = true ∨ r b a = true
theorem Strict.asym {α : Type} {r : α → α → Bool} (h : Strict r) {a b : α} (hab : r a b = true) : r b a = false := by
  cases hba : r b a with
  | false => rfl
  | true =>
    have := h.trans a b a hab hba
    rw [h.irr a] at this
    cases this
/-- First by the one, then by the other. -/
def both {α β : Type} [DecidableEq α] (r : α → α → Bool) (s : β → β → Bool) (x y : α × β) : Bool := if x.1 = y.1 then s x.2 y.2 else r x.1 y.1
theorem Strict.both {α β : Type} [DecidableEq α] {r : α → α → Bool} {s : β → β → Bool} (hr : Strict r) (hs : Strict s) : Strict (both r s) where
  irr := fun a => by
    show (if a.1 = a.1 then s a.2 a.2 else r a.1 a.1) = false
    rw [if_pos rfl]
    exact hs.irr _
  trans := fun a b c h k => by
    change (if a.1 = b.1 then s a.2 b.2 else r a.1 b.1) = true at h
    change (if b.1 = c.1 then s b.2 c.2 else r b.1 c.1) = true at k
    show (if a.1 = c.1 then s a.2 c.2 else r a.1 c.1) = true
    by_cases e1 : a.1 = b.1
    · rw [if_pos e1] at h
      by_cases e2 : b.1 = c.1
      · rw [if_pos e2] at k
        rw [if_pos (e1.trans e2)]
        exact hs.trans _ _ _ h k
      · rw [if_neg e2] at k
        rw [if_neg (by rw [e1]; exact e2), e1]
        exact k
    · rw [if_neg e1] at h
      by_cases e2 : b.1 = c.1
      · rw [if_neg (by rw [← e2]; exact e1), ← e2]
        exact h
      · rw [if_neg e2] at k
        have h3 := hr.trans _ _ _ h k
        rw [if_neg]
        · exact h3
        · intro e
          rw [e, hr.irr] at h3
          cases h3
  tri := fun a b => by
    show a = b ∨ (if a.1 = b.1 then s a.2 b.2 else r a.1 b.1) = true ∨ (if b.1 = a.1 then s b.2 a.2 else r b.1 a.1) = true
    by_cases e1 : a.1 = b.1
    · rw [if_pos e1, if_pos e1.symm]
      rcases hs.tri a.2 b.2 with h | h | h
      · exact .inl (Prod.ext e1 h)
      · exact .inr (.inl h)
      · exact .inr (.inr h)
    · rw [if_neg e1, if_neg (fun e => e1 e.symm)]
      rcases hr.tri a.1 b.1 with h | h | h
      · exact absurd h e1
      · exact .inr (.inl h)
      · exact .inr (.inr h)
theorem strict_stamp : Strict less where
  irr := less_self
  trans := fun _ _ _ => less_trans
  tri := fun a b => by
    by_cases h : less a b = true
    · exact .inr (.inl h)
    · by_cases k : less b a = true
      · exact .inr (.inr k)
      · rw [Bool.not_eq_true, less_not] at h k
        obtain ⟨a1, a2⟩ := a
        obtain ⟨b1, b2⟩ := b
        refine .inl ?_
        simp at h k ⊢
        omega
def boolLess (a b : Bool) : Bool := !a && b
theorem strict_bool : Strict boolLess where
  irr := fun a => by cases a <;> rfl
  trans := fun a b c => by cases a <;> cases b <;> cases c <;> decide
  tri := fun a b => by cases a <;> cases b <;> decide
def intLess (a b : Int) : Bool := decide (a < b)
theorem strict_int : Strict intLess where
  irr := fun a => by simp [intLess]
  trans := fun a b c h k => by simp [intLess] at *; omega
  tri := fun a b => by simp [intLess]; omega
/-- Byte by byte. -/
def lex : List Nat → List Nat → Bool
  | _, [] => false
  | [], _ :: _ => true
  | a :: x, b :: y => decide (a < b) || (a == b && lex x y)
theorem lex_irr : ∀ a, lex a a = false
  | [] => rfl
  | a :: x => by simp [lex, lex_irr x]
theorem lex_trans : ∀ a b c, lex a b = true → lex b c = true → lex a c = true
  | _, [], _, h, _ => by simp [lex] at h
  | _, _ :: _, [], _, k => by simp [lex] at k
  | [], _ :: _, _ :: _, _, _ => rfl
  | a :: x, b :: y, c :: z, h, k => by
    simp only [lex, Bool.or_eq_true, Bool.and_eq_true, decide_eq_true_eq, beq_iff_eq] at *
    rcases h with h | ⟨rfl, h⟩
    · rcases k with k | ⟨rfl, _⟩
      · exact .inl (by omega)
      · exact .inl h
    · rcases k with k | ⟨rfl, k⟩
      · exact .inl k
      · exact .inr ⟨rfl, lex_trans x y z h k⟩
theorem lex_tri : ∀ a b, a = b ∨ lex a b = true ∨ lex b a = true
  | [], [] => .inl rfl
  | [], _ :: _ => .inr (.inl rfl)
  | _ :: _, [] => .inr (.inr rfl)
  | a :: x, b :: y => by
    simp only [lex, Bool.or_eq_true, Bool.and_eq_true, decide_eq_true_eq, beq_iff_eq]
    rcases Nat.lt_trichotomy a b with h | rfl | h
    · exact .inr (.inl (.inl h))
    · rcases lex_tri x y with rfl | h | h
      · exact .inl rfl
      · exact .inr (.inl (.inr ⟨rfl, h⟩))
      · exact .inr (.inr (.inr ⟨rfl, h⟩))
    · exact .inr (.inr (.inl h))
theorem strict_lex : Strict lex := ⟨lex_irr, lex_trans, lex_tri⟩
/-- What a register has. -/
structure Cell where
  st : St
  val : List Nat
  gone : Bool
  life : Int
deriving DecidableEq
def zero : Cell := ⟨(0, 0), [], false, 0⟩
def key (c : Cell) : ((St × Bool) × List Nat) × Int := (((c.st, c.gone), c.val), c.life)
theorem key_one {a b : Cell} (h : key a = key b) : a = b := by
  cases a; cases b
  simp [key] at h
  simp [h]
def order : ((St × Bool) × List Nat) × Int → ((St × Bool) × List Nat) × Int → Bool := both (both (both less boolLess) lex) intLess
theorem strict_order : Strict order := ((strict_stamp.both strict_bool).both strict_lex).both strict_int
/-- Is a cell above another one? -/
def above (a b : Cell) : Bool := if a.st ≠ b.st then less b.st a.st else if a.gone = true ∧ b.gone = false then true else if b.gone = true ∧ a.gone = false then false else if a.val ≠ b.val then lex b.val a.val else decide (b.life < a.life)
theorem above_order (a b : Cell) : above a b = order (key b) (key a) := by
  obtain ⟨a1, av, ag, al⟩ := a
  obtain ⟨b1, bv, bg, bl⟩ := b
  unfold above order both key intLess boolLess
  simp only
  by_cases h1 : a1 = b1
  · subst h1
    cases ag <;> cases bg
    · by_cases h2 : av = bv
      · subst h2; simp
      · have h3 : ¬ bv = av := fun e => h2 e.symm
        simp [h2, h3]
    · simp
    · simp
    · by_cases h2 : av = bv
      · subst h2; simp
      · have h3 : ¬ bv = av := fun e => h2 e.symm
        simp [h2, h3]
  · have h2 : ¬ b1 = a1 := fun e => h1 e.symm
    simp [h1, h2]
theorem above_self (a : Cell) : above a a = false := by rw [above_order]; exact strict_order.irr _
theorem above_trans {a b c : Cell} (h : above a b = true) (k : above b c = true) : above a c = true := by
  rw [above_order] at *
  exact strict_order.trans _ _ _ k h
theorem above_tri (a b : Cell) : a = b ∨ above a b = true ∨ above b a = true := by
  rw [above_order, above_order]
  rcases strict_order.tri (key a) (key b) with h | h | h
  · exact .inl (key_one h)
  · exact .inr (.inr h)
  · exact .inr (.inl h)
theorem above_asym {a b : Cell} (h : above a b = true) : above b a = false := by
  rw [above_order] at *
  exact strict_order.asym h
/-- P15.1: of two unlike cells just one is above the other. -/
theorem above_one (a b : Cell) : (decide (a = b) == (above a b != above b a)) = false := by
  rcases above_tri a b with rfl | h | h
  · rw [decide_eq_true rfl, above_self]; rfl
  · have k := above_asym h
    rw [h, k, decide_eq_false (fun e => by rw [e, above_self] at h; cases h)]
    rfl
  · have k := above_asym h
    rw [h, k, decide_eq_false (fun e => by rw [e, above_self] at h; cases h)]
    rfl
/-! Which one wins. -/
def best (l : List Cell) (c : Cell) : Bool := l.all fun x => !above x c
theorem best_iff {l : List Cell} {c : Cell} : best l c = true ↔ ∀ x ∈ l, above x c = false := by simp [best]
structure Wins (l : List Cell) (m : Cell) : Prop where
  mem : m ∈ l
  top : ∀ x ∈ l, above x m = false
theorem wins_one {l : List Cell} {a b : Cell} (ha : Wins l a) (hb : Wins l b) : a = b := by
  rcases above_tri a b with h | h | h
  · exact h
  · rw [hb.top a ha.mem] at h; cases h
  · rw [ha.top b hb.mem] at h; cases h
/-- The one that none is above; the zero cell of none. -/
def merge (l : List Cell) : Cell := (l.find? (best l)).getD zero
/-- .. one by one. -/
def higher (a b : Cell) : Cell := if above a b = true then a else b
theorem higher_wins {l : List Cell} {m x : Cell} (h : Wins l m) : Wins (x :: l) (higher x m) := by
  unfold higher
  by_cases k : above x m = true
  · rw [if_pos k]
    refine ⟨by simp, fun y hy => ?_⟩
    rcases List.mem_cons.1 hy with rfl | hy
    · exact above_self _
    · cases hc : above y x with
      | false => rfl
      | true =>
        have := above_trans hc k
        rw [h.top y hy] at this
        cases this
  · rw [if_neg k]
    refine ⟨by simp [h.mem], fun y hy => ?_⟩
    rcases List.mem_cons.1 hy with rfl | hy
    · simpa using k
    · exact h.top y hy
theorem wins_some : ∀ {l : List Cell}, l ≠ [] → ∃ m, Wins l m
  | [], h => absurd rfl h
  | [a], _ => ⟨a, by simp, fun x hx => by rw [List.mem_singleton.1 hx]; exact above_self a⟩
  | a :: b :: r, _ => by
    obtain ⟨m, hm⟩ := wins_some (l := b :: r) (by simp)
    exact ⟨_, higher_wins (x := a) hm⟩
theorem merge_is {l : List Cell} {m : Cell} (h : Wins l m) : merge l = m := by
  unfold merge
  cases hf : l.find? (best l) with
  | none =>
    have := List.find?_eq_none.1 hf m h.mem
    exact absurd (best_iff.2 h.top) this
  | some c =>
    have h1 := List.find?_some hf
    have h2 := List.mem_of_find?_eq_some hf
    exact wins_one ⟨h2, best_iff.1 h1⟩ h
theorem merge_wins {l : List Cell} (h : l ≠ []) : Wins l (merge l) := by
  obtain ⟨m, hm⟩ := wins_some h
  rw [merge_is hm]
  exact hm
theorem merge_nil : merge [] = zero := rfl
/-- P15.2: in whichever order, and as often as they come. -/
theorem merge_same {l l' : List Cell} (h : ∀ x, x ∈ l ↔ x ∈ l') : merge l = merge l' := by
  by_cases hl : l = []
  · subst hl
    have : l' = [] := by
      cases l' with
      | nil => rfl
      | cons a r => exact absurd ((h a).2 (by simp)) (by simp)
    rw [this]
  · have hw := merge_wins hl
    exact (merge_is ⟨(h _).1 hw.mem, fun x hx => hw.top x ((h x).2 hx)⟩).symm
/-- .. however they are merged one by one. -/
theorem merge_parts {l l' : List Cell} (h : l ≠ []) (h' : l' ≠ []) : merge [merge l, merge l'] = merge (l ++ l') := by
  have h1 := merge_wins h
  have h2 := merge_wins h'
  have hne : l ++ l' ≠ [] := by simp [h]
  have hw := merge_wins hne
  refine merge_is ?_
  refine ⟨?_, fun x hx => ?_⟩
  · rcases List.mem_append.1 hw.mem with hm | hm
    · have : merge l = merge (l ++ l') := wins_one h1 ⟨hm, fun x hx => hw.top x (by simp [hx])⟩
      rw [this]; simp
    · have : merge l' = merge (l ++ l') := wins_one h2 ⟨hm, fun x hx => hw.top x (by simp [hx])⟩
      rw [this]; simp
  · simp only [List.mem_cons, List.not_mem_nil, or_false] at hx
    rcases hx with rfl | rfl
    · exact hw.top _ (List.mem_append_left _ h1.mem)
    · exact hw.top _ (List.mem_append_right _ h2.mem)
/-- .. or again. -/
theorem merge_again {l : List Cell} (h : l ≠ []) : merge (l ++ [merge l]) = merge l := merge_same fun x => by
  have := (merge_wins h).mem
  simp only [List.mem_append, List.mem_singleton]
  exact ⟨fun hx => hx.elim id fun e => e ▸ this, .inl⟩
/-- One by one, from any one of them on. -/
theorem merge_fold : ∀ (done todo : List Cell) (one : Cell), Wins done one → todo.foldl (fun o x => merge [x, o]) one = merge (done ++ todo)
  | done, [], one, h => by rw [List.append_nil]; exact (merge_is h).symm
  | done, x :: todo, one, h => by
    have h1 : Wins (done ++ [x]) (merge [x, one]) := by
      have hw := merge_wins (l := [x, one]) (by simp)
      have h2 := hw.top x (by simp)
      have h3 := hw.top one (by simp)
      refine ⟨?_, fun y hy => ?_⟩
      · have := hw.mem
        simp only [List.mem_cons, List.not_mem_nil, or_false] at this
        rcases this with e | e
        · rw [e]; simp
        · rw [e]; exact List.mem_append_left _ h.mem
      · simp only [List.mem_append, List.mem_singleton] at hy
        rcases hy with hy | rfl
        · cases hc : above y (merge [x, one]) with
          | false => rfl
          | true =>
            rcases above_tri one (merge [x, one]) with e | e | e
            · rw [← e, h.top y hy] at hc; cases hc
            · rw [h3] at e; cases e
            · have := above_trans hc e
              rw [h.top y hy] at this; cases this
        · exact h2
    rw [List.foldl_cons, merge_fold (done ++ [x]) todo _ h1, List.append_assoc]
    rfl
end RegMath
namespace StoreMath
open RegMath

/-- A session and a key. -/
abbrev Key := List Nat × List Nat
structure Row where
  k : Key
  c : Cell
deriving DecidableEq
def klt : Key → Key → Bool := both lex lex
theorem strict_key : Strict klt := strict_lex.both strict_lex
def Rising (L : List Row) : Prop := L.Pairwise fun a b => klt a.k b.k = true
/-- The cell of a key, if there is one. -/
def look : List Row → Key → Option Cell
  | [], _ => none
  | r :: L, k => if r.k = k then some r.c else look L k
theorem klt_self (k : Key) : klt k k = false := strict_key.irr k
theorem klt_ne {a b : Key} (h : klt a b = true) : a ≠ b := fun e => by
  rw [e, klt_self] at h
  cases h
theorem look_above {L : List Row} {k : Key} (h : ∀ r ∈ L, klt k r.k = true) : look L k = none := by
  induction L with
  | nil => rfl
  | cons r L ih =>
    rw [look, if_neg (fun e => klt_ne (h r (by simp)) e.symm)]
    exact ih fun x hx => h x (by simp [hx])
theorem look_mem {L : List Row} {k : Key} {c : Cell} (h : look L k = some c) : ⟨k, c⟩ ∈ L := by
  induction L with
  | nil => cases h
  | cons r L ih =>
    rw [look] at h
    split at h
    · rename_i e
      obtain rfl := Option.some.inj h
      rw [← e]
      simp
    · exact List.mem_cons_of_mem _ (ih h)
theorem look_of_mem {L : List Row} (hL : Rising L) {r : Row} (h : r ∈ L) : look L r.k = some r.c := by
  induction L with
  | nil => cases h
  | cons x L ih =>
    obtain ⟨h1, h2⟩ := List.pairwise_cons.1 hL
    rcases List.mem_cons.1 h with rfl | h
    · rw [look, if_pos rfl]
    · rw [look, if_neg (fun e => klt_ne (h1 r h) e)]
      exact ih h2 h
/-- Rising rows of the same cells are the same. -/
theorem rising_ext : ∀ {L M : List Row}, Rising L → Rising M → (∀ k, look L k = look M k) → L = M
  | [], [], _, _, _ => rfl
  | [], b :: M, _, _, h => by
    have := h b.k
    rw [look, look, if_pos rfl] at this
    cases this
  | a :: L, [], _, _, h => by
    have := h a.k
    rw [look, look, if_pos rfl] at this
    cases this
  | a :: L, b :: M, hL, hM, h => by
    obtain ⟨a1, a2⟩ := List.pairwise_cons.1 hL
    obtain ⟨b1, b2⟩ := List.pairwise_cons.1 hM
    have hk : a.k = b.k := by
      rcases strict_key.tri a.k b.k with e | e | e
      · exact e
      · have h1 := h a.k
        rw [look, if_pos rfl, look_above (L := b :: M) (k := a.k) (fun r hr => by
          rcases List.mem_cons.1 hr with rfl | hr
          · exact e
          · exact strict_key.trans _ _ _ e (b1 r hr))] at h1
        cases h1
      · have h1 := h b.k
        rw [look_above (L := a :: L) (k := b.k) (fun r hr => by
          rcases List.mem_cons.1 hr with rfl | hr
          · exact e
          · exact strict_key.trans _ _ _ e (a1 r hr)), look, if_pos rfl] at h1
        cases h1
    have hc : a.c = b.c := by
      have h1 := h a.k
      rw [look, if_pos rfl, look, if_pos hk.symm] at h1
      exact Option.some.inj h1
    have hab : a = b := by
      cases a; cases b
      simp only at hk hc
      rw [hk, hc]
    subst hab
    rw [rising_ext a2 b2 (fun k => by
      by_cases e : a.k = k
      · subst e
        rw [look_above a1, look_above b1]
      · have h1 := h k
        rw [look, if_neg e, look, if_neg e] at h1
        exact h1)]
/-- A row is put in its place. -/
def put : List Row → Key → Cell → List Row
  | [], k, c => [⟨k, c⟩]
  | r :: L, k, c => if r.k = k then ⟨k, c⟩ :: L else if klt k r.k = true then ⟨k, c⟩ :: r :: L else r :: put L k c
theorem put_mem {L : List Row} {k : Key} {c : Cell} {x : Row} (h : x ∈ put L k c) : x = ⟨k, c⟩ ∨ x ∈ L := by
  induction L with
  | nil => exact .inl (by simpa [put] using h)
  | cons r L ih =>
    rw [put] at h
    split at h
    · rcases List.mem_cons.1 h with h | h
      · exact .inl h
      · exact .inr (List.mem_cons_of_mem _ h)
    · split at h
      · rcases List.mem_cons.1 h with h | h
        · exact .inl h
        · exact .inr h
      · rcases List.mem_cons.1 h with rfl | h
        · exact .inr (by simp)
        · rcases ih h with h | h
          · exact .inl h
          · exact .inr (List.mem_cons_of_mem _ h)
theorem rising_put : ∀ {L : List Row} (k : Key) (c : Cell), Rising L → Rising (put L k c)
  | [], k, c, _ => by simp [put, Rising]
  | r :: L, k, c, h => by
    obtain ⟨h1, h2⟩ := List.pairwise_cons.1 h
    rw [put]
    split
    · rename_i e
      refine List.pairwise_cons.2 ⟨fun x hx => ?_, h2⟩
      show klt k x.k = true
      rw [← e]
      exact h1 x hx
    · split
      · rename_i e
        refine List.pairwise_cons.2 ⟨fun x hx => ?_, h⟩
        rcases List.mem_cons.1 hx with rfl | hx
        · exact e
        · exact strict_key.trans _ _ _ e (h1 x hx)
      · rename_i e1 e2
        refine List.pairwise_cons.2 ⟨fun x hx => ?_, rising_put k c h2⟩
        rcases put_mem hx with rfl | hx
        · rcases strict_key.tri r.k k with e | e | e
          · exact absurd e e1
          · exact e
          · exact absurd e e2
        · exact h1 x hx
theorem look_put : ∀ {L : List Row} (k : Key) (c : Cell) (q : Key), Rising L → look (put L k c) q = if q = k then some c else look L q
  | [], k, c, q, _ => by
    rw [put, look, look]
    by_cases e : q = k
    · rw [if_pos e, if_pos e.symm]
    · rw [if_neg e, if_neg (fun h => e h.symm)]
      rfl
  | r :: L, k, c, q, h => by
    obtain ⟨h1, h2⟩ := List.pairwise_cons.1 h
    rw [put]
    split
    · rename_i e
      rw [look, look]
      by_cases e2 : q = k
      · rw [if_pos e2.symm, if_pos e2]
      · rw [if_neg (fun h => e2 h.symm), if_neg e2, if_neg (fun h => e2 (h.symm.trans e))]
    · rename_i e1
      split
      · rename_i e
        rw [look]
        by_cases e2 : q = k
        · rw [if_pos e2.symm, if_pos e2]
        · rw [if_neg (fun h => e2 h.symm), if_neg e2]
      · rw [look, look, look_put k c q h2]
        by_cases e2 : r.k = q
        · rw [if_pos e2, if_pos e2, if_neg (fun h => e1 (e2.trans h))]
        · rw [if_neg e2, if_neg e2]
/-- What a write makes of a cell. -/
def cellOf : Option Cell → Cell → Cell
  | none, c => c
  | some d, c => merge [d, c]
structure Wr where
  k : Key
  c : Cell
/-- A write, applied: is the cell another one? -/
def apply (L : List Row) (w : Wr) : List Row × Bool :=
  if look L w.k = some (cellOf (look L w.k) w.c) then (L, false) else (put L w.k (cellOf (look L w.k) w.c), true)
theorem rising_apply {L : List Row} (w : Wr) (h : Rising L) : Rising (apply L w).1 := by
  unfold apply
  split
  · exact h
  · exact rising_put _ _ h
theorem look_apply {L : List Row} (w : Wr) (q : Key) (h : Rising L) : look (apply L w).1 q = if q = w.k then some (cellOf (look L w.k) w.c) else look L q := by
  unfold apply
  split
  · rename_i e
    by_cases e2 : q = w.k
    · rw [if_pos e2, e2]
      exact e
    · rw [if_neg e2]
  · exact look_put _ _ _ h
/-- All that was applied. -/
def after (L : List Row) (ws : List Wr) : List Row := ws.foldl (fun L w => (apply L w).1) L
theorem rising_after : ∀ {L : List Row} (ws : List Wr), Rising L → Rising (after L ws)
  | _, [], h => h
  | _, w :: ws, h => rising_after ws (rising_apply w h)
theorem rising_nil : Rising [] := List.Pairwise.nil
theorem after_append (L : List Row) (a b : List Wr) : after L (a ++ b) = after (after L a) b := by
  unfold after
  rw [List.foldl_append]
/-- The cells of a key's writes. -/
def cellsAt (ws : List Wr) (k : Key) : List Cell := (ws.filter fun w => w.k = k).map Wr.c
def mergeO (l : List Cell) : Option Cell := if l = [] then none else some (merge l)
theorem merge_one (c : Cell) : merge [c] = c := merge_is ⟨by simp, fun x hx => by rw [List.mem_singleton.1 hx]; exact above_self c⟩
theorem cellOf_merge (l : List Cell) (c : Cell) : cellOf (mergeO l) c = merge (l ++ [c]) := by
  unfold mergeO
  split
  · rename_i e
    rw [e]
    exact (merge_one c).symm
  · rename_i e
    show merge [merge l, c] = _
    have := merge_parts (l := l) (l' := [c]) e (by simp)
    rw [merge_one] at this
    exact this
theorem look_after (k : Key) : ∀ ws : List Wr, look (after [] ws) k = mergeO (cellsAt ws k) := by
  have key : ∀ (n : Nat) (ws : List Wr), ws.length = n → look (after [] ws) k = mergeO (cellsAt ws k) := by
    intro n
    induction n with
    | zero =>
      intro ws h
      obtain rfl := List.eq_nil_of_length_eq_zero h
      rfl
    | succ n ih =>
      intro ws h
      obtain ⟨vs, w, rfl⟩ : ∃ vs w, ws = vs ++ [w] := ⟨ws.dropLast, ws.getLast (by intro e; rw [e] at h; cases h), (List.dropLast_concat_getLast _).symm⟩
      have h1 := ih vs (by simpa using h)
      rw [after_append]
      show look (apply (after [] vs) w).1 k = _
      rw [look_apply w k (rising_after vs rising_nil)]
      unfold cellsAt
      rw [List.filter_append, List.map_append]
      by_cases e : k = w.k
      · subst e
        rw [if_pos rfl, h1, cellOf_merge]
        have e2 : ([w].filter fun v => v.k = w.k) = [w] := by simp
        rw [e2]
        unfold mergeO
        rw [if_neg (by simp)]
        rfl
      · rw [if_neg e, h1]
        have e2 : ([w].filter fun v => decide (v.k = k)) = [] := by
          rw [List.filter_cons_of_neg (by simpa using fun h : w.k = k => e h.symm)]
          rfl
        rw [e2, List.map_nil, List.append_nil]
        rfl
  exact fun ws => key ws.length ws rfl
/-- P16.2: the writes tell all. -/
theorem after_same {a b : List Wr} (h : ∀ w, w ∈ a ↔ w ∈ b) : after [] a = after [] b := by
  refine rising_ext (rising_after a rising_nil) (rising_after b rising_nil) fun k => ?_
  rw [look_after, look_after]
  have hm : ∀ c, c ∈ cellsAt a k ↔ c ∈ cellsAt b k := by
    intro c
    unfold cellsAt
    simp only [List.mem_map, List.mem_filter, decide_eq_true_eq]
    exact ⟨fun ⟨w, ⟨h1, h2⟩, h3⟩ => ⟨w, ⟨(h w).1 h1, h2⟩, h3⟩, fun ⟨w, ⟨h1, h2⟩, h3⟩ => ⟨w, ⟨(h w).2 h1, h2⟩, h3⟩⟩
  have hn : cellsAt a k = [] ↔ cellsAt b k = [] := by
    rw [List.eq_nil_iff_forall_not_mem, List.eq_nil_iff_forall_not_mem]
    exact ⟨fun g c hc => g c ((hm c).2 hc), fun g c hc => g c ((hm c).1 hc)⟩
  unfold mergeO
  by_cases e : cellsAt a k = []
  · rw [if_pos e, if_pos (hn.1 e)]
  · rw [if_neg e, if_neg (fun g => e (hn.2 g)), merge_same hm]
/-! What shows. -/
def visible (c : Cell) : Bool := !c.gone && decide (1 ≤ c.st.1)
def head (L : List Row) (s : List Nat) : Cell := (look L (s, [])).getD zero
def shows (L : List Row) : List Row := L.filter fun r => visible r.c && visible (head L r.k.1)
def sweep (L : List Row) (f : Int) : List Row := L.filter fun r => !r.c.gone || decide (f < r.c.st.1)
theorem rising_filter {L : List Row} (p : Row → Bool) (h : Rising L) : Rising (L.filter p) := List.Pairwise.filter p h
theorem look_filter {L : List Row} (p : Row → Bool) (k : Key) (h : Rising L) : look (L.filter p) k = match look L k with
    | some c => if p ⟨k, c⟩ = true then some c else none
    | none => none := by
  induction L with
  | nil => rfl
  | cons r L ih =>
    obtain ⟨h1, h2⟩ := List.pairwise_cons.1 h
    by_cases e : r.k = k
    · subst e
      rw [look, if_pos rfl]
      simp only
      by_cases hp : p r = true
      · rw [List.filter_cons_of_pos hp, look, if_pos rfl, if_pos hp]
      · rw [List.filter_cons_of_neg hp, if_neg hp]
        exact look_above fun x hx => h1 x (List.mem_filter.1 hx).1
    · rw [look, if_neg e, ← ih h2]
      by_cases hp : p r = true
      · rw [List.filter_cons_of_pos hp, look, if_neg e]
      · rw [List.filter_cons_of_neg hp]
/-- One store was swept, the other one wasn't. -/
structure Swept (f : Int) (A B : List Row) : Prop where
  ra : Rising A
  rb : Rising B
  at_ : ∀ k, look B k = look A k ∨ (look B k = none ∧ ∃ c, look A k = some c ∧ c.gone = true ∧ c.st.1 ≤ f)
theorem swept_sweep {L : List Row} (f : Int) (h : Rising L) : Swept f L (sweep L f) where
  ra := h
  rb := rising_filter _ h
  at_ := fun k => by
    unfold sweep
    rw [look_filter _ k h]
    cases hl : look L k with
    | none => exact .inl rfl
    | some c =>
      simp only
      by_cases hp : (!c.gone || decide (f < c.st.1)) = true
      · rw [if_pos hp]
        exact .inl rfl
      · rw [if_neg hp]
        simp only [Bool.or_eq_true, Bool.not_eq_true', decide_eq_true_eq, not_or, Bool.not_eq_false] at hp
        exact .inr ⟨rfl, c, rfl, hp.1, by omega⟩
theorem merge_later {c d : Cell} (h : c.st.1 < d.st.1) : merge [c, d] = d := by
  refine merge_is ⟨by simp, fun x hx => ?_⟩
  simp only [List.mem_cons, List.not_mem_nil, or_false] at hx
  rcases hx with rfl | rfl
  · cases hc : above x d with
    | false => rfl
    | true =>
      have hd : above d x = true := by
        unfold above
        rw [if_pos (fun e => by rw [e] at h; omega)]
        exact StampMath.less_iff.2 (.inl h)
      rw [above_asym hd] at hc
      cases hc
  · exact above_self _
theorem swept_apply {f : Int} {A B : List Row} (w : Wr) (h : Swept f A B) (hw : f < w.c.st.1) : Swept f (apply A w).1 (apply B w).1 where
  ra := rising_apply w h.ra
  rb := rising_apply w h.rb
  at_ := fun k => by
    rw [look_apply w k h.ra, look_apply w k h.rb]
    by_cases e : k = w.k
    · rw [if_pos e, if_pos e]
      refine .inl (congrArg some ?_)
      rcases h.at_ w.k with h1 | ⟨h1, c, h2, _, h3⟩
      · rw [h1]
      · rw [h1, h2]
        show w.c = merge [c, w.c]
        exact (merge_later (by omega)).symm
    · rw [if_neg e, if_neg e]
      exact h.at_ k
theorem gone_hid {c : Cell} (h : c.gone = true) : visible c = false := by
  unfold visible
  rw [h]
  rfl
theorem zero_hid : visible zero = false := by decide
theorem swept_head {f : Int} {A B : List Row} (h : Swept f A B) (s : List Nat) : visible (head B s) = visible (head A s) := by
  unfold head
  rcases h.at_ (s, []) with h1 | ⟨h1, c, h2, h3, _⟩
  · rw [h1]
  · rw [h1, h2]
    show visible zero = visible c
    rw [zero_hid, gone_hid h3]
/-- P16.3: what shows is the same. -/
theorem swept_shows {f : Int} {A B : List Row} (h : Swept f A B) : shows A = shows B := by
  refine rising_ext (rising_filter _ h.ra) (rising_filter _ h.rb) fun k => ?_
  unfold shows
  rw [look_filter _ k h.ra, look_filter _ k h.rb]
  rcases h.at_ k with h1 | ⟨h1, c, h2, h3, _⟩
  · rw [h1]
    cases look A k with
    | none => rfl
    | some c =>
      simp only
      rw [swept_head h]
  · rw [h1, h2]
    simp only [gone_hid h3, Bool.false_and]
    rw [if_neg (by decide)]
end StoreMath
