/-
  Texts of one claim, merged.
  Nest1: Maps keyed by texts, nil ones among them, read as a list of their entries in whatever order; a range over one. No conditions but those typed.
  StoreSort: Plain mathematics of chapter 16: what stands in rising order and has the same members is one list; keys and sessions that live rise. No program is run here.
  StorePerm: Plain mathematics: the rows behind an Apply, in whatever order. No program is run here.
-/
import Derived.Test.YtgbhfhnbmgkaoaaGreatDoorPart20
import Derived.Test.YtgbhfhnbmgkaoaaGreatDoorPart01
import Derived.Test.YtgbhfhnbmgkaoaaGreatDoorPart03
import Derived.Test.YtgbhfhnbmgkaoaaGreatDoorPart15
namespace Go.Proofs.YtgbhfhnbmgkaoaaGreatDoor
open Go.RowKit Go.Maps TextNat RegMath

/-- Keys that are texts. -/
def tk : KeyK Tryz.prog 9 ByteArray where
  law := string_keyed Tryz.underlying9
  val := Value.string
  fits s := s.size ≤ maxLen
  lit := keyT
  is s h := by rw [keyOf_string Tryz.underlying9]; simp [mapKey, Tryz.underlying9, h]
  inv v l h := by
    obtain ⟨s, rfl⟩ := Maps.keyOf_string_inv Tryz.underlying9 h
    rw [keyOf_string Tryz.underlying9] at h
    simp [mapKey, Tryz.underlying9] at h
    exact ⟨s, rfl, h.1, h.2.symm⟩
  val_one a b h := by simpa using h
theorem tk_fits {s : ByteArray} (h : s.size ≤ 1000) : tk.fits s := by show s.size ≤ maxLen; unfold maxLen; omega
theorem ownsMap_same {w w' : World} {k : TypeId} {R : Value → Option (DataW Unit × List MemPlace)} {b n : Nat} {D : DataW Unit} (h : w.ownsMap Tryz.prog k R b n D) (e : w'.heap[b]? = w.heap[b]?) : w'.ownsMap Tryz.prog k R b n D := by
  obtain ⟨es, cl, h1, h2⟩ := h
  exact ⟨es, cl, e.trans h1, h2⟩
theorem ownsMap_lt {w : World} {k : TypeId} {R : Value → Option (DataW Unit × List MemPlace)} {b n : Nat} {D : DataW Unit} (h : w.ownsMap Tryz.prog k R b n D) : b < w.heap.size := by
  obtain ⟨es, cl, h1, _⟩ := h
  exact (Array.getElem?_eq_some_iff.1 h1).1
theorem ownsMap_tight {w : World} {k : TypeId} {R : Value → Option (DataW Unit × List MemPlace)} {b n : Nat} {D : DataW Unit} (h : w.ownsMap Tryz.prog k R b n D) : w.ownsMap Tryz.prog k R b (Maps.size D) D := by
  obtain ⟨es, cl, h1, h2, _, rfl⟩ := h
  exact ⟨es, cl, h1, h2, by simp [Maps.size, length_sorted], rfl⟩
section
variable {α : Type} {E : Elem α}
/-- The map m, or none, holds these entries. -/
def MapAt (E : Elem α) (w : World) (m : Option Nat) (l : List (ByteArray × α)) : Prop := match m with
  | none => l = []
  | some b => ∃ D, w.ownsMap Tryz.prog 9 E.read b l.length D ∧ Holds16 tk E D l
theorem MapAt.none (w : World) : MapAt E w none [] := rfl
theorem MapAt.same {w w' : World} {m : Option Nat} {l : List (ByteArray × α)} (h : MapAt E w m l) (e : ∀ b, m = some b → w'.heap[b]? = w.heap[b]?) : MapAt E w' m l := by
  cases m with
  | none => exact h
  | some b =>
    obtain ⟨D, h1, h2⟩ := h
    exact ⟨D, ownsMap_same h1 (e b rfl), h2⟩
theorem MapAt.lt {w : World} {b : Nat} {l : List (ByteArray × α)} (h : MapAt E w (some b) l) : b < w.heap.size := by
  obtain ⟨D, h1, _⟩ := h
  exact ownsMap_lt h1
theorem MapAt.below {w w' : World} {m : Option Nat} {l : List (ByteArray × α)} (h : MapAt E w m l) (hb : Below w.heap.size w w') : MapAt E w' m l :=
  h.same fun b hm => by subst hm; exact hb.block b h.lt
theorem MapAt.of {w : World} {b n : Nat} {D : DataW Unit} {l : List (ByteArray × α)} (h1 : w.ownsMap Tryz.prog 9 E.read b n D) (h2 : Holds16 tk E D l) : MapAt E w (some b) l := by
  have h := ownsMap_tight h1
  rw [h2.size] at h
  exact ⟨D, h, h2⟩
theorem MapAt.perm {w : World} {m : Option Nat} {l l' : List (ByteArray × α)} (h : MapAt E w m l) (hp : l.Perm l') : MapAt E w m l' := by
  cases m with
  | none =>
    have : l = [] := h
    subst this
    exact List.perm_nil.1 hp.symm
  | some b =>
    obtain ⟨D, h1, h2⟩ := h
    rw [hp.length_eq] at h1
    exact ⟨D, h1, h2.perm hp⟩
theorem MapAt.apart {w : World} {m : Option Nat} {l : List (ByteArray × α)} (h : MapAt E w m l) : l.Pairwise fun p q => p.1 ≠ q.1 := by
  cases m with
  | none =>
    have : l = [] := h
    subst this
    exact List.Pairwise.nil
  | some b =>
    obtain ⟨D, _, h2⟩ := h
    exact h2.apart
theorem MapAt.one {w : World} {m : Option Nat} {l : List (ByteArray × α)} (h : MapAt E w m l) {p q : ByteArray × α} (hp : p ∈ l) (hq : q ∈ l) (e : p.1 = q.1) : p = q := by
  cases m with
  | none =>
    have : l = [] := h
    subst this
    cases hp
  | some b =>
    obtain ⟨D, _, h2⟩ := h
    exact h2.one hp hq e
/-- A look-up, with what it says of whether it is there, and without. -/
theorem MapAt.look {w : World} {m : Option Nat} {l : List (ByteArray × α)} (h : MapAt E w m l) {t e : TypeId} (ht : Tryz.prog.underlying t = some (.map 9 e)) {z : α} (hz : (zeroValue e).run Tryz.prog w = .ok (E.val z) w) {s : ByteArray} (hs : s.size ≤ maxLen) {r : Option α} (hr : Finds l s r) :
    (Instr.lookup t (.map m) (.string s) false).run Tryz.prog w = .ok (E.val (r.getD z)) w ∧ (Instr.lookup t (.map m) (.string s) true).run Tryz.prog w = .ok (.tuple #[E.val (r.getD z), .bool r.isSome]) w := by
  cases m with
  | none =>
    have : l = [] := h
    subst this
    obtain rfl : r = Option.none := by
      cases r with
      | none => rfl
      | some c => exact absurd hr (List.not_mem_nil)
    exact ⟨Maps.look_nil false tk.law ht hz (tk.is s hs), Maps.look_nil true tk.law ht hz (tk.is s hs)⟩
  | some b =>
    obtain ⟨D, h1, h2⟩ := h
    constructor
    · obtain ⟨v, ps, hrun, hv⟩ := h1.lookup (t := t) tk.law ht hz (E.read_mk z) (tk.is s hs)
      obtain ⟨c, rfl, hc⟩ := E.read_inv hv
      rw [h2.look tk E hs hr] at hc
      obtain rfl := E.dat_one _ _ (Prod.mk.inj hc).1
      exact hrun
    · obtain ⟨v, ps, hrun, hv⟩ := h1.look_ok (t := t) tk.law ht hz (E.read_mk z) (tk.is s hs)
      obtain ⟨c, rfl, hc⟩ := E.read_inv hv
      rw [h2.look tk E hs hr] at hc
      obtain rfl := E.dat_one _ _ (Prod.mk.inj hc).1
      rw [h2.is tk E hs hr] at hrun
      exact hrun
/-- How many. -/
theorem MapAt.len {w : World} {m : Option Nat} {l : List (ByteArray × α)} (h : MapAt E w m l) {t e : TypeId} (ht : Tryz.prog.underlying t = some (.map 9 e)) (ty : TypeId) : (Builtin.len_ #[t] ty #[.map m]).run Tryz.prog w = .ok (.int .i64 (l.length : Int)) w := by
  cases m with
  | none =>
    have : l = [] := h
    subst this
    exact Maps.len_nil ht ty
  | some b =>
    obtain ⟨D, h1, h2⟩ := h
    rw [← h2.size]
    exact h1.len ht ty
theorem MapAt.made (w : World) : MapAt E (w.alloc (.map #[] 0)) (some w.heap.size) ([] : List (ByteArray × α)) :=
  ⟨_, World.ownsMap_made w Tryz.prog 9 E.read, Holds16.empty⟩
/-- cs: the entries that have come. -/
def CameE (l : List (ByteArray × α)) (left : Lit → Bool) (cs : List (ByteArray × α)) : Prop := ∃ rest, l.Perm (cs ++ rest) ∧ (∀ x ∈ cs, left (tk.lit x.1) = false) ∧ ∀ x ∈ rest, left (tk.lit x.1) = true
theorem CameE.len {l cs : List (ByteArray × α)} {left : Lit → Bool} (h : CameE l left cs) : cs.length ≤ l.length := by
  obtain ⟨rest, hp, _, _⟩ := h
  have := hp.length_eq
  rw [List.length_append] at this
  omega
theorem CameE.mem {l cs : List (ByteArray × α)} {left : Lit → Bool} (h : CameE l left cs) {x : ByteArray × α} (hx : x ∈ cs) : x ∈ l := by
  obtain ⟨rest, hp, _, _⟩ := h
  exact hp.mem_iff.2 (List.mem_append_left _ hx)
theorem CameE.start {l : List (ByteArray × α)} {D : DataW Unit} (h : Holds16 tk E D l) : CameE l (Maps.has D) [] :=
  ⟨l, List.Perm.refl _, fun x hx => by simp at hx, fun x hx => (h.has (h.fits _ hx)).2 ⟨x.2, hx⟩⟩
theorem CameE.ended {l cs : List (ByteArray × α)} {left : Lit → Bool} (h : CameE l left cs) (hl : ∀ k, left k = false) : l.Perm cs := by
  obtain ⟨rest, hp, _, h2⟩ := h
  cases rest with
  | nil => rw [List.append_nil] at hp; exact hp
  | cons x r => have := h2 x (by simp); rw [hl] at this; cases this
theorem CameE.step {l cs : List (ByteArray × α)} {D : DataW Unit} {left : Lit → Bool} (h : CameE l left cs) (hH : Holds16 tk E D l) {x : ByteArray × α} (hx : x ∈ l) (hl : left (tk.lit x.1) = true) :
    CameE l (fun z => left z && !z.sameKey (tk.lit x.1)) (cs ++ [x]) := by
  obtain ⟨rest, hp, h1, h2⟩ := h
  have hxr : x ∈ rest := by
    rcases List.mem_append.1 (hp.mem_iff.1 hx) with h | h
    · rw [h1 x h] at hl; cases hl
    · exact h
  obtain ⟨a, c, rfl⟩ := List.append_of_mem hxr
  have hp2 : l.Perm (x :: (cs ++ (a ++ c))) := by
    refine hp.trans ?_
    have : cs ++ (a ++ x :: c) = (cs ++ a) ++ x :: c := by simp
    rw [this]
    refine List.perm_middle.trans ?_
    simp
  have hne : ∀ y ∈ cs ++ (a ++ c), y.1 ≠ x.1 := fun y hy e => by
    have ha2 : (x :: (cs ++ (a ++ c))).Pairwise fun p q => p.1 ≠ q.1 := (hp2.pairwise_iff fun h e => h e.symm).1 hH.apart
    exact (List.pairwise_cons.1 ha2).1 y hy e.symm
  refine ⟨a ++ c, hp2.trans ?_, fun y hy => ?_, fun y hy => ?_⟩
  · have : cs ++ [x] ++ (a ++ c) = cs ++ x :: (a ++ c) := by simp
    rw [this]
    exact List.perm_middle.symm
  · rcases List.mem_append.1 hy with h | h
    · show (left (tk.lit y.1) && !(tk.lit y.1).sameKey (tk.lit x.1)) = false
      rw [h1 y h]; rfl
    · show (left (tk.lit y.1) && !(tk.lit y.1).sameKey (tk.lit x.1)) = false
      rw [List.mem_singleton.1 h, tk.same (hH.fits x hx)]
      simp
  · have hym : y ∈ l := hp2.mem_iff.2 (List.mem_cons_of_mem _ (List.mem_append_right _ hy))
    have h3 : left (tk.lit y.1) = true := h2 y (by
      rcases List.mem_append.1 hy with h | h
      · exact List.mem_append_left _ h
      · exact List.mem_append_right _ (List.mem_cons_of_mem _ h))
    show (left (tk.lit y.1) && !(tk.lit y.1).sameKey (tk.lit x.1)) = true
    rw [h3, sameKey_ne fun e => hne y (List.mem_append_right _ hy) (tk.lit_one (hH.fits y hym) (hH.fits x hx) e)]
    rfl
theorem ranges_same {w w' : World} {b r n : Nat} {D : DataW Unit} {left : Lit → Bool} {cnt : Nat} (h : w.ranges Tryz.prog 9 E.read b r n D left cnt) (e1 : w'.heap[b]? = w.heap[b]?) (e2 : w'.heap[r]? = w.heap[r]?) :
    w'.ranges Tryz.prog 9 E.read b r n D left cnt := by
  obtain ⟨es, clock, since, seen, c0, h1, h2, h3, h4, h5, h6⟩ := h
  exact ⟨es, clock, since, seen, c0, e1.trans h1, h2, h3, h4, e2.trans h5, h6⟩
theorem ranges_below {w w' : World} {b r n : Nat} {D : DataW Unit} {left : Lit → Bool} {cnt B : Nat} (h : w.ranges Tryz.prog 9 E.read b r n D left cnt) (hb : Below B w w') (h1 : b < B) (h2 : r < B) : w'.ranges Tryz.prog 9 E.read b r n D left cnt :=
  ranges_same h (hb.block b h1) (hb.block r h2)
end
section
variable {α : Type} (E : Elem α) (w : World) {ops : Array Oper} {rest : List Oper} {o : Oper} {a : Act} {Q : Exit → Act → World → Prop}
/-- The step of a range over a map of texts. -/
theorem wpList_next_text (hg : o.guard = none) (it : Operand) (hop : o.op = Op.next it false) (b r n : Nat) (D : DataW Unit) (l cs : List (ByteArray × α)) (left : Lit → Bool) (cnt : Nat)
    (hit : a.eval it = .pointer (some ⟨r, 0, none⟩)) (h : w.ranges Tryz.prog 9 E.read b r n D left cnt) (hH : Holds16 tk E D l) (hC : CameE l left cs)
    (hDone : l.Perm cs → wpList Tryz.prog ops Q rest (a.put o.dst (.tuple #[.bool false])) w)
    (hMore : ∀ (s : ByteArray) (c : α) (w' : World) (cnt' : Nat) (left' : Lit → Bool), (s, c) ∈ l → w'.ranges Tryz.prog 9 E.read b r n D left' cnt' → cnt' < cnt → CameE l left' (cs ++ [(s, c)]) →
      w.grownBy w' (some r) → w'.heap.size = w.heap.size → (Instr.entry (.pointer (some ⟨r, 0, none⟩))).run Tryz.prog w' = .ok (.tuple #[.string s, E.val c]) w' →
      wpList Tryz.prog ops Q rest (a.put o.dst (.tuple #[.bool true, .string s, E.val c])) w') :
    wpList Tryz.prog ops Q (o :: rest) a w := by
  refine wpList_next_ranges w hg it hop 9 tk.law E.read tk.val E.val (fun key kl hq => by obtain ⟨x, hx, _⟩ := tk.inv key kl hq; exact ⟨x, hx⟩) (fun v y hv => by obtain ⟨c, hc, _⟩ := E.read_inv hv; exact ⟨c, hc⟩) b r n D left cnt hit h (fun _ hl => hDone (hC.ended hl)) fun s c kl y w' cnt' hkey hl hv hat hr hlt hg2 hs hen => ?_
  obtain ⟨c', hc', hy⟩ := E.read_inv hv
  obtain rfl := E.val_one _ _ hc'
  obtain ⟨s', hs', hfs, rfl⟩ := tk.inv _ _ hkey
  obtain rfl := tk.val_one _ _ hs'
  have hh : Maps.has D (tk.lit s) = true := has_true_of_atKey hat
  obtain ⟨c2, hc2⟩ := (hH.has hfs).1 hh
  have e1 := (hat .nil).symm.trans (hH.at hc2 .nil)
  rw [hy] at e1
  obtain rfl := E.dat_one _ _ e1
  exact hMore s c w' cnt' _ hc2 hr hlt (hC.step hH hc2 hl) hg2 hs hen
end
end Go.Proofs.YtgbhfhnbmgkaoaaGreatDoor
namespace StoreMath
open RegMath

/-- Two rising lists with the same members are one. -/
theorem rise_one {α : Type} {r : α → α → Bool} (hr : Strict r) : ∀ {a b : List α}, a.Pairwise (fun x y => r x y = true) → b.Pairwise (fun x y => r x y = true) → (∀ x, x ∈ a ↔ x ∈ b) → a = b
  | [], [], _, _, _ => rfl
  | [], y :: b, _, _, h => by have := (h y).2 (by simp); simp at this
  | x :: a, [], _, _, h => by have := (h x).1 (by simp); simp at this
  | x :: a, y :: b, h1, h2, h => by
    obtain ⟨a1, a2⟩ := List.pairwise_cons.1 h1
    obtain ⟨b1, b2⟩ := List.pairwise_cons.1 h2
    have hxy : x = y := by
      rcases List.mem_cons.1 ((h x).1 (by simp)) with e | hx
      · exact e
      · rcases List.mem_cons.1 ((h y).2 (by simp)) with e | hy
        · exact e.symm
        · have := hr.trans _ _ _ (a1 y hy) (b1 x hx)
          rw [hr.irr] at this
          cases this
    subst hxy
    rw [rise_one hr a2 b2 fun z => ⟨fun hz => ?_, fun hz => ?_⟩]
    · rcases List.mem_cons.1 ((h z).1 (List.mem_cons_of_mem _ hz)) with e | k
      · subst e
        have := a1 z hz
        rw [hr.irr] at this
        cases this
      · exact k
    · rcases List.mem_cons.1 ((h z).2 (List.mem_cons_of_mem _ hz)) with e | k
      · subst e
        have := b1 z hz
        rw [hr.irr] at this
        cases this
      · exact k
theorem klt_same {s a b : List Nat} : klt (s, a) (s, b) = lex a b := if_pos rfl
theorem keys_rise {L : List Row} (h : Rising L) (s : List Nat) : (keys L s).Pairwise fun a b => lex a b = true := by
  unfold keys
  rw [List.pairwise_map, List.pairwise_filter]
  refine h.imp ?_
  intro a b hab ha hb
  rw [Bool.and_eq_true, beq_iff_eq] at ha hb
  have e : klt (s, a.k.2) (s, b.k.2) = true := by
    have := hab
    rw [show a.k = (s, a.k.2) by rw [← ha.1], show b.k = (s, b.k.2) by rw [← hb.1]] at this
    exact this
  rw [klt_same] at e
  exact e
theorem lives_rise {L : List Row} (h : Rising L) : (lives L).Pairwise fun a b => lex a b = true := by
  unfold lives
  rw [List.pairwise_map, List.pairwise_filter]
  refine h.imp ?_
  intro a b hab ha hb
  rw [Bool.and_eq_true, List.isEmpty_iff] at ha hb
  have hab' : (if a.k.1 = b.k.1 then lex a.k.2 b.k.2 else lex a.k.1 b.k.1) = true := hab
  by_cases e : a.k.1 = b.k.1
  · rw [if_pos e, ha.1, hb.1, lex_irr] at hab'
    cases hab'
  · rw [if_neg e] at hab'
    exact hab'
theorem keys_mem {L : List Row} (h : Rising L) {s k : List Nat} : k ∈ keys L s ↔ k ≠ [] ∧ ∃ c, look L (s, k) = some c ∧ visible c = true := by
  unfold keys
  rw [List.mem_map]
  constructor
  · rintro ⟨r, hr, rfl⟩
    rw [List.mem_filter, Bool.and_eq_true, Bool.and_eq_true, beq_iff_eq] at hr
    obtain ⟨h1, h2, h3, h4⟩ := hr
    refine ⟨fun e => by rw [e] at h3; exact absurd h3 (by decide), r.c, ?_, h4⟩
    have := look_of_mem h h1
    rw [show r.k = (s, r.k.2) by rw [← h2]] at this
    exact this
  · rintro ⟨h1, c, h2, h3⟩
    refine ⟨⟨(s, k), c⟩, List.mem_filter.2 ⟨look_mem h2, ?_⟩, rfl⟩
    cases k with
    | nil => exact absurd rfl h1
    | cons x y => simp [h3]
/-- What was collected, once it is sorted. -/
theorem keys_sorted {L : List Row} (h : Rising L) {s : List Nat} {a : List (List Nat)} (ha : a.Pairwise fun x y => lex x y = true) (hm : ∀ k, k ∈ a ↔ k ≠ [] ∧ ∃ c, look L (s, k) = some c ∧ visible c = true) : a = keys L s :=
  rise_one strict_lex ha (keys_rise h s) fun k => (hm k).trans (keys_mem h).symm
theorem lives_sorted {L : List Row} (h : Rising L) {a : List (List Nat)} (ha : a.Pairwise fun x y => lex x y = true) (hm : ∀ s, s ∈ a ↔ visible (head L s) = true) : a = lives L :=
  rise_one strict_lex ha (lives_rise h) fun s => (hm s).trans (lives_mem h).symm
end StoreMath
namespace Go.Proofs.YtgbhfhnbmgkaoaaGreatDoor
open Go.RowKit TextNat RegMath

theorem put_perm : ∀ {L : List StoreMath.Row} (k : StoreMath.Key) (c : Cell), StoreMath.Rising L → (StoreMath.put L k c).Perm (⟨k, c⟩ :: L.filter fun r => decide (r.k ≠ k))
  | [], k, c, _ => List.Perm.refl _
  | r :: L, k, c, h => by
    obtain ⟨h1, h2⟩ := List.pairwise_cons.1 h
    have all : ∀ {M : List StoreMath.Row}, (∀ x ∈ M, x.k ≠ k) → M.filter (fun r => decide (r.k ≠ k)) = M := fun hM => List.filter_eq_self.2 fun x hx => decide_eq_true (hM x hx)
    rw [StoreMath.put]
    by_cases e : r.k = k
    · rw [if_pos e, List.filter_cons_of_neg (by simp [e]), all fun x hx e2 => by
        have := h1 x hx
        rw [e2, ← e, StoreMath.strict_key.irr] at this
        cases this]
    · rw [if_neg e]
      by_cases e2 : StoreMath.klt k r.k = true
      · rw [if_pos e2, all fun x hx e3 => by
          rcases List.mem_cons.1 hx with rfl | hx
          · exact e e3
          · have := StoreMath.strict_key.trans _ _ _ e2 (h1 x hx)
            rw [e3, StoreMath.strict_key.irr] at this
            cases this]
      · rw [if_neg e2, List.filter_cons_of_pos (by simp [e])]
        exact ((put_perm k c h2).cons r).trans (List.Perm.swap _ _ _)
def atV (s k : ByteArray) (r : RowV) : Bool := decide (r.session = s ∧ r.key = k)
theorem k_iff (r : RowV) (s k : ByteArray) : r.r.k = (nats s, nats k) ↔ (r.session = s ∧ r.key = k) := by
  show (nats r.session, nats r.key) = (nats s, nats k) ↔ _
  constructor
  · intro e
    obtain ⟨e1, e2⟩ := Prod.mk.inj e
    exact ⟨by rw [← txt_nats r.session, e1, txt_nats], by rw [← txt_nats r.key, e2, txt_nats]⟩
  · rintro ⟨rfl, rfl⟩; rfl
theorem apply_perm {xs : List RowV} (y : WriteV) (h : StoreMath.Rising (xs.map RowV.r)) (hs : sameC xs y = false) :
    (applyV xs y).1.Perm (⟨y.session, y.key, newC xs y⟩ :: xs.filter fun r => !atV y.session y.key r) := by
  obtain ⟨x, hx⟩ : ∃ x : RowV, x = ⟨y.session, y.key, newC xs y⟩ := ⟨_, rfl⟩
  have e1 : ((applyV xs y).1).map RowV.r = StoreMath.put (xs.map RowV.r) x.r.k x.r.c := by
    unfold applyV
    rw [if_neg (by rw [hs]; decide), ← hx]
    unfold idxI
    cases hi : idxV xs y.session y.key with
    | none =>
      refine out_new x xs 0 fun r hr e => ?_
      unfold idxV at hi
      rw [List.findIdx?_eq_none_iff] at hi
      have := hi r hr
      rw [decide_eq_false_iff_not] at this
      rw [hx] at e
      exact this ((k_iff r y.session y.key).1 e)
    | some j =>
      obtain ⟨z, hz, h1, h2⟩ := idx_lt hi
      have := out_old x xs 0 j z h hz (by rw [hx]; exact (k_iff z y.session y.key).2 ⟨h1, h2⟩)
      rw [Nat.zero_add] at this
      exact this
  have e2 := put_perm x.r.k x.r.c h
  rw [← e1] at e2
  have e3 : (⟨x.r.k, x.r.c⟩ : StoreMath.Row) :: (xs.map RowV.r).filter (fun r => decide (r.k ≠ x.r.k)) = (x :: xs.filter fun r => !atV y.session y.key r).map RowV.r := by
    rw [List.map_cons, List.filter_map]
    refine congrArg _ (congrArg _ (List.filter_congr fun r _ => ?_))
    show decide (r.r.k ≠ x.r.k) = !atV y.session y.key r
    unfold atV
    rw [← decide_not, hx]
    exact decide_eq_decide.2 (not_congr (k_iff r y.session y.key))
  rw [e3] at e2
  have := e2.map RowV.of
  rw [rows_back, rows_back] at this
  rw [← hx]
  exact this
theorem map_one {α β : Type} {f : α → β} : ∀ {a b : List α}, (∀ x ∈ a, ∀ y ∈ b, f x = f y → x = y) → a.map f = b.map f → a = b
  | [], [], _, _ => rfl
  | [], _ :: _, _, h => by simp at h
  | _ :: _, [], _, h => by simp at h
  | x :: a, y :: b, hi, h => by
    rw [List.map_cons, List.map_cons] at h
    obtain ⟨h1, h2⟩ := List.cons.inj h
    rw [hi x (by simp) y (by simp) h1, map_one (fun x hx y hy => hi x (List.mem_cons_of_mem _ hx) y (List.mem_cons_of_mem _ hy)) h2]
end Go.Proofs.YtgbhfhnbmgkaoaaGreatDoor
