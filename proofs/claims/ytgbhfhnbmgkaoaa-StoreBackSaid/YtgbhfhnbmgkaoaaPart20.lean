/-
  Texts of one claim, merged.
  MapKind: A map of any kind of keys and any kind of elements, read as a list of its entries, in whatever order. No program is run here.
  MapMet: The keys that a range over a map keyed by texts has collected, whatever order they came in. No program is run here.
  Nest1: Maps keyed by texts, nil ones among them, read as a list of their entries in whatever order; a range over one. No conditions but those typed.
-/
import Derived.Test.YtgbhfhnbmgkaoaaPart19
import Derived.Test.YtgbhfhnbmgkaoaaPart01
namespace Go.Proofs.Ytgbhfhnbmgkaoaa
open Go.RowKit Go.Maps TextNat RegMath

/-- A kind of a map's keys: how one lies, which of them fit, how it reads; one to one. -/
structure KeyK (P : Program) (k : TypeId) (κ : Type) where
  law : Keyed P k
  val : κ → Value
  fits : κ → Prop
  lit : κ → Lit
  is : ∀ x, fits x → keyOf P k (val x) = some (lit x)
  inv : ∀ v l, keyOf P k v = some l → ∃ x, v = val x ∧ fits x ∧ l = lit x
  val_one : ∀ a b, val a = val b → a = b
section
variable {P : Program} {k : TypeId} {κ α : Type} (K : KeyK P k κ) (E : Elem α)
theorem KeyK.lit_one {a b : κ} (ha : K.fits a) (hb : K.fits b) (h : K.lit a = K.lit b) : a = b := K.val_one _ _ (K.law.inj (K.is a ha) (h ▸ K.is b hb))
theorem KeyK.key {a : κ} (ha : K.fits a) : WideAt.IsKeyLit (K.lit a) := K.law.key (K.is a ha)
theorem KeyK.same {a : κ} (ha : K.fits a) : (K.lit a).sameKey (K.lit a) = true := WideAt.sameKey_self (K.key ha)
theorem KeyK.same_iff {a b : κ} (ha : K.fits a) (hb : K.fits b) : (K.lit a).sameKey (K.lit b) = true ↔ a = b :=
  ⟨fun h => K.lit_one ha hb (WideAt.sameKey_eq h), fun h => h ▸ K.same ha⟩
def KeyK.entry (p : κ × α) : Lit × DataW Unit := (K.lit p.1, E.dat p.2)
/-- The map D holds just the entries l, in whatever order. -/
structure Holds16 (D : DataW Unit) (l : List (κ × α)) : Prop where
  ex : ∃ es, D = .map es ∧ es.Perm (l.map (K.entry E))
  fits : ∀ p ∈ l, K.fits p.1
  apart : l.Pairwise fun p q => p.1 ≠ q.1
variable {K} {E}
theorem Holds16.size {D : DataW Unit} {l : List (κ × α)} (h : Holds16 K E D l) : Maps.size D = l.length := by
  obtain ⟨es, rfl, hp⟩ := h.ex
  rw [size_eq, hp.length_eq, List.length_map]
theorem Holds16.empty : Holds16 K E (.map []) [] := ⟨⟨[], rfl, by simp⟩, fun p h => by simp at h, List.Pairwise.nil⟩
theorem Holds16.perm {D : DataW Unit} {l l' : List (κ × α)} (h : Holds16 K E D l) (hp : l.Perm l') : Holds16 K E D l' := by
  obtain ⟨es, rfl, he⟩ := h.ex
  exact ⟨⟨es, rfl, he.trans (hp.map _)⟩, fun p hq => h.fits p (hp.mem_iff.2 hq), (hp.pairwise_iff fun h e => h e.symm).1 h.apart⟩
theorem Holds16.one {D : DataW Unit} {l : List (κ × α)} (h : Holds16 K E D l) {p q : κ × α} (hp : p ∈ l) (hq : q ∈ l) (e : p.1 = q.1) : p = q := by
  have : ∀ {l : List (κ × α)}, l.Pairwise (fun p q => p.1 ≠ q.1) → p ∈ l → q ∈ l → p = q := by
    intro l
    induction l with
    | nil => intro _ h; simp at h
    | cons x r ih =>
      intro ha hp hq
      obtain ⟨h1, h2⟩ := List.pairwise_cons.1 ha
      rcases List.mem_cons.1 hp with rfl | hp'
      · rcases List.mem_cons.1 hq with rfl | hq'
        · rfl
        · exact absurd e (h1 q hq')
      · rcases List.mem_cons.1 hq with rfl | hq'
        · exact absurd e.symm (h1 p hp')
        · exact ih h2 hp' hq'
  exact this h.apart hp hq
theorem Holds16.has {D : DataW Unit} {l : List (κ × α)} (h : Holds16 K E D l) {x : κ} (hx : K.fits x) : Maps.has D (K.lit x) = true ↔ ∃ c, (x, c) ∈ l := by
  obtain ⟨es, rfl, hp⟩ := h.ex
  rw [has_eq, List.any_eq_true]
  constructor
  · rintro ⟨e, he, hs⟩
    obtain ⟨⟨y, c⟩, hy, rfl⟩ := List.mem_map.1 (hp.mem_iff.1 he)
    obtain rfl := (K.same_iff (h.fits _ hy) hx).1 hs
    exact ⟨c, hy⟩
  · rintro ⟨c, hc⟩
    exact ⟨_, hp.mem_iff.2 (List.mem_map_of_mem hc), K.same hx⟩
theorem Holds16.at {D : DataW Unit} {l : List (κ × α)} (h : Holds16 K E D l) {x : κ} {c : α} (hc : (x, c) ∈ l) (z : DataW Unit) : D.atKey (K.lit x) z = E.dat c := by
  have hx := h.fits _ hc
  obtain ⟨es, rfl, hp⟩ := h.ex
  unfold DataW.atKey
  simp only
  cases hf : es.find? fun p => p.1.sameKey (K.lit x) with
  | none =>
    have := List.find?_eq_none.1 hf _ (hp.mem_iff.2 (List.mem_map_of_mem hc))
    exact absurd (K.same hx) this
  | some e =>
    have h1 := List.mem_of_find?_eq_some hf
    have h2 := List.find?_some hf
    obtain ⟨⟨y, d⟩, hy, rfl⟩ := List.mem_map.1 (hp.mem_iff.1 h1)
    obtain rfl := (K.same_iff (h.fits _ hy) hx).1 h2
    obtain rfl : d = c := congrArg Prod.snd (h.one hy hc rfl)
    rfl
theorem Holds16.out {D : DataW Unit} {l : List (κ × α)} (h : Holds16 K E D l) {x : κ} (hx : K.fits x) (hn : ∀ c, (x, c) ∉ l) (z : DataW Unit) : D.atKey (K.lit x) z = z := by
  refine atKey_of_not_has ?_ z
  cases hh : Maps.has D (K.lit x) with
  | false => rfl
  | true =>
    obtain ⟨c, hc⟩ := (h.has hx).1 hh
    exact absurd hc (hn c)
theorem perm_insert (x : Lit × DataW Unit) : ∀ l : List (Lit × DataW Unit), (DataW.insert x l).Perm (x :: l)
  | [] => List.Perm.refl _
  | y :: r => by
    unfold DataW.insert
    split
    · exact List.Perm.refl _
    · exact ((perm_insert x r).cons y).trans (List.Perm.swap x y r)
section
variable [DecidableEq κ]
theorem Holds16.del {D : DataW Unit} {l : List (κ × α)} (h : Holds16 K E D l) {x : κ} (hx : K.fits x) : Holds16 K E (D.del (K.lit x)) (l.filter fun p => decide (p.1 ≠ x)) := by
  obtain ⟨es, rfl, hp⟩ := h.ex
  refine ⟨⟨_, rfl, (hp.filter _).trans ?_⟩, fun p hq => h.fits p (List.mem_filter.1 hq).1, h.apart.filter _⟩
  rw [List.filter_map]
  refine List.Perm.of_eq (congrArg _ (List.filter_congr fun p hq => ?_))
  show (!(K.lit p.1).sameKey (K.lit x)) = decide (p.1 ≠ x)
  by_cases e : p.1 = x
  · rw [e, K.same hx]; simp
  · rw [sameKey_ne fun he => e (K.lit_one (h.fits p hq) hx he)]; simp [e]
theorem Holds16.put {D : DataW Unit} {l : List (κ × α)} (h : Holds16 K E D l) {x : κ} (hx : K.fits x) (c : α) : Holds16 K E (D.put (K.lit x) (E.dat c)) ((x, c) :: l.filter fun p => decide (p.1 ≠ x)) := by
  have hd := h.del hx
  obtain ⟨es, rfl, hp⟩ := h.ex
  obtain ⟨es', he', hp'⟩ := hd.ex
  have e0 : es' = es.filter fun p => !p.1.sameKey (K.lit x) := by
    have : DataW.map (es.filter fun p => !p.1.sameKey (K.lit x)) = DataW.map es' := he'
    simpa using this.symm
  refine ⟨⟨_, rfl, (perm_insert _ _).trans ?_⟩, fun p hq => ?_, List.pairwise_cons.2 ⟨fun q hq => ?_, hd.apart⟩⟩
  · rw [List.map_cons, ← e0]
    exact hp'.cons _
  · rcases List.mem_cons.1 hq with rfl | hq
    · exact hx
    · exact hd.fits p hq
  · have := (List.mem_filter.1 hq).2
    exact fun e => by simp [← e] at this
end
/-- .. where a test on data lets the others go. -/
theorem Holds16.filter {D : DataW Unit} {l : List (κ × α)} (h : Holds16 K E D l) (q : κ × α → Bool) (qd : Lit × DataW Unit → Bool) (hq : ∀ p ∈ l, qd (K.entry E p) = q p) {es : List (Lit × DataW Unit)} (hD : D = .map es) : Holds16 K E (.map (es.filter qd)) (l.filter q) := by
  obtain ⟨es', h1, hp⟩ := h.ex
  obtain rfl : es = es' := by
    have := hD.symm.trans h1
    simpa using this
  refine ⟨⟨_, rfl, (hp.filter _).trans ?_⟩, fun p hq => h.fits p (List.mem_filter.1 hq).1, h.apart.filter _⟩
  rw [List.filter_map]
  exact List.Perm.of_eq (congrArg _ (List.filter_congr fun p hp => hq p hp))
end
section
variable {P : Program} {k : TypeId} {κ α : Type} (K : KeyK P k κ) (E : Elem α) (w : World) {ops : Array Oper} {rest : List Oper} {o : Oper} {a : Act} {Q : Exit → Act → World → Prop}
/-- What a look-up finds: an element, or none. -/
def Finds (l : List (κ × α)) (x : κ) (r : Option α) : Prop := match r with
  | some c => (x, c) ∈ l
  | none => ∀ c, (x, c) ∉ l
theorem Holds16.look {D : DataW Unit} {l : List (κ × α)} (h : Holds16 K E D l) {x : κ} (hx : K.fits x) {r : Option α} (hr : Finds l x r) (z : α) : D.atKey (K.lit x) (E.dat z) = E.dat (r.getD z) := by
  cases r with
  | some c => exact h.at hr _
  | none => exact h.out hx hr _
theorem Holds16.is {D : DataW Unit} {l : List (κ × α)} (h : Holds16 K E D l) {x : κ} (hx : K.fits x) {r : Option α} (hr : Finds l x r) : Maps.has D (K.lit x) = r.isSome := by
  cases r with
  | some c => exact (h.has hx).2 ⟨c, hr⟩
  | none =>
    cases hh : Maps.has D (K.lit x) with
    | false => rfl
    | true =>
      obtain ⟨c, hc⟩ := (h.has hx).1 hh
      exact absurd hc (hr c)
/-- 'c, ok := m[k]'. -/
theorem wpList_look16 (hg : o.guard = none) (m x : Operand) (t : TypeId) (hop : o.op = Op.lookup t m x true)
    (e : TypeId) (ht : P.underlying t = some (.map k e)) {z : α} (hz : (zeroValue e).run P w = .ok (E.val z) w) (b n : Nat) (D : DataW Unit) (l : List (κ × α))
    (hm : a.eval m = .map (some b)) (hown : w.ownsMap P k E.read b n D) (hf : Holds16 K E D l) (key : κ) (hk : K.fits key) (hx : a.eval x = K.val key) (r : Option α) (hr : Finds l key r)
    (hK : wpList P ops Q rest (a.put o.dst (.tuple #[E.val (r.getD z), .bool r.isSome])) w) :
    wpList P ops Q (o :: rest) a w := by
  refine wpList_lookup_own_ok w hg m x t hop k e K.law ht E.read hz (E.dat z) [] (E.read_mk z) b n D hm hown _ _ hx (K.is key hk) fun v ps hv => ?_
  obtain ⟨c, rfl, hc⟩ := E.read_inv hv
  rw [hf.look K E hk hr] at hc
  obtain rfl := E.dat_one _ _ (Prod.mk.inj hc).1
  rw [hf.is K E hk hr]
  exact hK
end
end Go.Proofs.Ytgbhfhnbmgkaoaa
namespace Go.Proofs.Ytgbhfhnbmgkaoaa
open Go.RowKit Go.Maps TextNat

abbrev keyT (s : ByteArray) : Lit := .string s.data.toList
theorem keyT_one {s t : ByteArray} (h : keyT s = keyT t) : s = t := by
  obtain ⟨⟨x⟩⟩ := s
  obtain ⟨⟨y⟩⟩ := t
  obtain rfl : x = y := by simpa [keyT] using h
  rfl
theorem keyT_same (s : ByteArray) : (keyT s).sameKey (keyT s) = true := by simp [Lit.sameKey]
/-- ss: those keys that p asks for, of the entries that have come. -/
structure Met {α : Type} (f : Lit → Option α) (p : ByteArray → α → Bool) (left : Lit → Bool) (ss : List ByteArray) : Prop where
  apart : ss.Nodup
  mem : ∀ s, s ∈ ss ↔ ∃ c, f (keyT s) = some c ∧ p s c = true ∧ left (keyT s) = false
theorem Met.start {α : Type} {E : Elem α} {D : DataW Unit} {f : Lit → Option α} (h : Tells E D f) (p : ByteArray → α → Bool) : Met f p (Maps.has D) [] := by
  refine ⟨List.nodup_nil, fun s => ⟨fun h => by simp at h, fun ⟨c, hc, _, hl⟩ => ?_⟩⟩
  rw [h.has, hc] at hl
  cases hl
theorem Met.step {α : Type} {f : Lit → Option α} {p : ByteArray → α → Bool} {left : Lit → Bool} {ss : List ByteArray} (h : Met f p left ss) {s : ByteArray} {c : α} (hc : f (keyT s) = some c) (hl : left (keyT s) = true) :
    Met f p (fun z => left z && !z.sameKey (keyT s)) (if p s c then ss ++ [s] else ss) := by
  have hn : s ∉ ss := fun hm => by
    obtain ⟨_, _, _, h3⟩ := (h.mem s).1 hm
    rw [hl] at h3
    cases h3
  have hleft : ∀ t, (left (keyT t) && !(keyT t).sameKey (keyT s)) = false ↔ left (keyT t) = false ∨ t = s := fun t => by
    by_cases e : t = s
    · subst e
      simp [keyT_same]
    · rw [sameKey_ne fun he => e (keyT_one he)]
      simp [e]
  have hcs : ∀ t c', f (keyT t) = some c' → t = s → c' = c := fun t c' h1 e => by
    subst e
    rw [hc] at h1
    exact (Option.some.inj h1).symm
  by_cases hp : p s c = true
  · rw [if_pos hp]
    refine ⟨List.nodup_append.2 ⟨h.apart, by simp, fun a ha b hb => ?_⟩, fun t => ?_⟩
    · obtain rfl : b = s := by simpa using hb
      exact fun e => hn (e ▸ ha)
    · rw [List.mem_append, h.mem t, List.mem_singleton]
      constructor
      · rintro (⟨c', h1, h2, h3⟩ | rfl)
        · exact ⟨c', h1, h2, (hleft t).2 (.inl h3)⟩
        · exact ⟨c, hc, hp, (hleft t).2 (.inr rfl)⟩
      · rintro ⟨c', h1, h2, h3⟩
        rcases (hleft t).1 h3 with h3 | rfl
        · exact .inl ⟨c', h1, h2, h3⟩
        · exact .inr rfl
  · rw [if_neg hp]
    refine ⟨h.apart, fun t => ?_⟩
    rw [h.mem t]
    constructor
    · rintro ⟨c', h1, h2, h3⟩
      exact ⟨c', h1, h2, (hleft t).2 (.inl h3)⟩
    · rintro ⟨c', h1, h2, h3⟩
      rcases (hleft t).1 h3 with h3 | rfl
      · exact ⟨c', h1, h2, h3⟩
      · exact absurd (hcs t c' h1 rfl ▸ h2) hp
/-- At the end: all that p asks for. -/
theorem Met.ended {α : Type} {f : Lit → Option α} {p : ByteArray → α → Bool} {left : Lit → Bool} {ss : List ByteArray} (h : Met f p left ss) (hl : ∀ k, left k = false) (s : ByteArray) : s ∈ ss ↔ ∃ c, f (keyT s) = some c ∧ p s c = true := by
  rw [h.mem s]
  exact ⟨fun ⟨c, h1, h2, _⟩ => ⟨c, h1, h2⟩, fun ⟨c, h1, h2⟩ => ⟨c, h1, h2, hl _⟩⟩
end Go.Proofs.Ytgbhfhnbmgkaoaa
namespace Go.Proofs.Ytgbhfhnbmgkaoaa
open Go.RowKit Go.Maps TextNat RegMath

/-- Keys that are texts. -/
def tk : KeyK Try.prog 9 ByteArray where
  law := string_keyed Try.underlying9
  val := Value.string
  fits s := s.size ≤ maxLen
  lit := keyT
  is s h := by rw [keyOf_string Try.underlying9]; simp [mapKey, Try.underlying9, h]
  inv v l h := by
    obtain ⟨s, rfl⟩ := Maps.keyOf_string_inv Try.underlying9 h
    rw [keyOf_string Try.underlying9] at h
    simp [mapKey, Try.underlying9] at h
    exact ⟨s, rfl, h.1, h.2.symm⟩
  val_one a b h := by simpa using h
theorem tk_fits {s : ByteArray} (h : s.size ≤ 1000) : tk.fits s := by show s.size ≤ maxLen; unfold maxLen; omega
theorem ownsMap_same {w w' : World} {k : TypeId} {R : Value → Option (DataW Unit × List MemPlace)} {b n : Nat} {D : DataW Unit} (h : w.ownsMap Try.prog k R b n D) (e : w'.heap[b]? = w.heap[b]?) : w'.ownsMap Try.prog k R b n D := by
  obtain ⟨es, cl, h1, h2⟩ := h
  exact ⟨es, cl, e.trans h1, h2⟩
theorem ownsMap_lt {w : World} {k : TypeId} {R : Value → Option (DataW Unit × List MemPlace)} {b n : Nat} {D : DataW Unit} (h : w.ownsMap Try.prog k R b n D) : b < w.heap.size := by
  obtain ⟨es, cl, h1, _⟩ := h
  exact (Array.getElem?_eq_some_iff.1 h1).1
theorem ownsMap_tight {w : World} {k : TypeId} {R : Value → Option (DataW Unit × List MemPlace)} {b n : Nat} {D : DataW Unit} (h : w.ownsMap Try.prog k R b n D) : w.ownsMap Try.prog k R b (Maps.size D) D := by
  obtain ⟨es, cl, h1, h2, _, rfl⟩ := h
  exact ⟨es, cl, h1, h2, by simp [Maps.size, length_sorted], rfl⟩
section
variable {α : Type} {E : Elem α}
/-- The map m, or none, holds these entries. -/
def MapAt (E : Elem α) (w : World) (m : Option Nat) (l : List (ByteArray × α)) : Prop := match m with
  | none => l = []
  | some b => ∃ D, w.ownsMap Try.prog 9 E.read b l.length D ∧ Holds16 tk E D l
theorem MapAt.none (w : World) : MapAt E w none [] := rfl
theorem MapAt.same {w w' : World} {m : Option Nat} {l : List (ByteArray × α)} (h : MapAt E w m l) (e : ∀ b, m = some b → w'.heap[b]? = w.heap[b]?) : MapAt E w' m l := by
  cases m with
  | none => exact h
  | some b =>
    obtain ⟨D, h1, h2⟩ := h
    exact ⟨D, ownsMap_same h1 (e b rfl), h2⟩
theorem MapAt.lt {w : World} {b : Nat} {l : List (ByteArray × α)} (h : MapAt E w (some b) l) : b < w.heap.size := by
  obtain ⟨D, h1, _⟩ := h
  exact ownsMap_lt h1
theorem MapAt.below {w w' : World} {m : Option Nat} {l : List (ByteArray × α)} (h : MapAt E w m l) (hb : Below w.heap.size w w') : MapAt E w' m l :=
  h.same fun b hm => by subst hm; exact hb.block b h.lt
theorem MapAt.of {w : World} {b n : Nat} {D : DataW Unit} {l : List (ByteArray × α)} (h1 : w.ownsMap Try.prog 9 E.read b n D) (h2 : Holds16 tk E D l) : MapAt E w (some b) l := by
  have h := ownsMap_tight h1
  rw [h2.size] at h
  exact ⟨D, h, h2⟩
theorem MapAt.perm {w : World} {m : Option Nat} {l l' : List (ByteArray × α)} (h : MapAt E w m l) (hp : l.Perm l') : MapAt E w m l' := by
  cases m with
  | none =>
    have : l = [] := h
    subst this
    exact List.perm_nil.1 hp.symm
  | some b =>
    obtain ⟨D, h1, h2⟩ := h
    rw [hp.length_eq] at h1
    exact ⟨D, h1, h2.perm hp⟩
theorem MapAt.apart {w : World} {m : Option Nat} {l : List (ByteArray × α)} (h : MapAt E w m l) : l.Pairwise fun p q => p.1 ≠ q.1 := by
  cases m with
  | none =>
    have : l = [] := h
    subst this
    exact List.Pairwise.nil
  | some b =>
    obtain ⟨D, _, h2⟩ := h
    exact h2.apart
theorem MapAt.one {w : World} {m : Option Nat} {l : List (ByteArray × α)} (h : MapAt E w m l) {p q : ByteArray × α} (hp : p ∈ l) (hq : q ∈ l) (e : p.1 = q.1) : p = q := by
  cases m with
  | none =>
    have : l = [] := h
    subst this
    cases hp
  | some b =>
    obtain ⟨D, _, h2⟩ := h
    exact h2.one hp hq e
/-- A look-up, with what it says of whether it is there, and without. -/
theorem MapAt.look {w : World} {m : Option Nat} {l : List (ByteArray × α)} (h : MapAt E w m l) {t e : TypeId} (ht : Try.prog.underlying t = some (.map 9 e)) {z : α} (hz : (zeroValue e).run Try.prog w = .ok (E.val z) w) {s : ByteArray} (hs : s.size ≤ maxLen) {r : Option α} (hr : Finds l s r) :
    (Instr.lookup t (.map m) (.string s) false).run Try.prog w = .ok (E.val (r.getD z)) w ∧ (Instr.lookup t (.map m) (.string s) true).run Try.prog w = .ok (.tuple #[E.val (r.getD z), .bool r.isSome]) w := by
  cases m with
  | none =>
    have : l = [] := h
    subst this
    obtain rfl : r = Option.none := by
      cases r with
      | none => rfl
      | some c => exact absurd hr (List.not_mem_nil)
    exact ⟨Maps.look_nil false tk.law ht hz (tk.is s hs), Maps.look_nil true tk.law ht hz (tk.is s hs)⟩
  | some b =>
    obtain ⟨D, h1, h2⟩ := h
    constructor
    · obtain ⟨v, ps, hrun, hv⟩ := h1.lookup (t := t) tk.law ht hz (E.read_mk z) (tk.is s hs)
      obtain ⟨c, rfl, hc⟩ := E.read_inv hv
      rw [h2.look tk E hs hr] at hc
      obtain rfl := E.dat_one _ _ (Prod.mk.inj hc).1
      exact hrun
    · obtain ⟨v, ps, hrun, hv⟩ := h1.look_ok (t := t) tk.law ht hz (E.read_mk z) (tk.is s hs)
      obtain ⟨c, rfl, hc⟩ := E.read_inv hv
      rw [h2.look tk E hs hr] at hc
      obtain rfl := E.dat_one _ _ (Prod.mk.inj hc).1
      rw [h2.is tk E hs hr] at hrun
      exact hrun
/-- How many. -/
theorem MapAt.len {w : World} {m : Option Nat} {l : List (ByteArray × α)} (h : MapAt E w m l) {t e : TypeId} (ht : Try.prog.underlying t = some (.map 9 e)) (ty : TypeId) : (Builtin.len_ #[t] ty #[.map m]).run Try.prog w = .ok (.int .i64 (l.length : Int)) w := by
  cases m with
  | none =>
    have : l = [] := h
    subst this
    exact Maps.len_nil ht ty
  | some b =>
    obtain ⟨D, h1, h2⟩ := h
    rw [← h2.size]
    exact h1.len ht ty
theorem MapAt.made (w : World) : MapAt E (w.alloc (.map #[] 0)) (some w.heap.size) ([] : List (ByteArray × α)) :=
  ⟨_, World.ownsMap_made w Try.prog 9 E.read, Holds16.empty⟩
/-- cs: the entries that have come. -/
def CameE (l : List (ByteArray × α)) (left : Lit → Bool) (cs : List (ByteArray × α)) : Prop := ∃ rest, l.Perm (cs ++ rest) ∧ (∀ x ∈ cs, left (tk.lit x.1) = false) ∧ ∀ x ∈ rest, left (tk.lit x.1) = true
theorem CameE.len {l cs : List (ByteArray × α)} {left : Lit → Bool} (h : CameE l left cs) : cs.length ≤ l.length := by
  obtain ⟨rest, hp, _, _⟩ := h
  have := hp.length_eq
  rw [List.length_append] at this
  omega
theorem CameE.mem {l cs : List (ByteArray × α)} {left : Lit → Bool} (h : CameE l left cs) {x : ByteArray × α} (hx : x ∈ cs) : x ∈ l := by
  obtain ⟨rest, hp, _, _⟩ := h
  exact hp.mem_iff.2 (List.mem_append_left _ hx)
theorem CameE.start {l : List (ByteArray × α)} {D : DataW Unit} (h : Holds16 tk E D l) : CameE l (Maps.has D) [] :=
  ⟨l, List.Perm.refl _, fun x hx => by simp at hx, fun x hx => (h.has (h.fits _ hx)).2 ⟨x.2, hx⟩⟩
theorem CameE.ended {l cs : List (ByteArray × α)} {left : Lit → Bool} (h : CameE l left cs) (hl : ∀ k, left k = false) : l.Perm cs := by
  obtain ⟨rest, hp, _, h2⟩ := h
  cases rest with
  | nil => rw [List.append_nil] at hp; exact hp
  | cons x r => have := h2 x (by simp); rw [hl] at this; cases this
theorem CameE.step {l cs : List (ByteArray × α)} {D : DataW Unit} {left : Lit → Bool} (h : CameE l left cs) (hH : Holds16 tk E D l) {x : ByteArray × α} (hx : x ∈ l) (hl : left (tk.lit x.1) = true) :
    CameE l (fun z => left z && !z.sameKey (tk.lit x.1)) (cs ++ [x]) := by
  obtain ⟨rest, hp, h1, h2⟩ := h
  have hxr : x ∈ rest := by
    rcases List.mem_append.1 (hp.mem_iff.1 hx) with h | h
    · rw [h1 x h] at hl; cases hl
    · exact h
  obtain ⟨a, c, rfl⟩ := List.append_of_mem hxr
  have hp2 : l.Perm (x :: (cs ++ (a ++ c))) := by
    refine hp.trans ?_
    have : cs ++ (a ++ x :: c) = (cs ++ a) ++ x :: c := by simp
    rw [this]
    refine List.perm_middle.trans ?_
    simp
  have hne : ∀ y ∈ cs ++ (a ++ c), y.1 ≠ x.1 := fun y hy e => by
    have ha2 : (x :: (cs ++ (a ++ c))).Pairwise fun p q => p.1 ≠ q.1 := (hp2.pairwise_iff fun h e => h e.symm).1 hH.apart
    exact (List.pairwise_cons.1 ha2).1 y hy e.symm
  refine ⟨a ++ c, hp2.trans ?_, fun y hy => ?_, fun y hy => ?_⟩
  · have : cs ++ [x] ++ (a ++ c) = cs ++ x :: (a ++ c) := by simp
    rw [this]
    exact List.perm_middle.symm
  · rcases List.mem_append.1 hy with h | h
    · show (left (tk.lit y.1) && !(tk.lit y.1).sameKey (tk.lit x.1)) = false
      rw [h1 y h]; rfl
    · show (left (tk.lit y.1) && !(tk.lit y.1).sameKey (tk.lit x.1)) = false
      rw [List.mem_singleton.1 h, tk.same (hH.fits x hx)]
      simp
  · have hym : y ∈ l := hp2.mem_iff.2 (List.mem_cons_of_mem _ (List.mem_append_right _ hy))
    have h3 : left (tk.lit y.1) = true := h2 y (by
      rcases List.mem_append.1 hy with h | h
      · exact List.mem_append_left _ h
      · exact List.mem_append_right _ (List.mem_cons_of_mem _ h))
    show (left (tk.lit y.1) && !(tk.lit y.1).sameKey (tk.lit x.1)) = true
    rw [h3, sameKey_ne fun e => hne y (List.mem_append_right _ hy) (tk.lit_one (hH.fits y hym) (hH.fits x hx) e)]
    rfl
theorem ranges_same {w w' : World} {b r n : Nat} {D : DataW Unit} {left : Lit → Bool} {cnt : Nat} (h : w.ranges Try.prog 9 E.read b r n D left cnt) (e1 : w'.heap[b]? = w.heap[b]?) (e2 : w'.heap[r]? = w.heap[r]?) :
    w'.ranges Try.prog 9 E.read b r n D left cnt := by
  obtain ⟨es, clock, since, seen, c0, h1, h2, h3, h4, h5, h6⟩ := h
  exact ⟨es, clock, since, seen, c0, e1.trans h1, h2, h3, h4, e2.trans h5, h6⟩
theorem ranges_below {w w' : World} {b r n : Nat} {D : DataW Unit} {left : Lit → Bool} {cnt B : Nat} (h : w.ranges Try.prog 9 E.read b r n D left cnt) (hb : Below B w w') (h1 : b < B) (h2 : r < B) : w'.ranges Try.prog 9 E.read b r n D left cnt :=
  ranges_same h (hb.block b h1) (hb.block r h2)
end
section
variable {α : Type} (E : Elem α) (w : World) {ops : Array Oper} {rest : List Oper} {o : Oper} {a : Act} {Q : Exit → Act → World → Prop}
/-- The step of a range over a map of texts. -/
theorem wpList_next_text (hg : o.guard = none) (it : Operand) (hop : o.op = Op.next it false) (b r n : Nat) (D : DataW Unit) (l cs : List (ByteArray × α)) (left : Lit → Bool) (cnt : Nat)
    (hit : a.eval it = .pointer (some ⟨r, 0, none⟩)) (h : w.ranges Try.prog 9 E.read b r n D left cnt) (hH : Holds16 tk E D l) (hC : CameE l left cs)
    (hDone : l.Perm cs → wpList Try.prog ops Q rest (a.put o.dst (.tuple #[.bool false])) w)
    (hMore : ∀ (s : ByteArray) (c : α) (w' : World) (cnt' : Nat) (left' : Lit → Bool), (s, c) ∈ l → w'.ranges Try.prog 9 E.read b r n D left' cnt' → cnt' < cnt → CameE l left' (cs ++ [(s, c)]) →
      w.grownBy w' (some r) → w'.heap.size = w.heap.size → (Instr.entry (.pointer (some ⟨r, 0, none⟩))).run Try.prog w' = .ok (.tuple #[.string s, E.val c]) w' →
      wpList Try.prog ops Q rest (a.put o.dst (.tuple #[.bool true, .string s, E.val c])) w') :
    wpList Try.prog ops Q (o :: rest) a w := by
  refine wpList_next_ranges w hg it hop 9 tk.law E.read tk.val E.val (fun key kl hq => by obtain ⟨x, hx, _⟩ := tk.inv key kl hq; exact ⟨x, hx⟩) (fun v y hv => by obtain ⟨c, hc, _⟩ := E.read_inv hv; exact ⟨c, hc⟩) b r n D left cnt hit h (fun _ hl => hDone (hC.ended hl)) fun s c kl y w' cnt' hkey hl hv hat hr hlt hg2 hs hen => ?_
  obtain ⟨c', hc', hy⟩ := E.read_inv hv
  obtain rfl := E.val_one _ _ hc'
  obtain ⟨s', hs', hfs, rfl⟩ := tk.inv _ _ hkey
  obtain rfl := tk.val_one _ _ hs'
  have hh : Maps.has D (tk.lit s) = true := has_true_of_atKey hat
  obtain ⟨c2, hc2⟩ := (hH.has hfs).1 hh
  have e1 := (hat .nil).symm.trans (hH.at hc2 .nil)
  rw [hy] at e1
  obtain rfl := E.dat_one _ _ e1
  exact hMore s c w' cnt' _ hc2 hr hlt (hC.step hH hc2 hl) hg2 hs hen
end
end Go.Proofs.Ytgbhfhnbmgkaoaa
