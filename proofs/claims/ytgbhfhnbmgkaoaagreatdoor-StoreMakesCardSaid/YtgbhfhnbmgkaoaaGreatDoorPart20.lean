/-
  Texts of one claim, merged.
  MapView: A map of any kind of elements (cells, maps, pointers), read as a finite function; what a look-up, a store and a delete make of it. No program is run here.
  MapKind: A map of any kind of keys and any kind of elements, read as a list of its entries, in whatever order. No program is run here.
  MapMet: The keys that a range over a map keyed by texts has collected, whatever order they came in. No program is run here.
-/
import Derived.Test.YtgbhfhnbmgkaoaaGreatDoorPart05
import Derived.Maps.Ext
import Derived.Maps.RangeWalk
import Derived.Maps.OwnSet
import Derived.Sort.MapsRangeIn
namespace Go.Proofs.YtgbhfhnbmgkaoaaGreatDoor
open Go.RowKit Go.Maps TextNat RegMath

/-- A kind of a map's elements: how one lies, how it reads; both one to one. -/
structure Elem (α : Type) where
  val : α → Value
  dat : α → DataW Unit
  val_one : ∀ a b, val a = val b → a = b
  dat_one : ∀ a b, dat a = dat b → a = b
open Classical in
/-- Its reader. -/
noncomputable def Elem.read {α : Type} (E : Elem α) (v : Value) : Option (DataW Unit × List MemPlace) := if h : ∃ x, v = E.val x then some (E.dat h.choose, []) else none
theorem Elem.read_mk {α : Type} (E : Elem α) (x : α) : E.read (E.val x) = some (E.dat x, []) := by
  have h : ∃ y, E.val x = E.val y := ⟨x, rfl⟩
  unfold Elem.read
  rw [dif_pos h, ← E.val_one x _ h.choose_spec]
theorem Elem.read_inv {α : Type} (E : Elem α) {v : Value} {z : DataW Unit × List MemPlace} (h : E.read v = some z) : ∃ x, v = E.val x ∧ z = (E.dat x, []) := by
  unfold Elem.read at h
  split at h
  · rename_i hx
    exact ⟨hx.choose, hx.choose_spec, by simpa using h.symm⟩
  · cases h
/-- Elements that are cells. -/
def cellE : Elem RegV where
  val := RegV.val
  dat x := .agg [.lit (.int .i64 x.time), .lit (.int .i64 x.region), .lit (.string x.value.data.toList), .lit (.bool x.gone), .lit (.int .i64 x.life)]
  val_one a b h := by
    obtain ⟨t, r, s, g, l⟩ := a
    obtain ⟨t', r', s', g', l'⟩ := b
    simpa [RegV.val] using h
  dat_one a b h := by
    obtain ⟨t, r, s, g, l⟩ := a
    obtain ⟨t', r', s', g', l'⟩ := b
    simp at h
    obtain ⟨rfl, rfl, hs, rfl, rfl⟩ := h
    obtain ⟨⟨x⟩⟩ := s
    obtain ⟨⟨y⟩⟩ := s'
    obtain rfl : x = y := by simpa using hs
    rfl
/-- Elements that are maps: which block, or none. -/
def mapE : Elem (Option Nat) where
  val x := .map x
  dat x := match x with
    | none => .nil
    | some b => .lit (.int .i64 b)
  val_one a b h := by simpa using h
  dat_one a b h := by
    cases a <;> cases b <;> simp at h
    · rfl
    · rw [show _ = _ from Int.ofNat.inj h]
/-- Elements that are pointers to a block's first cell, or none. -/
def ptrE : Elem (Option Nat) where
  val x := .pointer (x.map fun b => ⟨b, 0, none⟩)
  dat x := match x with
    | none => .nil
    | some b => .lit (.int .i64 b)
  val_one a b h := by cases a <;> cases b <;> simp_all
  dat_one a b h := by
    cases a <;> cases b <;> simp at h
    · rfl
    · rw [show _ = _ from Int.ofNat.inj h]
open Classical in
/-- The map D holds just what f says. -/
structure Tells {α : Type} (E : Elem α) (D : DataW Unit) (f : Lit → Option α) : Prop where
  map : IsMap D
  has : ∀ k, Maps.has D k = (f k).isSome
  cell : ∀ k x, f k = some x → ∀ z, D.atKey k z = E.dat x
theorem Tells.empty {α : Type} (E : Elem α) : Tells E (.map []) fun _ => none := ⟨isMap_empty, fun _ => rfl, fun _ _ h => by cases h⟩
theorem Tells.look {α : Type} {E : Elem α} {D : DataW Unit} {f : Lit → Option α} (h : Tells E D f) (k : Lit) (z : α) : D.atKey k (E.dat z) = E.dat ((f k).getD z) := by
  cases hf : f k with
  | none => exact atKey_of_not_has (by rw [h.has, hf]; rfl) _
  | some x => exact h.cell k x hf _
open Classical in
theorem Tells.put {α : Type} {E : Elem α} {D : DataW Unit} {f : Lit → Option α} (h : Tells E D f) {k : Lit} (hk : WideAt.IsKeyLit k) (x : α) : Tells E (D.put k (E.dat x)) fun j => if j = k then some x else f j := by
  refine ⟨h.map.put k _, fun j => ?_, fun j y hy z => ?_⟩
  · by_cases e : j = k
    · subst e
      rw [has_put_same h.map hk, if_pos rfl]
      rfl
    · rw [has_put_other e, if_neg e]
      exact h.has j
  · by_cases e : j = k
    · subst e
      rw [if_pos rfl] at hy
      cases hy
      exact atKey_put_same h.map hk _ _
    · rw [if_neg e] at hy
      rw [atKey_put_other e]
      exact h.cell j y hy z
open Classical in
theorem Tells.del {α : Type} {E : Elem α} {D : DataW Unit} {f : Lit → Option α} (h : Tells E D f) (k : Lit) : Tells E (D.del k) fun j => if j = k then none else f j := by
  refine ⟨h.map.del k, fun j => ?_, fun j y hy z => ?_⟩
  · by_cases e : j = k
    · subst e
      rw [has_del_same, if_pos rfl]
      rfl
    · rw [has_del_other e, if_neg e]
      exact h.has j
  · by_cases e : j = k
    · rw [if_pos e] at hy
      cases hy
    · rw [if_neg e] at hy
      rw [atKey_del_other e]
      exact h.cell j y hy z
section
variable {α : Type} (E : Elem α) {P : Program} (w : World) {ops : Array Oper} {rest : List Oper} {o : Oper} {a : Act} {Q : Exit → Act → World → Prop}
/-- 'c, ok := m[k]'. -/
theorem wpList_look_elem (hg : o.guard = none) (m x : Operand) (t : TypeId) (hop : o.op = Op.lookup t m x true)
    (k e : TypeId) (K : Keyed P k) (ht : P.underlying t = some (.map k e)) {z : α} (hz : (zeroValue e).run P w = .ok (E.val z) w) (b n : Nat) (D : DataW Unit) (f : Lit → Option α)
    (hm : a.eval m = .map (some b)) (hown : w.ownsMap P k E.read b n D) (hf : Tells E D f) (key : Value) (kl : Lit) (hx : a.eval x = key) (hkey : keyOf P k key = some kl)
    (hK : wpList P ops Q rest (a.put o.dst (.tuple #[E.val ((f kl).getD z), .bool (f kl).isSome])) w) :
    wpList P ops Q (o :: rest) a w := by
  refine wpList_lookup_own_ok w hg m x t hop k e K ht E.read hz (E.dat z) [] (E.read_mk z) b n D hm hown key kl hx hkey fun v ps hv => ?_
  obtain ⟨c, rfl, hc⟩ := E.read_inv hv
  rw [hf.look] at hc
  obtain rfl := E.dat_one _ _ (Prod.mk.inj hc).1
  rw [hf.has]
  exact hK
/-- 'm[k] = c'. -/
theorem wpList_store_elem (hg : o.guard = none) (m x v : Operand) (t : TypeId) (hop : o.op = Op.mapUpdate t m x v)
    (k e : TypeId) (K : Keyed P k) (ht : P.underlying t = some (.map k e)) (b n : Nat) (D : DataW Unit)
    (hm : a.eval m = .map (some b)) (hown : w.ownsMap P k E.read b n D) (hn : n < maxLen) (key : Value) (c : α) (kl : Lit) (hx : a.eval x = key) (hv : a.eval v = E.val c) (hkey : keyOf P k key = some kl)
    (hK : ∀ w', w'.ownsMap P k E.read b (n + 1) (D.put kl (E.dat c)) → w.grownBy w' (some b) → wpList P ops Q rest (a.put o.dst undef) w') :
    wpList P ops Q (o :: rest) a w :=
  wpList_mapUpdate_own w hg m x v t hop k e K ht E.read b n D hm hown hn key (E.val c) kl hx hv hkey (E.dat c) [] (E.read_mk c) hK
/-- 'delete(m, k)': nothing but the map's block is changed. -/
theorem wpList_delete_elem (hg : o.guard = none) (m x : Operand) (t k : TypeId) (hop : o.op = Op.call { callee := Callee.builtin Builtin.delete, args := #[m, x], argTypes := #[t, k] })
    (e : TypeId) (K : Keyed P k) (ht : P.underlying t = some (.map k e)) (b n : Nat) (D : DataW Unit)
    (hm : a.eval m = .map (some b)) (hown : w.ownsMap P k E.read b n D) (key : Value) (kl : Lit) (hx : a.eval x = key) (hkey : keyOf P k key = some kl)
    (hK : ∀ w', w'.ownsMap P k E.read b n (D.del kl) → w.mapTurned w' b → wpList P ops Q rest (a.put o.dst (.tuple #[])) w') :
    wpList P ops Q (o :: rest) a w :=
  wpList_delete_own w hg m x t k hop e K ht E.read b n D hm hown key kl hx hkey hK
/-- The step of a range over a map keyed by strings. -/
theorem wpList_next_elem (hg : o.guard = none) (it : Operand) (hop : o.op = Op.next it false) (k : TypeId) (hk : P.underlying k = some .string) (b r n : Nat) (D : DataW Unit) (f : Lit → Option α) (left : Lit → Bool) (cnt : Nat)
    (hit : a.eval it = .pointer (some ⟨r, 0, none⟩)) (h : w.ranges P k E.read b r n D left cnt) (hf : Tells E D f)
    (hDone : cnt = 0 → (∀ kl, left kl = false) → wpList P ops Q rest (a.put o.dst (.tuple #[.bool false])) w)
    (hMore : ∀ (s : ByteArray) (c : α) (w' : World) (cnt' : Nat), s.size ≤ maxLen → left (.string s.data.toList) = true → f (.string s.data.toList) = some c → w'.ranges P k E.read b r n D (fun z => left z && !z.sameKey (.string s.data.toList)) cnt' → cnt' < cnt →
      w.grownBy w' (some r) → w'.heap.size = w.heap.size → (Instr.entry (.pointer (some ⟨r, 0, none⟩))).run P w' = .ok (.tuple #[.string s, E.val c]) w' → wpList P ops Q rest (a.put o.dst (.tuple #[.bool true, .string s, E.val c])) w') :
    wpList P ops Q (o :: rest) a w := by
  refine wpList_next_ranges w hg it hop k (string_keyed hk) E.read Value.string E.val (fun key kl hq => Maps.keyOf_string_inv hk hq) (fun v y hv => by obtain ⟨c, hc, _⟩ := E.read_inv hv; exact ⟨c, hc⟩) b r n D left cnt hit h hDone fun s c kl y w' cnt' hkey hl hv hat hr hlt hg2 hs hen => ?_
  obtain ⟨c', hc', hy⟩ := E.read_inv hv
  obtain rfl := E.val_one _ _ hc'
  have hsz : s.size ≤ maxLen ∧ kl = .string s.data.toList := by
    rw [keyOf_string hk] at hkey
    simp [mapKey, hk] at hkey
    exact ⟨hkey.1, hkey.2.symm⟩
  obtain ⟨hsz, rfl⟩ := hsz
  have hh : Maps.has D (.string s.data.toList) = true := has_true_of_atKey hat
  rw [hf.has] at hh
  obtain ⟨c2, hc2⟩ := Option.isSome_iff_exists.1 hh
  have e1 := (hat .nil).symm.trans (hf.cell _ c2 hc2 .nil)
  rw [hy] at e1
  obtain rfl := E.dat_one _ _ e1
  exact hMore s c w' cnt' hsz hl hc2 hr hlt hg2 hs hen
end
end Go.Proofs.YtgbhfhnbmgkaoaaGreatDoor
namespace Go.Proofs.YtgbhfhnbmgkaoaaGreatDoor
open Go.RowKit Go.Maps TextNat RegMath

/-- A kind of a map's keys: how one lies, which of them fit, how it reads; one to one. -/
structure KeyK (P : Program) (k : TypeId) (κ : Type) where
  law : Keyed P k
  val : κ → Value
  fits : κ → Prop
  lit : κ → Lit
  is : ∀ x, fits x → keyOf P k (val x) = some (lit x)
  inv : ∀ v l, keyOf P k v = some l → ∃ x, v = val x ∧ fits x ∧ l = lit x
  val_one : ∀ a b, val a = val b → a = b
section
variable {P : Program} {k : TypeId} {κ α : Type} (K : KeyK P k κ) (E : Elem α)
theorem KeyK.lit_one {a b : κ} (ha : K.fits a) (hb : K.fits b) (h : K.lit a = K.lit b) : a = b := K.val_one _ _ (K.law.inj (K.is a ha) (h ▸ K.is b hb))
theorem KeyK.key {a : κ} (ha : K.fits a) : WideAt.IsKeyLit (K.lit a) := K.law.key (K.is a ha)
theorem KeyK.same {a : κ} (ha : K.fits a) : (K.lit a).sameKey (K.lit a) = true := WideAt.sameKey_self (K.key ha)
theorem KeyK.same_iff {a b : κ} (ha : K.fits a) (hb : K.fits b) : (K.lit a).sameKey (K.lit b) = true ↔ a = b :=
  ⟨fun h => K.lit_one ha hb (WideAt.sameKey_eq h), fun h => h ▸ K.same ha⟩
def KeyK.entry (p : κ × α) : Lit × DataW Unit := (K.lit p.1, E.dat p.2)
/-- The map D holds just the entries l, in whatever order. -/
structure Holds16 (D : DataW Unit) (l : List (κ × α)) : Prop where
  ex : ∃ es, D = .map es ∧ es.Perm (l.map (K.entry E))
  fits : ∀ p ∈ l, K.fits p.1
  apart : l.Pairwise fun p q => p.1 ≠ q.1
variable {K} {E}
theorem Holds16.size {D : DataW Unit} {l : List (κ × α)} (h : Holds16 K E D l) : Maps.size D = l.length := by
  obtain ⟨es, rfl, hp⟩ := h.ex
  rw [size_eq, hp.length_eq, List.length_map]
theorem Holds16.empty : Holds16 K E (.map []) [] := ⟨⟨[], rfl, by simp⟩, fun p h => by simp at h, List.Pairwise.nil⟩
theorem Holds16.perm {D : DataW Unit} {l l' : List (κ × α)} (h : Holds16 K E D l) (hp : l.Perm l') : Holds16 K E D l' := by
  obtain ⟨es, rfl, he⟩ := h.ex
  exact ⟨⟨es, rfl, he.trans (hp.map _)⟩, fun p hq => h.fits p (hp.mem_iff.2 hq), (hp.pairwise_iff fun h e => h e.symm).1 h.apart⟩
theorem Holds16.one {D : DataW Unit} {l : List (κ × α)} (h : Holds16 K E D l) {p q : κ × α} (hp : p ∈ l) (hq : q ∈ l) (e : p.1 = q.1) : p = q := by
  have : ∀ {l : List (κ × α)}, l.Pairwise (fun p q => p.1 ≠ q.1) → p ∈ l → q ∈ l → p = q := by
    intro l
    induction l with
    | nil => intro _ h; simp at h
    | cons x r ih =>
      intro ha hp hq
      obtain ⟨h1, h2⟩ := List.pairwise_cons.1 ha
      rcases List.mem_cons.1 hp with rfl | hp'
      · rcases List.mem_cons.1 hq with rfl | hq'
        · rfl
        · exact absurd e (h1 q hq')
      · rcases List.mem_cons.1 hq with rfl | hq'
        · exact absurd e.symm (h1 p hp')
        · exact ih h2 hp' hq'
  exact this h.apart hp hq
theorem Holds16.has {D : DataW Unit} {l : List (κ × α)} (h : Holds16 K E D l) {x : κ} (hx : K.fits x) : Maps.has D (K.lit x) = true ↔ ∃ c, (x, c) ∈ l := by
  obtain ⟨es, rfl, hp⟩ := h.ex
  rw [has_eq, List.any_eq_true]
  constructor
  · rintro ⟨e, he, hs⟩
    obtain ⟨⟨y, c⟩, hy, rfl⟩ := List.mem_map.1 (hp.mem_iff.1 he)
    obtain rfl := (K.same_iff (h.fits _ hy) hx).1 hs
    exact ⟨c, hy⟩
  · rintro ⟨c, hc⟩
    exact ⟨_, hp.mem_iff.2 (List.mem_map_of_mem hc), K.same hx⟩
theorem Holds16.at {D : DataW Unit} {l : List (κ × α)} (h : Holds16 K E D l) {x : κ} {c : α} (hc : (x, c) ∈ l) (z : DataW Unit) : D.atKey (K.lit x) z = E.dat c := by
  have hx := h.fits _ hc
  obtain ⟨es, rfl, hp⟩ := h.ex
  unfold DataW.atKey
  simp only
  cases hf : es.find? fun p => p.1.sameKey (K.lit x) with
  | none =>
    have := List.find?_eq_none.1 hf _ (hp.mem_iff.2 (List.mem_map_of_mem hc))
    exact absurd (K.same hx) this
  | some e =>
    have h1 := List.mem_of_find?_eq_some hf
    have h2 := List.find?_some hf
    obtain ⟨⟨y, d⟩, hy, rfl⟩ := List.mem_map.1 (hp.mem_iff.1 h1)
    obtain rfl := (K.same_iff (h.fits _ hy) hx).1 h2
    obtain rfl : d = c := congrArg Prod.snd (h.one hy hc rfl)
    rfl
theorem Holds16.out {D : DataW Unit} {l : List (κ × α)} (h : Holds16 K E D l) {x : κ} (hx : K.fits x) (hn : ∀ c, (x, c) ∉ l) (z : DataW Unit) : D.atKey (K.lit x) z = z := by
  refine atKey_of_not_has ?_ z
  cases hh : Maps.has D (K.lit x) with
  | false => rfl
  | true =>
    obtain ⟨c, hc⟩ := (h.has hx).1 hh
    exact absurd hc (hn c)
theorem perm_insert (x : Lit × DataW Unit) : ∀ l : List (Lit × DataW Unit), (DataW.insert x l).Perm (x :: l)
  | [] => List.Perm.refl _
  | y :: r => by
    unfold DataW.insert
    split
    · exact List.Perm.refl _
    · exact ((perm_insert x r).cons y).trans (List.Perm.swap x y r)
section
variable [DecidableEq κ]
theorem Holds16.del {D : DataW Unit} {l : List (κ × α)} (h : Holds16 K E D l) {x : κ} (hx : K.fits x) : Holds16 K E (D.del (K.lit x)) (l.filter fun p => decide (p.1 ≠ x)) := by
  obtain ⟨es, rfl, hp⟩ := h.ex
  refine ⟨⟨_, rfl, (hp.filter _).trans ?_⟩, fun p hq => h.fits p (List.mem_filter.1 hq).1, h.apart.filter _⟩
  rw [List.filter_map]
  refine List.Perm.of_eq (congrArg _ (List.filter_congr fun p hq => ?_))
  show (!(K.lit p.1).sameKey (K.lit x)) = decide (p.1 ≠ x)
  by_cases e : p.1 = x
  · rw [e, K.same hx]; simp
  · rw [sameKey_ne fun he => e (K.lit_one (h.fits p hq) hx he)]; simp [e]
theorem Holds16.put {D : DataW Unit} {l : List (κ × α)} (h : Holds16 K E D l) {x : κ} (hx : K.fits x) (c : α) : Holds16 K E (D.put (K.lit x) (E.dat c)) ((x, c) :: l.filter fun p => decide (p.1 ≠ x)) := by
  have hd := h.del hx
  obtain ⟨es, rfl, hp⟩ := h.ex
  obtain ⟨es', he', hp'⟩ := hd.ex
  have e0 : es' = es.filter fun p => !p.1.sameKey (K.lit x) := by
    have : DataW.map (es.filter fun p => !p.1.sameKey (K.lit x)) = DataW.map es' := he'
    simpa using this.symm
  refine ⟨⟨_, rfl, (perm_insert _ _).trans ?_⟩, fun p hq => ?_, List.pairwise_cons.2 ⟨fun q hq => ?_, hd.apart⟩⟩
  · rw [List.map_cons, ← e0]
    exact hp'.cons _
  · rcases List.mem_cons.1 hq with rfl | hq
    · exact hx
    · exact hd.fits p hq
  · have := (List.mem_filter.1 hq).2
    exact fun e => by simp [← e] at this
end
/-- .. where a test on data lets the others go. -/
theorem Holds16.filter {D : DataW Unit} {l : List (κ × α)} (h : Holds16 K E D l) (q : κ × α → Bool) (qd : Lit × DataW Unit → Bool) (hq : ∀ p ∈ l, qd (K.entry E p) = q p) {es : List (Lit × DataW Unit)} (hD : D = .map es) : Holds16 K E (.map (es.filter qd)) (l.filter q) := by
  obtain ⟨es', h1, hp⟩ := h.ex
  obtain rfl : es = es' := by
    have := hD.symm.trans h1
    simpa using this
  refine ⟨⟨_, rfl, (hp.filter _).trans ?_⟩, fun p hq => h.fits p (List.mem_filter.1 hq).1, h.apart.filter _⟩
  rw [List.filter_map]
  exact List.Perm.of_eq (congrArg _ (List.filter_congr fun p hp => hq p hp))
end
section
variable {P : Program} {k : TypeId} {κ α : Type} (K : KeyK P k κ) (E : Elem α) (w : World) {ops : Array Oper} {rest : List Oper} {o : Oper} {a : Act} {Q : Exit → Act → World → Prop}
/-- What a look-up finds: an element, or none. -/
def Finds (l : List (κ × α)) (x : κ) (r : Option α) : Prop := match r with
  | some c => (x, c) ∈ l
  | none => ∀ c, (x, c) ∉ l
theorem Holds16.look {D : DataW Unit} {l : List (κ × α)} (h : Holds16 K E D l) {x : κ} (hx : K.fits x) {r : Option α} (hr : Finds l x r) (z : α) : D.atKey (K.lit x) (E.dat z) = E.dat (r.getD z) := by
  cases r with
  | some c => exact h.at hr _
  | none => exact h.out hx hr _
theorem Holds16.is {D : DataW Unit} {l : List (κ × α)} (h : Holds16 K E D l) {x : κ} (hx : K.fits x) {r : Option α} (hr : Finds l x r) : Maps.has D (K.lit x) = r.isSome := by
  cases r with
  | some c => exact (h.has hx).2 ⟨c, hr⟩
  | none =>
    cases hh : Maps.has D (K.lit x) with
    | false => rfl
    | true =>
      obtain ⟨c, hc⟩ := (h.has hx).1 hh
      exact absurd hc (hr c)
/-- 'c, ok := m[k]'. -/
theorem wpList_look16 (hg : o.guard = none) (m x : Operand) (t : TypeId) (hop : o.op = Op.lookup t m x true)
    (e : TypeId) (ht : P.underlying t = some (.map k e)) {z : α} (hz : (zeroValue e).run P w = .ok (E.val z) w) (b n : Nat) (D : DataW Unit) (l : List (κ × α))
    (hm : a.eval m = .map (some b)) (hown : w.ownsMap P k E.read b n D) (hf : Holds16 K E D l) (key : κ) (hk : K.fits key) (hx : a.eval x = K.val key) (r : Option α) (hr : Finds l key r)
    (hK : wpList P ops Q rest (a.put o.dst (.tuple #[E.val (r.getD z), .bool r.isSome])) w) :
    wpList P ops Q (o :: rest) a w := by
  refine wpList_lookup_own_ok w hg m x t hop k e K.law ht E.read hz (E.dat z) [] (E.read_mk z) b n D hm hown _ _ hx (K.is key hk) fun v ps hv => ?_
  obtain ⟨c, rfl, hc⟩ := E.read_inv hv
  rw [hf.look K E hk hr] at hc
  obtain rfl := E.dat_one _ _ (Prod.mk.inj hc).1
  rw [hf.is K E hk hr]
  exact hK
end
end Go.Proofs.YtgbhfhnbmgkaoaaGreatDoor
namespace Go.Proofs.YtgbhfhnbmgkaoaaGreatDoor
open Go.RowKit Go.Maps TextNat

abbrev keyT (s : ByteArray) : Lit := .string s.data.toList
theorem keyT_one {s t : ByteArray} (h : keyT s = keyT t) : s = t := by
  obtain ⟨⟨x⟩⟩ := s
  obtain ⟨⟨y⟩⟩ := t
  obtain rfl : x = y := by simpa [keyT] using h
  rfl
theorem keyT_same (s : ByteArray) : (keyT s).sameKey (keyT s) = true := by simp [Lit.sameKey]
/-- ss: those keys that p asks for, of the entries that have come. -/
structure Met {α : Type} (f : Lit → Option α) (p : ByteArray → α → Bool) (left : Lit → Bool) (ss : List ByteArray) : Prop where
  apart : ss.Nodup
  mem : ∀ s, s ∈ ss ↔ ∃ c, f (keyT s) = some c ∧ p s c = true ∧ left (keyT s) = false
theorem Met.start {α : Type} {E : Elem α} {D : DataW Unit} {f : Lit → Option α} (h : Tells E D f) (p : ByteArray → α → Bool) : Met f p (Maps.has D) [] := by
  refine ⟨List.nodup_nil, fun s => ⟨fun h => by simp at h, fun ⟨c, hc, _, hl⟩ => ?_⟩⟩
  rw [h.has, hc] at hl
  cases hl
theorem Met.step {α : Type} {f : Lit → Option α} {p : ByteArray → α → Bool} {left : Lit → Bool} {ss : List ByteArray} (h : Met f p left ss) {s : ByteArray} {c : α} (hc : f (keyT s) = some c) (hl : left (keyT s) = true) :
    Met f p (fun z => left z && !z.sameKey (keyT s)) (if p s c then ss ++ [s] else ss) := by
  have hn : s ∉ ss := fun hm => by
    obtain ⟨_, _, _, h3⟩ := (h.mem s).1 hm
    rw [hl] at h3
    cases h3
  have hleft : ∀ t, (left (keyT t) && !(keyT t).sameKey (keyT s)) = false ↔ left (keyT t) = false ∨ t = s := fun t => by
    by_cases e : t = s
    · subst e
      simp [keyT_same]
    · rw [sameKey_ne fun he => e (keyT_one he)]
      simp [e]
  have hcs : ∀ t c', f (keyT t) = some c' → t = s → c' = c := fun t c' h1 e => by
    subst e
    rw [hc] at h1
    exact (Option.some.inj h1).symm
  by_cases hp : p s c = true
  · rw [if_pos hp]
    refine ⟨List.nodup_append.2 ⟨h.apart, by simp, fun a ha b hb => ?_⟩, fun t => ?_⟩
    · obtain rfl : b = s := by simpa using hb
      exact fun e => hn (e ▸ ha)
    · rw [List.mem_append, h.mem t, List.mem_singleton]
      constructor
      · rintro (⟨c', h1, h2, h3⟩ | rfl)
        · exact ⟨c', h1, h2, (hleft t).2 (.inl h3)⟩
        · exact ⟨c, hc, hp, (hleft t).2 (.inr rfl)⟩
      · rintro ⟨c', h1, h2, h3⟩
        rcases (hleft t).1 h3 with h3 | rfl
        · exact .inl ⟨c', h1, h2, h3⟩
        · exact .inr rfl
  · rw [if_neg hp]
    refine ⟨h.apart, fun t => ?_⟩
    rw [h.mem t]
    constructor
    · rintro ⟨c', h1, h2, h3⟩
      exact ⟨c', h1, h2, (hleft t).2 (.inl h3)⟩
    · rintro ⟨c', h1, h2, h3⟩
      rcases (hleft t).1 h3 with h3 | rfl
      · exact ⟨c', h1, h2, h3⟩
      · exact absurd (hcs t c' h1 rfl ▸ h2) hp
/-- At the end: all that p asks for. -/
theorem Met.ended {α : Type} {f : Lit → Option α} {p : ByteArray → α → Bool} {left : Lit → Bool} {ss : List ByteArray} (h : Met f p left ss) (hl : ∀ k, left k = false) (s : ByteArray) : s ∈ ss ↔ ∃ c, f (keyT s) = some c ∧ p s c = true := by
  rw [h.mem s]
  exact ⟨fun ⟨c, h1, h2, _⟩ => ⟨c, h1, h2⟩, fun ⟨c, h1, h2⟩ => ⟨c, h1, h2, hl _⟩⟩
end Go.Proofs.YtgbhfhnbmgkaoaaGreatDoor
