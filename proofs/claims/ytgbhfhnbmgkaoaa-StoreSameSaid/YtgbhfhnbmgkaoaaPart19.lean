/-
  Texts of one claim, merged.
  RowsOpen: A slice of structs that came in, generally; an array of two. No program is run here.
  StoreOpen: Writes that came in: a slice of them, what its places hold. No program is run here.
  MapView: A map of any kind of elements (cells, maps, pointers), read as a finite function; what a look-up, a store and a delete make of it. No program is run here.
-/
import Derived.Test.YtgbhfhnbmgkaoaaPart18
import Derived.Test.YtgbhfhnbmgkaoaaPart14
import Derived.Test.YtgbhfhnbmgkaoaaPart05
import Derived.Maps.Ext
import Derived.Maps.RangeWalk
import Derived.Maps.OwnSet
import Derived.Sort.MapsRangeIn
namespace Go.Proofs.Ytgbhfhnbmgkaoaa
open Go.RowKit Go.ChangeShapes Go.WideShapes

theorem rows_list_of {α : Type} {P : Nat → α → Prop} : ∀ n : Nat, (∀ i, i < n → ∃ x, P i x) → ∃ xs : List α, xs.length = n ∧ ∀ (i : Nat) (x : α), xs[i]? = some x → P i x
  | 0, _ => ⟨[], rfl, fun i x h => by simp at h⟩
  | n + 1, h => by
    obtain ⟨xs, hl, hx⟩ := rows_list_of n (fun i hi => h i (by omega))
    obtain ⟨x, hp⟩ := h n (by omega)
    refine ⟨xs ++ [x], by simp [hl], fun i y hy => ?_⟩
    by_cases hi : i < xs.length
    · rw [List.getElem?_append_left hi] at hy
      exact hx i y hy
    · have hin : i = n := by
        have := (List.getElem?_eq_some_iff.1 hy).1
        simp at this
        omega
      subst hin
      rw [List.getElem?_append_right (by omega), hl] at hy
      simp at hy
      rw [← hy]
      exact hp
section
variable {H : Type} {enc : TypeId × Value → H} {w : World} {base : Nat} {held : Bool}
/-- A slice among the cells of what came in. -/
theorem rows_cells {α : Type} {T e : TypeId} {k : Nat} {cells : α → List Value} {Q : α → Prop} (ht : Try.prog.underlying T = some (.slice e)) (hk : Try.prog.cellsOf e = k) (h0 : 0 < k) (hlen : ∀ x, (cells x).length = k)
    (hcell : ∀ {fuel : Nat} {cs : List Value} {y : DataW H × List MemPlace}, DataW.trod enc Try.prog w base (fun _ => true) held fuel e cs = some y → ∃ x : α, cs = cells x ∧ Q x)
    {fuel : Nat} {cs : List Value} {y : DataW H × List MemPlace} (hf : DataW.trod enc Try.prog w base (fun _ => true) held fuel T cs = some y) :
    ∃ (xs : List α) (pp : Option Addr) (cap : Nat), cs = [.slice pp xs.length cap] ∧ xs.length ≤ cap ∧ cap ≤ maxLen ∧ (∀ (i : Nat) (x : α), xs[i]? = some x → ∃ b off, pp = some ⟨b, off, none⟩ ∧ ∀ (j : Nat) (u : Value), (cells x)[j]? = some u → w.cell? ⟨b, off + (i * k + j), none⟩ = some u) ∧ (∀ x ∈ xs, Q x) ∧ (pp = none → cap = 0) := by
  rcases DataW.trod_slice ht hf with ⟨hcs, _⟩ | ⟨a, len, cap, elems, rest, n, _, hcs, _, _, hl, hm, hlen2, hel, _, _⟩
  · exact ⟨[], none, 0, hcs, by simp, by unfold maxLen; omega, fun i z hz => by simp at hz, by simp, fun _ => rfl⟩
  · rw [hk] at hel
    obtain ⟨xs, hxl, hx⟩ := rows_list_of (P := fun i (x : α) => Q x ∧ ∀ (j : Nat) (u : Value), (cells x)[j]? = some u → w.cell? ((a.add (i * k)).add j) = some u) len (fun i hi => by
      have he := hel i hi
      rw [show elems[i]? = some (elems[i]'(by omega)) from List.getElem?_eq_getElem (by omega), Option.bind_eq_some_iff] at he
      obtain ⟨cs2, h1, h2⟩ := he
      obtain ⟨x, rfl, hz⟩ := hcell h2
      obtain ⟨_, _, h5⟩ := World.cells?_some h1
      refine ⟨x, hz, fun j u hj => ?_⟩
      have hjk : j < k := by rw [← hlen x]; exact (List.getElem?_eq_some_iff.1 hj).1
      rw [h5 j hjk, hj])
    refine ⟨xs, some a, cap, by rw [hxl]; exact hcs, by omega, hm, fun i x hi => ?_, fun x hx2 => ?_, fun h => by cases h⟩
    · obtain ⟨_, h2⟩ := hx i x hi
      obtain ⟨b, off, spot⟩ := a
      have hspot : spot = none := by
        have hi0 : 0 < xs.length := Nat.lt_of_le_of_lt (Nat.zero_le i) (List.getElem?_eq_some_iff.1 hi).1
        have hc0 : 0 < (cells (xs[0]'hi0)).length := by rw [hlen]; exact h0
        have := World.cell?_spot ((hx 0 (xs[0]'hi0) (List.getElem?_eq_getElem hi0)).2 0 _ (List.getElem?_eq_getElem hc0))
        simpa [Addr.add] using this
      subst hspot
      refine ⟨b, off, rfl, fun j u hj => ?_⟩
      have := h2 j u hj
      rw [add_plain, add_plain, Nat.add_assoc] at this
      exact this
    · obtain ⟨i, hi⟩ := List.getElem?_of_mem hx2
      exact (hx i x hi).1
theorem wf_ten16 {z : Int} (h : (Lit.int .u16 z).wf = true) : 0 ≤ z ∧ z < 65536 := by
  simp [Lit.wf, IntKind.min, IntKind.max, IntKind.signed, IntKind.bits] at h
  omega
theorem small_len {n : Nat} (h : n ≤ maxLen) : n ≤ 9223372036854775807 := by unfold maxLen at h; omega
/-- An array of two among the cells. -/
theorem cell_two {T e : TypeId} {c0 c1 : Value} {fuel : Nat} {y : DataW H × List MemPlace} (ht : Try.prog.underlying T = some (.array 2 e)) (hk : Try.prog.cellsOf e = 1) (hf : DataW.trod enc Try.prog w base (fun _ => true) held fuel T [c0, c1] = some y) :
    (∃ m z, DataW.trod enc Try.prog w base (fun _ => true) held m e [c0] = some z) ∧ ∃ m z, DataW.trod enc Try.prog w base (fun _ => true) held m e [c1] = some z := by
  obtain ⟨xs, m, _, _, _, hl, hx⟩ := DataW.trod_array ht hf
  rw [hk] at hx
  exact ⟨⟨m, xs[0]'(by omega), (hx 0 (by omega)).trans (List.getElem?_eq_getElem (by omega))⟩, ⟨m, xs[1]'(by omega), (hx 1 (by omega)).trans (List.getElem?_eq_getElem (by omega))⟩⟩
end
end Go.Proofs.Ytgbhfhnbmgkaoaa
namespace Go.Proofs.Ytgbhfhnbmgkaoaa
open Go.RowKit Go.ChangeShapes Go.WideShapes

theorem list_ten16 {α : Type} {cs : List α} (h : cs.length = 10) : ∃ c0 c1 c2 c3 c4 c5 c6 c7 c8 c9, cs = [c0, c1, c2, c3, c4, c5, c6, c7, c8, c9] := by
  match cs, h with
  | [c0, c1, c2, c3, c4, c5, c6, c7, c8, c9], _ => exact ⟨c0, c1, c2, c3, c4, c5, c6, c7, c8, c9, rfl⟩
section
variable {H : Type} {enc : TypeId × Value → H} {w : World} {base : Nat} {held : Bool}
set_option maxRecDepth 100000 in
theorem write_cells16 {fuel : Nat} {cs : List Value} {y : DataW H × List MemPlace} (hf : DataW.trod enc Try.prog w base (fun _ => true) held fuel 36 cs = some y) : ∃ x : WriteV, cs = x.cells ∧ Ints w x.dp x.dl := by
  obtain ⟨xs, n, _, _, hcs, hlen, hfl⟩ := DataW.trod_struct Try.underlying36 hf
  obtain ⟨c0, c1, c2, c3, c4, c5, c6, c7, c8, c9, rfl⟩ := list_ten16 (hcs.trans (by kernel_rfl))
  have hlen9 : xs.length = 9 := hlen
  obtain ⟨y0, g0⟩ := field_at hfl 0 3 0 1 9 rfl (by kernel_rfl) hlen9 (by omega)
  obtain ⟨y1, g1⟩ := field_at hfl 1 3 1 1 9 rfl (by kernel_rfl) hlen9 (by omega)
  obtain ⟨y2, g2⟩ := field_at hfl 2 32 2 2 9 rfl (by kernel_rfl) hlen9 (by omega)
  obtain ⟨y3, g3⟩ := field_at hfl 3 34 4 1 9 rfl (by kernel_rfl) hlen9 (by omega)
  obtain ⟨y4, g4⟩ := field_at hfl 4 9 5 1 9 rfl (by kernel_rfl) hlen9 (by omega)
  obtain ⟨y5, g5⟩ := field_at hfl 5 9 6 1 9 rfl (by kernel_rfl) hlen9 (by omega)
  obtain ⟨y6, g6⟩ := field_at hfl 6 9 7 1 9 rfl (by kernel_rfl) hlen9 (by omega)
  obtain ⟨y7, g7⟩ := field_at hfl 7 4 8 1 9 rfl (by kernel_rfl) hlen9 (by omega)
  obtain ⟨y8, g8⟩ := field_at hfl 8 3 9 1 9 rfl (by kernel_rfl) hlen9 (by omega)
  obtain ⟨z0, e0, _, w0⟩ := DataW.trod_int Try.underlying3 g0
  obtain rfl : c0 = .int .i64 z0 := by simpa using e0
  obtain ⟨z1, e1, _, w1⟩ := DataW.trod_int Try.underlying3 g1
  obtain rfl : c1 = .int .i64 z1 := by simpa using e1
  obtain ⟨ys, m, _, _, _, hlen2, hfl2⟩ := DataW.trod_struct Try.underlying32 g2
  have hlen2' : ys.length = 2 := hlen2
  obtain ⟨q0, r0⟩ := field_at hfl2 0 3 0 1 2 rfl (by kernel_rfl) hlen2' (by omega)
  obtain ⟨q1, r1⟩ := field_at hfl2 1 3 1 1 2 rfl (by kernel_rfl) hlen2' (by omega)
  obtain ⟨z2, e20, _, w20⟩ := DataW.trod_int Try.underlying3 r0
  obtain rfl : c2 = .int .i64 z2 := by simpa using e20
  obtain ⟨z3, e21, _, w21⟩ := DataW.trod_int Try.underlying3 r1
  obtain rfl : c3 = .int .i64 z3 := by simpa using e21
  obtain ⟨pp, zs, cap, e3, w3, hz⟩ := cell_ints Try.underlying34 Try.underlying3 (by kernel_rfl) g3
  obtain rfl : c4 = .slice pp zs.length cap := by simpa using e3
  obtain ⟨s5, e4, _, w4⟩ := DataW.trod_string Try.underlying9 g4
  obtain rfl : c5 = .string s5 := by simpa using e4
  obtain ⟨s6, e5, _, w5⟩ := DataW.trod_string Try.underlying9 g5
  obtain rfl : c6 = .string s6 := by simpa using e5
  obtain ⟨s7, e6, _, w6⟩ := DataW.trod_string Try.underlying9 g6
  obtain rfl : c7 = .string s7 := by simpa using e6
  obtain ⟨b8, e7, _⟩ := DataW.trod_bool Try.underlying4 g7
  obtain rfl : c8 = .bool b8 := by simpa using e7
  obtain ⟨z9, e8, _, w8⟩ := DataW.trod_int Try.underlying3 g8
  obtain rfl : c9 = .int .i64 z9 := by simpa using e8
  exact ⟨⟨z0, z1, z2, z3, pp, zs, cap, s5, s6, s7, b8, z9⟩, rfl, hz⟩
set_option maxRecDepth 100000 in
/-- Writes that came in. -/
theorem writes_in16 {r : Reach} {b0 : Nat} {v : Value} {d : DataW H} {p : List MemPlace} (hv : Value.okWide Try.prog w r b0 22 v) (h : DataW.Trod enc Try.prog w base (fun _ => true) held 22 v d p) :
    ∃ (xs : List WriteV) (pp : Option Addr) (cap : Nat), v = .slice pp xs.length cap ∧ xs.length ≤ cap ∧ cap ≤ 9223372036854775807 ∧ WritesIn w pp xs := by
  obtain ⟨a0, len, cap, rfl⟩ := okWide_slice Try.underlying22 hv
  obtain ⟨fuel, hf⟩ := h
  obtain ⟨xs, pp, cap2, h1, h2, h3, h4, h5, h6⟩ := rows_cells (α := WriteV) (cells := WriteV.cells) (Q := fun x => Ints w x.dp x.dl) (k := 10) Try.underlying22 (by kernel_rfl) (by omega) (fun _ => rfl) write_cells16 hf
  simp [Value.cells] at h1
  obtain ⟨rfl, rfl, rfl⟩ := h1
  refine ⟨xs, a0, cap, rfl, h2, by unfold maxLen at h3; omega, fun i x hx => ?_⟩
  obtain ⟨b, off, q1, q2⟩ := h4 i x hx
  exact ⟨b, off, q1, fun j u hj => by rw [Nat.add_assoc]; exact q2 j u hj, h5 x (List.mem_of_getElem? hx)⟩
end
end Go.Proofs.Ytgbhfhnbmgkaoaa
namespace Go.Proofs.Ytgbhfhnbmgkaoaa
open Go.RowKit Go.Maps TextNat RegMath

/-- A kind of a map's elements: how one lies, how it reads; both one to one. -/
structure Elem (α : Type) where
  val : α → Value
  dat : α → DataW Unit
  val_one : ∀ a b, val a = val b → a = b
  dat_one : ∀ a b, dat a = dat b → a = b
open Classical in
/-- Its reader. -/
noncomputable def Elem.read {α : Type} (E : Elem α) (v : Value) : Option (DataW Unit × List MemPlace) := if h : ∃ x, v = E.val x then some (E.dat h.choose, []) else none
theorem Elem.read_mk {α : Type} (E : Elem α) (x : α) : E.read (E.val x) = some (E.dat x, []) := by
  have h : ∃ y, E.val x = E.val y := ⟨x, rfl⟩
  unfold Elem.read
  rw [dif_pos h, ← E.val_one x _ h.choose_spec]
theorem Elem.read_inv {α : Type} (E : Elem α) {v : Value} {z : DataW Unit × List MemPlace} (h : E.read v = some z) : ∃ x, v = E.val x ∧ z = (E.dat x, []) := by
  unfold Elem.read at h
  split at h
  · rename_i hx
    exact ⟨hx.choose, hx.choose_spec, by simpa using h.symm⟩
  · cases h
/-- Elements that are cells. -/
def cellE : Elem RegV where
  val := RegV.val
  dat x := .agg [.lit (.int .i64 x.time), .lit (.int .i64 x.region), .lit (.string x.value.data.toList), .lit (.bool x.gone), .lit (.int .i64 x.life)]
  val_one a b h := by
    obtain ⟨t, r, s, g, l⟩ := a
    obtain ⟨t', r', s', g', l'⟩ := b
    simpa [RegV.val] using h
  dat_one a b h := by
    obtain ⟨t, r, s, g, l⟩ := a
    obtain ⟨t', r', s', g', l'⟩ := b
    simp at h
    obtain ⟨rfl, rfl, hs, rfl, rfl⟩ := h
    obtain ⟨⟨x⟩⟩ := s
    obtain ⟨⟨y⟩⟩ := s'
    obtain rfl : x = y := by simpa using hs
    rfl
/-- Elements that are maps: which block, or none. -/
def mapE : Elem (Option Nat) where
  val x := .map x
  dat x := match x with
    | none => .nil
    | some b => .lit (.int .i64 b)
  val_one a b h := by simpa using h
  dat_one a b h := by
    cases a <;> cases b <;> simp at h
    · rfl
    · rw [show _ = _ from Int.ofNat.inj h]
/-- Elements that are pointers to a block's first cell, or none. -/
def ptrE : Elem (Option Nat) where
  val x := .pointer (x.map fun b => ⟨b, 0, none⟩)
  dat x := match x with
    | none => .nil
    | some b => .lit (.int .i64 b)
  val_one a b h := by cases a <;> cases b <;> simp_all
  dat_one a b h := by
    cases a <;> cases b <;> simp at h
    · rfl
    · rw [show _ = _ from Int.ofNat.inj h]
open Classical in
/-- The map D holds just what f says. -/
structure Tells {α : Type} (E : Elem α) (D : DataW Unit) (f : Lit → Option α) : Prop where
  map : IsMap D
  has : ∀ k, Maps.has D k = (f k).isSome
  cell : ∀ k x, f k = some x → ∀ z, D.atKey k z = E.dat x
theorem Tells.empty {α : Type} (E : Elem α) : Tells E (.map []) fun _ => none := ⟨isMap_empty, fun _ => rfl, fun _ _ h => by cases h⟩
theorem Tells.look {α : Type} {E : Elem α} {D : DataW Unit} {f : Lit → Option α} (h : Tells E D f) (k : Lit) (z : α) : D.atKey k (E.dat z) = E.dat ((f k).getD z) := by
  cases hf : f k with
  | none => exact atKey_of_not_has (by rw [h.has, hf]; rfl) _
  | some x => exact h.cell k x hf _
open Classical in
theorem Tells.put {α : Type} {E : Elem α} {D : DataW Unit} {f : Lit → Option α} (h : Tells E D f) {k : Lit} (hk : WideAt.IsKeyLit k) (x : α) : Tells E (D.put k (E.dat x)) fun j => if j = k then some x else f j := by
  refine ⟨h.map.put k _, fun j => ?_, fun j y hy z => ?_⟩
  · by_cases e : j = k
    · subst e
      rw [has_put_same h.map hk, if_pos rfl]
      rfl
    · rw [has_put_other e, if_neg e]
      exact h.has j
  · by_cases e : j = k
    · subst e
      rw [if_pos rfl] at hy
      cases hy
      exact atKey_put_same h.map hk _ _
    · rw [if_neg e] at hy
      rw [atKey_put_other e]
      exact h.cell j y hy z
open Classical in
theorem Tells.del {α : Type} {E : Elem α} {D : DataW Unit} {f : Lit → Option α} (h : Tells E D f) (k : Lit) : Tells E (D.del k) fun j => if j = k then none else f j := by
  refine ⟨h.map.del k, fun j => ?_, fun j y hy z => ?_⟩
  · by_cases e : j = k
    · subst e
      rw [has_del_same, if_pos rfl]
      rfl
    · rw [has_del_other e, if_neg e]
      exact h.has j
  · by_cases e : j = k
    · rw [if_pos e] at hy
      cases hy
    · rw [if_neg e] at hy
      rw [atKey_del_other e]
      exact h.cell j y hy z
section
variable {α : Type} (E : Elem α) {P : Program} (w : World) {ops : Array Oper} {rest : List Oper} {o : Oper} {a : Act} {Q : Exit → Act → World → Prop}
/-- 'c, ok := m[k]'. -/
theorem wpList_look_elem (hg : o.guard = none) (m x : Operand) (t : TypeId) (hop : o.op = Op.lookup t m x true)
    (k e : TypeId) (K : Keyed P k) (ht : P.underlying t = some (.map k e)) {z : α} (hz : (zeroValue e).run P w = .ok (E.val z) w) (b n : Nat) (D : DataW Unit) (f : Lit → Option α)
    (hm : a.eval m = .map (some b)) (hown : w.ownsMap P k E.read b n D) (hf : Tells E D f) (key : Value) (kl : Lit) (hx : a.eval x = key) (hkey : keyOf P k key = some kl)
    (hK : wpList P ops Q rest (a.put o.dst (.tuple #[E.val ((f kl).getD z), .bool (f kl).isSome])) w) :
    wpList P ops Q (o :: rest) a w := by
  refine wpList_lookup_own_ok w hg m x t hop k e K ht E.read hz (E.dat z) [] (E.read_mk z) b n D hm hown key kl hx hkey fun v ps hv => ?_
  obtain ⟨c, rfl, hc⟩ := E.read_inv hv
  rw [hf.look] at hc
  obtain rfl := E.dat_one _ _ (Prod.mk.inj hc).1
  rw [hf.has]
  exact hK
/-- 'm[k] = c'. -/
theorem wpList_store_elem (hg : o.guard = none) (m x v : Operand) (t : TypeId) (hop : o.op = Op.mapUpdate t m x v)
    (k e : TypeId) (K : Keyed P k) (ht : P.underlying t = some (.map k e)) (b n : Nat) (D : DataW Unit)
    (hm : a.eval m = .map (some b)) (hown : w.ownsMap P k E.read b n D) (hn : n < maxLen) (key : Value) (c : α) (kl : Lit) (hx : a.eval x = key) (hv : a.eval v = E.val c) (hkey : keyOf P k key = some kl)
    (hK : ∀ w', w'.ownsMap P k E.read b (n + 1) (D.put kl (E.dat c)) → w.grownBy w' (some b) → wpList P ops Q rest (a.put o.dst undef) w') :
    wpList P ops Q (o :: rest) a w :=
  wpList_mapUpdate_own w hg m x v t hop k e K ht E.read b n D hm hown hn key (E.val c) kl hx hv hkey (E.dat c) [] (E.read_mk c) hK
/-- 'delete(m, k)': nothing but the map's block is changed. -/
theorem wpList_delete_elem (hg : o.guard = none) (m x : Operand) (t k : TypeId) (hop : o.op = Op.call { callee := Callee.builtin Builtin.delete, args := #[m, x], argTypes := #[t, k] })
    (e : TypeId) (K : Keyed P k) (ht : P.underlying t = some (.map k e)) (b n : Nat) (D : DataW Unit)
    (hm : a.eval m = .map (some b)) (hown : w.ownsMap P k E.read b n D) (key : Value) (kl : Lit) (hx : a.eval x = key) (hkey : keyOf P k key = some kl)
    (hK : ∀ w', w'.ownsMap P k E.read b n (D.del kl) → w.mapTurned w' b → wpList P ops Q rest (a.put o.dst (.tuple #[])) w') :
    wpList P ops Q (o :: rest) a w :=
  wpList_delete_own w hg m x t k hop e K ht E.read b n D hm hown key kl hx hkey hK
/-- The step of a range over a map keyed by strings. -/
theorem wpList_next_elem (hg : o.guard = none) (it : Operand) (hop : o.op = Op.next it false) (k : TypeId) (hk : P.underlying k = some .string) (b r n : Nat) (D : DataW Unit) (f : Lit → Option α) (left : Lit → Bool) (cnt : Nat)
    (hit : a.eval it = .pointer (some ⟨r, 0, none⟩)) (h : w.ranges P k E.read b r n D left cnt) (hf : Tells E D f)
    (hDone : cnt = 0 → (∀ kl, left kl = false) → wpList P ops Q rest (a.put o.dst (.tuple #[.bool false])) w)
    (hMore : ∀ (s : ByteArray) (c : α) (w' : World) (cnt' : Nat), s.size ≤ maxLen → left (.string s.data.toList) = true → f (.string s.data.toList) = some c → w'.ranges P k E.read b r n D (fun z => left z && !z.sameKey (.string s.data.toList)) cnt' → cnt' < cnt →
      w.grownBy w' (some r) → w'.heap.size = w.heap.size → (Instr.entry (.pointer (some ⟨r, 0, none⟩))).run P w' = .ok (.tuple #[.string s, E.val c]) w' → wpList P ops Q rest (a.put o.dst (.tuple #[.bool true, .string s, E.val c])) w') :
    wpList P ops Q (o :: rest) a w := by
  refine wpList_next_ranges w hg it hop k (string_keyed hk) E.read Value.string E.val (fun key kl hq => Maps.keyOf_string_inv hk hq) (fun v y hv => by obtain ⟨c, hc, _⟩ := E.read_inv hv; exact ⟨c, hc⟩) b r n D left cnt hit h hDone fun s c kl y w' cnt' hkey hl hv hat hr hlt hg2 hs hen => ?_
  obtain ⟨c', hc', hy⟩ := E.read_inv hv
  obtain rfl := E.val_one _ _ hc'
  have hsz : s.size ≤ maxLen ∧ kl = .string s.data.toList := by
    rw [keyOf_string hk] at hkey
    simp [mapKey, hk] at hkey
    exact ⟨hkey.1, hkey.2.symm⟩
  obtain ⟨hsz, rfl⟩ := hsz
  have hh : Maps.has D (.string s.data.toList) = true := has_true_of_atKey hat
  rw [hf.has] at hh
  obtain ⟨c2, hc2⟩ := Option.isSome_iff_exists.1 hh
  have e1 := (hat .nil).symm.trans (hf.cell _ c2 hc2 .nil)
  rw [hy] at e1
  obtain rfl := E.dat_one _ _ e1
  exact hMore s c w' cnt' hsz hl hc2 hr hlt hg2 hs hen
end
end Go.Proofs.Ytgbhfhnbmgkaoaa
