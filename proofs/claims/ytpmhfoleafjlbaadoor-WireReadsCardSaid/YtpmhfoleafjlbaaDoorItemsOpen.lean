/-
  Things, and slices of them, that came in: what their cells are. No program is run here.
-/
import Derived.Test.YtpmhfoleafjlbaaDoorOpenBase
import Derived.Test.YtpmhfoleafjlbaaDoorItemCells
namespace Go.Proofs.YtpmhfoleafjlbaaDoor
open Go.RowKit Go.ChangeShapes Go.WideShapes TextNat

/-- A slice's cells are these things. -/
def ItemsIn (w : World) (pp : Option Addr) (xs : List Item) : Prop := ∀ (i : Nat) (x : Item), xs[i]? = some x → ∃ b off, pp = some ⟨b, off, none⟩ ∧ (∀ (j : Nat) (u : Value), x.cells[j]? = some u → w.cell? ⟨b, off + (i * 5 + j), none⟩ = some u) ∧ Ints w x.vp x.vl
structure Item.small (x : Item) : Prop where
  k : -9223372036854775808 ≤ x.k ∧ x.k ≤ 9223372036854775807
  n : -9223372036854775808 ≤ x.n ∧ x.n ≤ 9223372036854775807
  s : x.s.size ≤ maxLen
  v : x.vl.length ≤ maxLen
theorem list_of {α : Type} {P : Nat → α → Prop} : ∀ n : Nat, (∀ i, i < n → ∃ x, P i x) → ∃ xs : List α, xs.length = n ∧ ∀ (i : Nat) (x : α), xs[i]? = some x → P i x
  | 0, _ => ⟨[], rfl, fun i x h => by simp at h⟩
  | n + 1, h => by
    obtain ⟨xs, hl, hx⟩ := list_of n (fun i hi => h i (by omega))
    obtain ⟨x, hp⟩ := h n (by omega)
    refine ⟨xs ++ [x], by simp [hl], fun i y hy => ?_⟩
    by_cases hi : i < xs.length
    · rw [List.getElem?_append_left hi] at hy
      exact hx i y hy
    · have hin : i = n := by
        have := (List.getElem?_eq_some_iff.1 hy).1
        simp at this
        omega
      subst hin
      rw [List.getElem?_append_right (by omega), hl] at hy
      simp at hy
      rw [← hy]
      exact hp
theorem list_five {α : Type} {cs : List α} (h : cs.length = 5) : ∃ c0 c1 c2 c3 c4, cs = [c0, c1, c2, c3, c4] := by
  match cs, h with
  | [c0, c1, c2, c3, c4], _ => exact ⟨c0, c1, c2, c3, c4, rfl⟩
section
variable {H : Type} {enc : TypeId × Value → H} {w : World} {base : Nat} {held : Bool}
set_option maxRecDepth 100000 in
theorem open_item {fuel : Nat} {cs : List Value} {y : DataW H × List MemPlace} (hf : DataW.trod enc Tryd.prog w base (fun _ => true) held fuel 65 cs = some y) :
    ∃ x : Item, cs = x.cells ∧ Ints w x.vp x.vl ∧ x.small := by
  obtain ⟨xs, n, _, _, hcs, hlen, hfl⟩ := DataW.trod_struct Tryd.underlying65 hf
  obtain ⟨c0, c1, c2, c3, c4, rfl⟩ := list_five (hcs.trans (by kernel_rfl))
  have hlen5 : xs.length = 5 := hlen
  obtain ⟨y0, g0⟩ := field_at hfl 0 3 0 1 5 rfl (by kernel_rfl) hlen5 (by omega)
  obtain ⟨y1, g1⟩ := field_at hfl 1 3 1 1 5 rfl (by kernel_rfl) hlen5 (by omega)
  obtain ⟨y2, g2⟩ := field_at hfl 2 9 2 1 5 rfl (by kernel_rfl) hlen5 (by omega)
  obtain ⟨y3, g3⟩ := field_at hfl 3 4 3 1 5 rfl (by kernel_rfl) hlen5 (by omega)
  obtain ⟨y4, g4⟩ := field_at hfl 4 51 4 1 5 rfl (by kernel_rfl) hlen5 (by omega)
  obtain ⟨z0, e0, _, w0⟩ := DataW.trod_int Tryd.underlying3 g0
  obtain rfl : c0 = .int .i64 z0 := by simpa using e0
  obtain ⟨z1, e1, _, w1⟩ := DataW.trod_int Tryd.underlying3 g1
  obtain rfl : c1 = .int .i64 z1 := by simpa using e1
  obtain ⟨s2, e2, _, w2⟩ := DataW.trod_string Tryd.underlying9 g2
  obtain rfl : c2 = .string s2 := by simpa using e2
  obtain ⟨b3, e3, _⟩ := DataW.trod_bool Tryd.underlying4 g3
  obtain rfl : c3 = .bool b3 := by simpa using e3
  obtain ⟨pp, zs, cap, e4, w4, hz⟩ := cell_ints Tryd.underlying51 Tryd.underlying3 (by kernel_rfl) g4
  obtain rfl : c4 = .slice pp zs.length cap := by simpa using e4
  exact ⟨⟨z0, z1, s2, b3, pp, zs, cap⟩, rfl, hz, ⟨wf_i64 w0, wf_i64 w1, w2, w4⟩⟩
set_option maxRecDepth 100000 in
/-- Things that came in. -/
theorem open_items {r : Reach} {b0 : Nat} {v : Value} {d : DataW H} {p : List MemPlace} (hv : Value.okWide Tryd.prog w r b0 22 v) (h : DataW.Trod enc Tryd.prog w base (fun _ => true) held 22 v d p) :
    ∃ (xs : List Item) (pp : Option Addr) (cap : Nat), v = .slice pp xs.length cap ∧ xs.length ≤ cap ∧ cap ≤ maxLen ∧ ItemsIn w pp xs ∧ (∀ x ∈ xs, x.small) ∧ (pp = none → cap = 0) := by
  obtain ⟨a0, len, cap, rfl⟩ := okWide_slice Tryd.underlying22 hv
  obtain ⟨fuel, hf⟩ := h
  have hc : Tryd.prog.cellsOf 65 = 5 := by kernel_rfl
  rcases DataW.trod_slice Tryd.underlying22 hf with ⟨hcs, _⟩ | ⟨a, len', cap', elems, rest, n, _, hcs, _, _, hl, hm, hlen, hel, _, _⟩
  · simp [Value.cells] at hcs
    obtain ⟨rfl, rfl, rfl⟩ := hcs
    exact ⟨[], none, 0, rfl, by simp, by unfold maxLen; omega, fun i z hz => by simp at hz, by simp, fun _ => rfl⟩
  · simp [Value.cells] at hcs
    obtain ⟨rfl, rfl, rfl⟩ := hcs
    rw [hc] at hel
    obtain ⟨xs, hxl, hx⟩ := list_of (P := fun i (x : Item) => x.small ∧ (∀ (j : Nat) (u : Value), x.cells[j]? = some u → w.cell? ((a.add (i * 5)).add j) = some u) ∧ Ints w x.vp x.vl) len (fun i hi => by
      have he := hel i hi
      rw [show elems[i]? = some (elems[i]'(by omega)) from List.getElem?_eq_getElem (by omega), Option.bind_eq_some_iff] at he
      obtain ⟨cs, h1, h2⟩ := he
      obtain ⟨x, rfl, hz, hs⟩ := open_item h2
      obtain ⟨_, _, h5⟩ := World.cells?_some h1
      refine ⟨x, hs, fun j u hj => ?_, hz⟩
      have hj5 : j < 5 := (List.getElem?_eq_some_iff.1 hj).1
      rw [h5 j hj5, hj])
    refine ⟨xs, some a, cap, by rw [hxl], by omega, hm, fun i x hi => ?_, fun x hx2 => ?_, fun h => by cases h⟩
    · obtain ⟨_, h2, h3⟩ := hx i x hi
      obtain ⟨b, off, spot⟩ := a
      have hspot : spot = none := by
        have hi0 : 0 < xs.length := Nat.lt_of_le_of_lt (Nat.zero_le i) (List.getElem?_eq_some_iff.1 hi).1
        have := World.cell?_spot ((hx 0 (xs[0]'hi0) (List.getElem?_eq_getElem hi0)).2.1 0 _ rfl)
        simpa [Addr.add] using this
      subst hspot
      refine ⟨b, off, rfl, fun j u hj => ?_, h3⟩
      have := h2 j u hj
      rw [add_plain, add_plain, Nat.add_assoc] at this
      exact this
    · obtain ⟨i, hi⟩ := List.getElem?_of_mem hx2
      exact (hx i x hi).1
theorem ItemsIn.grown {w w' : World} {pp : Option Addr} {xs : List Item} (h : ItemsIn w pp xs) (hb : Below w.heap.size w w') : ItemsIn w' pp xs := fun i x hx => by
  obtain ⟨b, off, h1, h2, h3⟩ := h i x hx
  refine ⟨b, off, h1, fun j u hj => ?_, h3.grown hb⟩
  have := h2 j u hj
  exact (hb.cell (p := ⟨b, off + (i * 5 + j), none⟩) (World.block_lt_of_cell? w _ this)).trans this
end
end Go.Proofs.YtpmhfoleafjlbaaDoor
