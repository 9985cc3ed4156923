/-
  Texts of one claim, merged.
  RowBase: What each row that lists no variable begins with: a world to begin in, the bound on a text that came in. No conditions.
  Ints: A slice of ints in memory: what its cells hold, and that they stay. No program is run here.
  OpenBase: Slices of ints and fields of structs that came in: what their cells are. No program is run here.
  RowsOpen: A slice of structs that came in, generally; an array of two. No program is run here.
-/
import Derived.Test.YtajkldmpllphjaaGreatDoorPart01
import Derived.Test.YtajkldmpllphjaaGreatDoorRows
import Derived.SevenTiedAt
import Derived.ChangeMaps5
import Derived.Test.YtajkldmpllphjaaGreatDoorProg
import Derived.WalkKit
import Derived.Handy
import Derived.Outline
import Derived.WideLaws
namespace Go.Proofs.YtajkldmpllphjaaGreatDoor
open Go.ChangeShapes Go.WideShapes Go.RowKit Go.ChangeMaps

theorem small_text {n : Nat} (h : n ≤ maxLen) : n ≤ 9223372036854775807 := by unfold maxLen at h; omega
noncomputable def plainWorld (os : Os) : World := World.holding Tryz.prog os ⟨#[], #[], []⟩
end Go.Proofs.YtajkldmpllphjaaGreatDoor
namespace Go.Proofs.YtajkldmpllphjaaGreatDoor
open Go.RowKit

/-- The ints 'zs' stand from the address 'pp' on. -/
def Ints (w : World) (pp : Option Addr) (zs : List Int) : Prop := ∀ (i : Nat) (z : Int), zs[i]? = some z → (-9223372036854775808 ≤ z ∧ z ≤ 9223372036854775807) ∧ ∃ b off, pp = some ⟨b, off, none⟩ ∧ w.cell? ⟨b, off + i, none⟩ = some (.int .i64 z)
theorem Ints.grown {w w' : World} {pp : Option Addr} {zs : List Int} (h : Ints w pp zs) (hb : Below w.heap.size w w') : Ints w' pp zs := fun i z hz => by
  obtain ⟨hr, b, off, hp, hc⟩ := h i z hz
  refine ⟨hr, b, off, hp, ?_⟩
  have hl : b < w.heap.size := by
    rcases Nat.lt_or_ge b w.heap.size with g | g
    · exact g
    · simp [World.cell?, Array.getElem?_eq_none g] at hc
  exact (hb.cell (p := ⟨b, off + i, none⟩) hl).trans hc
theorem Ints.drewN {w : World} {pp : Option Addr} {zs : List Int} (n : Nat) (h : Ints w pp zs) : Ints { w with drawn := w.drawn + n } pp zs := h
end Go.Proofs.YtajkldmpllphjaaGreatDoor
namespace Go.Proofs.YtajkldmpllphjaaGreatDoor
open Go.RowKit Go.ChangeShapes Go.WideShapes

section
variable {H : Type} {enc : TypeId × Value → H} {w : World} {base : Nat} {held : Bool}
/-- A slice of ints among the cells of what came in. -/
theorem cell_ints {t e : TypeId} {fuel : Nat} {cs : List Value} {y : DataW H × List MemPlace} (ht : Tryz.prog.underlying t = some (.slice e)) (he : Tryz.prog.underlying e = some (.int .i64)) (hc : Tryz.prog.cellsOf e = 1) (hf : DataW.trod enc Tryz.prog w base (fun _ => true) held fuel t cs = some y) :
    ∃ (pp : Option Addr) (zs : List Int) (cap : Nat), cs = [.slice pp zs.length cap] ∧ zs.length ≤ maxLen ∧ Ints w pp zs := by
  rcases open_ints ht he hc hf with ⟨rfl, _⟩ | ⟨a, len, cap, zs, rfl, _, hl, hm, hz, _, hcell, hwz⟩
  · exact ⟨none, [], 0, rfl, by simp, fun i z hz => by simp at hz⟩
  · simp only [if_true] at hz
    have hlen : (zs.take len).length = len := by simp; omega
    by_cases hl0 : len = 0
    · subst hl0
      exact ⟨some a, [], cap, rfl, by simp, fun i z hz => by simp at hz⟩
    · obtain ⟨b, off, spot⟩ := a
      have hspot : spot = none := by simpa [Addr.add] using World.cell?_spot (hcell 0 (by omega))
      subst hspot
      refine ⟨some ⟨b, off, none⟩, zs.take len, cap, by rw [hlen], by rw [hlen]; exact Nat.le_trans hl hm, fun i z hz2 => ?_⟩
      have hi : i < len := by rw [← hlen]; exact (List.getElem?_eq_some_iff.1 hz2).1
      have hzi : zs[i]? = some (zs.getD i 0) := by simp [List.getD, show i < zs.length by omega]
      rw [List.getElem?_take, if_pos hi, hzi] at hz2
      obtain rfl := Option.some.inj hz2
      have hw := wf_i64 (hwz (zs.getD i 0) (List.mem_of_getElem? hzi))
      have hc2 := hcell i (by omega)
      rw [add_plain] at hc2
      exact ⟨hw, b, off, rfl, hc2⟩
set_option maxRecDepth 100000 in
theorem list_ten {α : Type} {cs : Array α} (h : cs.size = 10) : ∃ c0 c1 c2 c3 c4 c5 c6 c7 c8 c9, cs = #[c0, c1, c2, c3, c4, c5, c6, c7, c8, c9] := by
  obtain ⟨l⟩ := cs
  match l, h with
  | [c0, c1, c2, c3, c4, c5, c6, c7, c8, c9], _ => exact ⟨c0, c1, c2, c3, c4, c5, c6, c7, c8, c9, rfl⟩
theorem some_at {α : Type} {xs : List α} {i n : Nat} (h : xs.length = n) (hi : i < n) : ∃ y, xs[i]? = some y := ⟨_, List.getElem?_eq_getElem (by omega)⟩
theorem field_at {fs : Array Field} {xs : List (DataW H × List MemPlace)} {cs : List Value} {n : Nat} (hfl : ∀ (i : Nat) (f : Field), fs[i]? = some f → DataW.trod enc Tryz.prog w base (fun _ => true) held n f.type ((cs.drop f.offset).take (Tryz.prog.cellsOf f.type)) = xs[i]?)
    (i : Nat) (T : TypeId) (o k m : Nat) (hi : (fs[i]?).map (fun f => (f.type, f.offset)) = some (T, o)) (hk : Tryz.prog.cellsOf T = k) (hm : xs.length = m) (him : i < m) : ∃ y, DataW.trod enc Tryz.prog w base (fun _ => true) held n T ((cs.drop o).take k) = some y := by
  obtain ⟨f, hf, he⟩ := Option.map_eq_some_iff.1 hi
  obtain ⟨h1, h2⟩ := Prod.mk.inj he
  have := hfl i f hf
  rw [h1, h2, hk] at this
  rw [this]
  exact some_at hm him
end
end Go.Proofs.YtajkldmpllphjaaGreatDoor
namespace Go.Proofs.YtajkldmpllphjaaGreatDoor
open Go.RowKit Go.ChangeShapes Go.WideShapes

theorem rows_list_of {α : Type} {P : Nat → α → Prop} : ∀ n : Nat, (∀ i, i < n → ∃ x, P i x) → ∃ xs : List α, xs.length = n ∧ ∀ (i : Nat) (x : α), xs[i]? = some x → P i x
  | 0, _ => ⟨[], rfl, fun i x h => by simp at h⟩
  | n + 1, h => by
    obtain ⟨xs, hl, hx⟩ := rows_list_of n (fun i hi => h i (by omega))
    obtain ⟨x, hp⟩ := h n (by omega)
    refine ⟨xs ++ [x], by simp [hl], fun i y hy => ?_⟩
    by_cases hi : i < xs.length
    · rw [List.getElem?_append_left hi] at hy
      exact hx i y hy
    · have hin : i = n := by
        have := (List.getElem?_eq_some_iff.1 hy).1
        simp at this
        omega
      subst hin
      rw [List.getElem?_append_right (by omega), hl] at hy
      simp at hy
      rw [← hy]
      exact hp
section
variable {H : Type} {enc : TypeId × Value → H} {w : World} {base : Nat} {held : Bool}
/-- A slice among the cells of what came in. -/
theorem rows_cells {α : Type} {T e : TypeId} {k : Nat} {cells : α → List Value} {Q : α → Prop} (ht : Tryz.prog.underlying T = some (.slice e)) (hk : Tryz.prog.cellsOf e = k) (h0 : 0 < k) (hlen : ∀ x, (cells x).length = k)
    (hcell : ∀ {fuel : Nat} {cs : List Value} {y : DataW H × List MemPlace}, DataW.trod enc Tryz.prog w base (fun _ => true) held fuel e cs = some y → ∃ x : α, cs = cells x ∧ Q x)
    {fuel : Nat} {cs : List Value} {y : DataW H × List MemPlace} (hf : DataW.trod enc Tryz.prog w base (fun _ => true) held fuel T cs = some y) :
    ∃ (xs : List α) (pp : Option Addr) (cap : Nat), cs = [.slice pp xs.length cap] ∧ xs.length ≤ cap ∧ cap ≤ maxLen ∧ (∀ (i : Nat) (x : α), xs[i]? = some x → ∃ b off, pp = some ⟨b, off, none⟩ ∧ ∀ (j : Nat) (u : Value), (cells x)[j]? = some u → w.cell? ⟨b, off + (i * k + j), none⟩ = some u) ∧ (∀ x ∈ xs, Q x) ∧ (pp = none → cap = 0) := by
  rcases DataW.trod_slice ht hf with ⟨hcs, _⟩ | ⟨a, len, cap, elems, rest, n, _, hcs, _, _, hl, hm, hlen2, hel, _, _⟩
  · exact ⟨[], none, 0, hcs, by simp, by unfold maxLen; omega, fun i z hz => by simp at hz, by simp, fun _ => rfl⟩
  · rw [hk] at hel
    obtain ⟨xs, hxl, hx⟩ := rows_list_of (P := fun i (x : α) => Q x ∧ ∀ (j : Nat) (u : Value), (cells x)[j]? = some u → w.cell? ((a.add (i * k)).add j) = some u) len (fun i hi => by
      have he := hel i hi
      rw [show elems[i]? = some (elems[i]'(by omega)) from List.getElem?_eq_getElem (by omega), Option.bind_eq_some_iff] at he
      obtain ⟨cs2, h1, h2⟩ := he
      obtain ⟨x, rfl, hz⟩ := hcell h2
      obtain ⟨_, _, h5⟩ := World.cells?_some h1
      refine ⟨x, hz, fun j u hj => ?_⟩
      have hjk : j < k := by rw [← hlen x]; exact (List.getElem?_eq_some_iff.1 hj).1
      rw [h5 j hjk, hj])
    refine ⟨xs, some a, cap, by rw [hxl]; exact hcs, by omega, hm, fun i x hi => ?_, fun x hx2 => ?_, fun h => by cases h⟩
    · obtain ⟨_, h2⟩ := hx i x hi
      obtain ⟨b, off, spot⟩ := a
      have hspot : spot = none := by
        have hi0 : 0 < xs.length := Nat.lt_of_le_of_lt (Nat.zero_le i) (List.getElem?_eq_some_iff.1 hi).1
        have hc0 : 0 < (cells (xs[0]'hi0)).length := by rw [hlen]; exact h0
        have := World.cell?_spot ((hx 0 (xs[0]'hi0) (List.getElem?_eq_getElem hi0)).2 0 _ (List.getElem?_eq_getElem hc0))
        simpa [Addr.add] using this
      subst hspot
      refine ⟨b, off, rfl, fun j u hj => ?_⟩
      have := h2 j u hj
      rw [add_plain, add_plain, Nat.add_assoc] at this
      exact this
    · obtain ⟨i, hi⟩ := List.getElem?_of_mem hx2
      exact (hx i x hi).1
theorem wf_ten16 {z : Int} (h : (Lit.int .u16 z).wf = true) : 0 ≤ z ∧ z < 65536 := by
  simp [Lit.wf, IntKind.min, IntKind.max, IntKind.signed, IntKind.bits] at h
  omega
theorem small_len {n : Nat} (h : n ≤ maxLen) : n ≤ 9223372036854775807 := by unfold maxLen at h; omega
/-- An array of two among the cells. -/
theorem cell_two {T e : TypeId} {c0 c1 : Value} {fuel : Nat} {y : DataW H × List MemPlace} (ht : Tryz.prog.underlying T = some (.array 2 e)) (hk : Tryz.prog.cellsOf e = 1) (hf : DataW.trod enc Tryz.prog w base (fun _ => true) held fuel T [c0, c1] = some y) :
    (∃ m z, DataW.trod enc Tryz.prog w base (fun _ => true) held m e [c0] = some z) ∧ ∃ m z, DataW.trod enc Tryz.prog w base (fun _ => true) held m e [c1] = some z := by
  obtain ⟨xs, m, _, _, _, hl, hx⟩ := DataW.trod_array ht hf
  rw [hk] at hx
  exact ⟨⟨m, xs[0]'(by omega), (hx 0 (by omega)).trans (List.getElem?_eq_getElem (by omega))⟩, ⟨m, xs[1]'(by omega), (hx 1 (by omega)).trans (List.getElem?_eq_getElem (by omega))⟩⟩
end
end Go.Proofs.YtajkldmpllphjaaGreatDoor
