/-
  Slices of ints and fields of structs that came in: what their cells are. No program is run here.
-/
import Derived.Test.YtkoojfpafgkgiaaArrays
import Derived.Test.YtkoojfpafgkgiaaRowBase
import Derived.Test.YtkoojfpafgkgiaaInts
namespace Go.Proofs.Ytkoojfpafgkgiaa
open Go.RowKit Go.ChangeShapes Go.WideShapes

section
variable {H : Type} {enc : TypeId × Value → H} {w : World} {base : Nat} {held : Bool}
/-- A slice of ints among the cells of what came in. -/
theorem cell_ints {t e : TypeId} {fuel : Nat} {cs : List Value} {y : DataW H × List MemPlace} (ht : Try.prog.underlying t = some (.slice e)) (he : Try.prog.underlying e = some (.int .i64)) (hc : Try.prog.cellsOf e = 1) (hf : DataW.trod enc Try.prog w base (fun _ => true) held fuel t cs = some y) :
    ∃ (pp : Option Addr) (zs : List Int) (cap : Nat), cs = [.slice pp zs.length cap] ∧ zs.length ≤ maxLen ∧ Ints w pp zs := by
  rcases open_ints ht he hc hf with ⟨rfl, _⟩ | ⟨a, len, cap, zs, rfl, _, hl, hm, hz, _, hcell, hwz⟩
  · exact ⟨none, [], 0, rfl, by simp, fun i z hz => by simp at hz⟩
  · simp only [if_true] at hz
    have hlen : (zs.take len).length = len := by simp; omega
    by_cases hl0 : len = 0
    · subst hl0
      exact ⟨some a, [], cap, rfl, by simp, fun i z hz => by simp at hz⟩
    · obtain ⟨b, off, spot⟩ := a
      have hspot : spot = none := by simpa [Addr.add] using World.cell?_spot (hcell 0 (by omega))
      subst hspot
      refine ⟨some ⟨b, off, none⟩, zs.take len, cap, by rw [hlen], by rw [hlen]; exact Nat.le_trans hl hm, fun i z hz2 => ?_⟩
      have hi : i < len := by rw [← hlen]; exact (List.getElem?_eq_some_iff.1 hz2).1
      have hzi : zs[i]? = some (zs.getD i 0) := by simp [List.getD, show i < zs.length by omega]
      rw [List.getElem?_take, if_pos hi, hzi] at hz2
      obtain rfl := Option.some.inj hz2
      have hw := wf_i64 (hwz (zs.getD i 0) (List.mem_of_getElem? hzi))
      have hc2 := hcell i (by omega)
      rw [add_plain] at hc2
      exact ⟨hw, b, off, rfl, hc2⟩
set_option maxRecDepth 100000 in
theorem list_ten {α : Type} {cs : Array α} (h : cs.size = 10) : ∃ c0 c1 c2 c3 c4 c5 c6 c7 c8 c9, cs = #[c0, c1, c2, c3, c4, c5, c6, c7, c8, c9] := by
  obtain ⟨l⟩ := cs
  match l, h with
  | [c0, c1, c2, c3, c4, c5, c6, c7, c8, c9], _ => exact ⟨c0, c1, c2, c3, c4, c5, c6, c7, c8, c9, rfl⟩
theorem some_at {α : Type} {xs : List α} {i n : Nat} (h : xs.length = n) (hi : i < n) : ∃ y, xs[i]? = some y := ⟨_, List.getElem?_eq_getElem (by omega)⟩
theorem field_at {fs : Array Field} {xs : List (DataW H × List MemPlace)} {cs : List Value} {n : Nat} (hfl : ∀ (i : Nat) (f : Field), fs[i]? = some f → DataW.trod enc Try.prog w base (fun _ => true) held n f.type ((cs.drop f.offset).take (Try.prog.cellsOf f.type)) = xs[i]?)
    (i : Nat) (T : TypeId) (o k m : Nat) (hi : (fs[i]?).map (fun f => (f.type, f.offset)) = some (T, o)) (hk : Try.prog.cellsOf T = k) (hm : xs.length = m) (him : i < m) : ∃ y, DataW.trod enc Try.prog w base (fun _ => true) held n T ((cs.drop o).take k) = some y := by
  obtain ⟨f, hf, he⟩ := Option.map_eq_some_iff.1 hi
  obtain ⟨h1, h2⟩ := Prod.mk.inj he
  have := hfl i f hf
  rw [h1, h2, hk] at this
  rw [this]
  exact some_at hm him
end
end Go.Proofs.Ytkoojfpafgkgiaa
