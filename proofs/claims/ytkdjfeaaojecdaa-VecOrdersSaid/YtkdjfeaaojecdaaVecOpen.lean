/-
  Vectors, and slices of them, that came in: what their cells are. No program is run here.
-/
import Derived.Test.YtkdjfeaaojecdaaVecLong
import Derived.Test.YtkdjfeaaojecdaaOpenBase
namespace Go.Proofs.Ytkdjfeaaojecdaa
open Go.RowKit Go.ChangeShapes Go.WideShapes

theorem vec_list_of {α : Type} {P : Nat → α → Prop} : ∀ n : Nat, (∀ i, i < n → ∃ x, P i x) → ∃ xs : List α, xs.length = n ∧ ∀ (i : Nat) (x : α), xs[i]? = some x → P i x
  | 0, _ => ⟨[], rfl, fun i x h => by simp at h⟩
  | n + 1, h => by
    obtain ⟨xs, hl, hx⟩ := vec_list_of n (fun i hi => h i (by omega))
    obtain ⟨x, hp⟩ := h n (by omega)
    refine ⟨xs ++ [x], by simp [hl], fun i y hy => ?_⟩
    by_cases hi : i < xs.length
    · rw [List.getElem?_append_left hi] at hy
      exact hx i y hy
    · have hin : i = n := by
        have := (List.getElem?_eq_some_iff.1 hy).1
        simp at this
        omega
      subst hin
      rw [List.getElem?_append_right (by omega), hl] at hy
      simp at hy
      rw [← hy]
      exact hp
structure Vc.small (v : Vc) : Prop where
  len : v.l.length ≤ v.c
  cap : v.c ≤ maxLen
def Vc.cell (v : Vc) : Value := .slice v.p v.l.length v.c
section
variable {H : Type} {enc : TypeId × Value → H} {w : World} {base : Nat} {held : Bool}
theorem cell_vec {t e : TypeId} {fuel : Nat} {cs : List Value} {y : DataW H × List MemPlace} (ht : Try.prog.underlying t = some (.slice e)) (he : Try.prog.underlying e = some (.int .i64)) (hc : Try.prog.cellsOf e = 1) (hf : DataW.trod enc Try.prog w base (fun _ => true) held fuel t cs = some y) :
    ∃ v : Vc, cs = [v.cell] ∧ v.small ∧ Ints w v.p v.l := by
  rcases open_ints ht he hc hf with ⟨rfl, _⟩ | ⟨a, len, cap, zs, rfl, _, hl, hm, hz, _, hcell, hwz⟩
  · exact ⟨⟨none, [], 0⟩, rfl, ⟨Nat.le_refl _, Nat.zero_le _⟩, fun i z hz => by simp at hz⟩
  · simp only [if_true] at hz
    have hlen : (zs.take len).length = len := by simp; omega
    by_cases hl0 : len = 0
    · subst hl0
      exact ⟨⟨some a, [], cap⟩, rfl, ⟨Nat.zero_le _, hm⟩, fun i z hz => by simp at hz⟩
    · obtain ⟨b, off, spot⟩ := a
      have hspot : spot = none := by simpa [Addr.add] using World.cell?_spot (hcell 0 (by omega))
      subst hspot
      refine ⟨⟨some ⟨b, off, none⟩, zs.take len, cap⟩, by unfold Vc.cell; rw [hlen], ⟨by rw [hlen]; exact hl, hm⟩, fun i z hz2 => ?_⟩
      have hi : i < len := by rw [← hlen]; exact (List.getElem?_eq_some_iff.1 hz2).1
      have hzi : zs[i]? = some (zs.getD i 0) := by simp [List.getD, show i < zs.length by omega]
      rw [List.getElem?_take, if_pos hi, hzi] at hz2
      obtain rfl := Option.some.inj hz2
      have hw := wf_i64 (hwz (zs.getD i 0) (List.mem_of_getElem? hzi))
      have hc2 := hcell i (by omega)
      rw [add_plain] at hc2
      exact ⟨hw, b, off, rfl, hc2⟩
/-- A vector that came in. -/
theorem open_vec {r : Reach} {b0 : Nat} {v : Value} {d : DataW H} {p : List MemPlace} (hv : Value.okWide Try.prog w r b0 22 v) (h : DataW.Trod enc Try.prog w base (fun _ => true) held 22 v d p) :
    ∃ x : Vc, v = x.cell ∧ x.small ∧ Ints w x.p x.l := by
  obtain ⟨a0, len, cap, rfl⟩ := okWide_slice Try.underlying22 hv
  obtain ⟨fuel, hf⟩ := h
  obtain ⟨x, hx, h1, h2⟩ := cell_vec Try.underlying22 Try.underlying3 (by kernel_rfl) hf
  refine ⟨x, ?_, h1, h2⟩
  simpa [Value.cells, Vc.cell] using hx
/-- Vectors that came in. -/
theorem open_vecs {r : Reach} {b0 : Nat} {v : Value} {d : DataW H} {p : List MemPlace} (hv : Value.okWide Try.prog w r b0 25 v) (h : DataW.Trod enc Try.prog w base (fun _ => true) held 25 v d p) :
    ∃ (xs : List Vc) (pp : Option Addr) (cap : Nat), v = .slice pp xs.length cap ∧ xs.length ≤ cap ∧ cap ≤ maxLen ∧ VecsIn w pp xs ∧ ∀ x ∈ xs, x.small := by
  obtain ⟨a0, len, cap, rfl⟩ := okWide_slice Try.underlying25 hv
  obtain ⟨fuel, hf⟩ := h
  have hc : Try.prog.cellsOf 22 = 1 := by kernel_rfl
  rcases DataW.trod_slice Try.underlying25 hf with ⟨hcs, _⟩ | ⟨a, len', cap', elems, rest, n, _, hcs, _, _, hl, hm, hlen, hel, _, _⟩
  · simp [Value.cells] at hcs
    obtain ⟨rfl, rfl, rfl⟩ := hcs
    exact ⟨[], none, 0, rfl, by simp, by unfold maxLen; omega, fun i z hz => by simp at hz, by simp⟩
  · simp [Value.cells] at hcs
    obtain ⟨rfl, rfl, rfl⟩ := hcs
    rw [hc] at hel
    obtain ⟨xs, hxl, hx⟩ := vec_list_of (P := fun i (x : Vc) => x.small ∧ w.cell? (a.add i) = some x.cell ∧ Ints w x.p x.l) len (fun i hi => by
      have he := hel i hi
      rw [show elems[i]? = some (elems[i]'(by omega)) from List.getElem?_eq_getElem (by omega), Option.bind_eq_some_iff] at he
      obtain ⟨cs, h1, h2⟩ := he
      obtain ⟨x, rfl, hs, hz⟩ := cell_vec Try.underlying22 Try.underlying3 (by kernel_rfl) h2
      rw [Nat.mul_one] at h1
      exact ⟨x, hs, cell_of_cells?_one h1, hz⟩)
    refine ⟨xs, some a, cap, by rw [hxl], by omega, hm, fun i x hi => ?_, fun x hx2 => ?_⟩
    · obtain ⟨_, h2, h3⟩ := hx i x hi
      obtain ⟨b, off, spot⟩ := a
      have hspot : spot = none := by
        have hi0 : 0 < xs.length := Nat.lt_of_le_of_lt (Nat.zero_le i) (List.getElem?_eq_some_iff.1 hi).1
        have := World.cell?_spot ((hx 0 (xs[0]'hi0) (List.getElem?_eq_getElem hi0)).2.1)
        simpa [Addr.add] using this
      subst hspot
      rw [add_plain] at h2
      exact ⟨b, off, rfl, h2, h3⟩
    · obtain ⟨i, hi⟩ := List.getElem?_of_mem hx2
      exact (hx i x hi).1
end
end Go.Proofs.Ytkdjfeaaojecdaa
