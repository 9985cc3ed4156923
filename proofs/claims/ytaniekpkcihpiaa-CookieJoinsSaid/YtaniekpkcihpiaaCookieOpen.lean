/-
  Pairs that came in: what their cells are. No program is run here.
-/
import Derived.Test.YtaniekpkcihpiaaCookieLaws
import Derived.Test.YtaniekpkcihpiaaOpenBase
namespace Go.Proofs.Ytaniekpkcihpiaa
open Go.RowKit Go.ChangeShapes Go.WideShapes

theorem pair_list_of {α : Type} {P : Nat → α → Prop} : ∀ n : Nat, (∀ i, i < n → ∃ x, P i x) → ∃ xs : List α, xs.length = n ∧ ∀ (i : Nat) (x : α), xs[i]? = some x → P i x
  | 0, _ => ⟨[], rfl, fun i x h => by simp at h⟩
  | n + 1, h => by
    obtain ⟨xs, hl, hx⟩ := pair_list_of n (fun i hi => h i (by omega))
    obtain ⟨x, hp⟩ := h n (by omega)
    refine ⟨xs ++ [x], by simp [hl], fun i y hy => ?_⟩
    by_cases hi : i < xs.length
    · rw [List.getElem?_append_left hi] at hy
      exact hx i y hy
    · have hin : i = n := by
        have := (List.getElem?_eq_some_iff.1 hy).1
        simp at this
        omega
      subst hin
      rw [List.getElem?_append_right (by omega), hl] at hy
      simp at hy
      rw [← hy]
      exact hp
theorem list_pair13 {α : Type} {cs : List α} (h : cs.length = 2) : ∃ c0 c1, cs = [c0, c1] := by
  match cs, h with
  | [c0, c1], _ => exact ⟨c0, c1, rfl⟩
section
variable {H : Type} {enc : TypeId × Value → H} {w : World} {base : Nat} {held : Bool}
set_option maxRecDepth 100000 in
theorem pair_cells {fuel : Nat} {cs : List Value} {y : DataW H × List MemPlace} (hf : DataW.trod enc Try.prog w base (fun _ => true) held fuel 24 cs = some y) :
    ∃ x : PairV, cs = [.string x.1, .string x.2] ∧ x.1.size ≤ maxLen ∧ x.2.size ≤ maxLen := by
  obtain ⟨xs, n, _, _, hcs, hlen, hfl⟩ := DataW.trod_struct Try.underlying24 hf
  obtain ⟨c0, c1, rfl⟩ := list_pair13 (hcs.trans (by kernel_rfl))
  have hlen2 : xs.length = 2 := hlen
  obtain ⟨y0, g0⟩ := field_at hfl 0 9 0 1 2 rfl (by kernel_rfl) hlen2 (by omega)
  obtain ⟨y1, g1⟩ := field_at hfl 1 9 1 1 2 rfl (by kernel_rfl) hlen2 (by omega)
  obtain ⟨z0, e0, _, w0⟩ := DataW.trod_string Try.underlying9 g0
  obtain rfl : c0 = .string z0 := by simpa using e0
  obtain ⟨z1, e1, _, w1⟩ := DataW.trod_string Try.underlying9 g1
  obtain rfl : c1 = .string z1 := by simpa using e1
  exact ⟨(z0, z1), rfl, w0, w1⟩
set_option maxRecDepth 100000 in
/-- Pairs that came in. -/
theorem pairs_in {r : Reach} {b0 : Nat} {v : Value} {d : DataW H} {p : List MemPlace} (hv : Value.okWide Try.prog w r b0 22 v) (h : DataW.Trod enc Try.prog w base (fun _ => true) held 22 v d p) :
    ∃ (xs : List PairV) (pp : Option Addr) (cap : Nat), v = .slice pp xs.length cap ∧ xs.length ≤ cap ∧ cap ≤ 9223372036854775807 ∧ PairsIn w pp xs := by
  obtain ⟨a0, len, cap, rfl⟩ := okWide_slice Try.underlying22 hv
  obtain ⟨fuel, hf⟩ := h
  have hc : Try.prog.cellsOf 24 = 2 := by kernel_rfl
  rcases DataW.trod_slice Try.underlying22 hf with ⟨hcs, _⟩ | ⟨a, len', cap', elems, rest, n, _, hcs, _, _, hl, hm, hlen, hel, _, _⟩
  · simp [Value.cells] at hcs
    obtain ⟨rfl, rfl, rfl⟩ := hcs
    exact ⟨[], none, 0, rfl, by simp, by omega, fun i z hz => by simp at hz⟩
  · simp [Value.cells] at hcs
    obtain ⟨rfl, rfl, rfl⟩ := hcs
    rw [hc] at hel
    obtain ⟨xs, hxl, hx⟩ := pair_list_of (P := fun i (x : PairV) => w.cell? ((a.add (i * 2)).add 0) = some (.string x.1) ∧ w.cell? ((a.add (i * 2)).add 1) = some (.string x.2)) len (fun i hi => by
      have he := hel i hi
      rw [show elems[i]? = some (elems[i]'(by omega)) from List.getElem?_eq_getElem (by omega), Option.bind_eq_some_iff] at he
      obtain ⟨cs, h1, h2⟩ := he
      obtain ⟨x, rfl, _, _⟩ := pair_cells h2
      obtain ⟨_, _, h5⟩ := World.cells?_some h1
      exact ⟨x, by rw [h5 0 (by omega)]; rfl, by rw [h5 1 (by omega)]; rfl⟩)
    refine ⟨xs, some a, cap, by rw [hxl], by omega, by unfold maxLen at hm; omega, fun i x hi => ?_⟩
    obtain ⟨h2, h3⟩ := hx i x hi
    obtain ⟨b, off, spot⟩ := a
    have hspot : spot = none := by
      have hi0 : 0 < xs.length := Nat.lt_of_le_of_lt (Nat.zero_le i) (List.getElem?_eq_some_iff.1 hi).1
      have := World.cell?_spot (hx 0 (xs[0]'hi0) (List.getElem?_eq_getElem hi0)).1
      simpa [Addr.add] using this
    subst hspot
    rw [add_plain, add_plain] at h2 h3
    exact ⟨b, off, rfl, h2, h3⟩
set_option maxRecDepth 100000 in
/-- A pair that came in. -/
theorem pair_in {r : Reach} {b0 : Nat} {v : Value} {d : DataW H} {p : List MemPlace} (hv : Value.okWide Try.prog w r b0 24 v) (h : DataW.Trod enc Try.prog w base (fun _ => true) held 24 v d p) :
    ∃ x : PairV, v = pairVal x ∧ x.1.size ≤ maxLen ∧ x.2.size ≤ maxLen := by
  obtain ⟨cs, rfl, hsz⟩ := okWide_struct Try.underlying24 hv
  obtain ⟨fuel, hf⟩ := h
  obtain ⟨x, hx, h1, h2⟩ := pair_cells hf
  refine ⟨x, ?_, h1, h2⟩
  have : cs.toList = [.string x.1, .string x.2] := hx
  obtain ⟨l⟩ := cs
  show Value.agg ⟨l⟩ = _
  rw [show l = [.string x.1, .string x.2] from this]
end
end Go.Proofs.Ytaniekpkcihpiaa
