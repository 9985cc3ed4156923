/-
  Operations that came in: what their cells are. No program is run here.
-/
import Derived.Test.YtfdldjhndfohhaaDoorBlockIn
import Derived.Test.YtfdldjhndfohhaaDoorOpenBase
namespace Go.Proofs.YtfdldjhndfohhaaDoor
open Go.RowKit Go.ChangeShapes Go.WideShapes BlockMath

theorem block_list_of {α : Type} {P : Nat → α → Prop} : ∀ n : Nat, (∀ i, i < n → ∃ x, P i x) → ∃ xs : List α, xs.length = n ∧ ∀ (i : Nat) (x : α), xs[i]? = some x → P i x
  | 0, _ => ⟨[], rfl, fun i x h => by simp at h⟩
  | n + 1, h => by
    obtain ⟨xs, hl, hx⟩ := block_list_of n (fun i hi => h i (by omega))
    obtain ⟨x, hp⟩ := h n (by omega)
    refine ⟨xs ++ [x], by simp [hl], fun i y hy => ?_⟩
    by_cases hi : i < xs.length
    · rw [List.getElem?_append_left hi] at hy
      exact hx i y hy
    · have hin : i = n := by
        have := (List.getElem?_eq_some_iff.1 hy).1
        simp at this
        omega
      subst hin
      rw [List.getElem?_append_right (by omega), hl] at hy
      simp at hy
      rw [← hy]
      exact hp
theorem list_four {α : Type} {cs : List α} (h : cs.length = 4) : ∃ c0 c1 c2 c3, cs = [c0, c1, c2, c3] := by
  match cs, h with
  | [c0, c1, c2, c3], _ => exact ⟨c0, c1, c2, c3, rfl⟩
theorem array_four {α : Type} {cs : Array α} (h : cs.size = 4) : ∃ c0 c1 c2 c3, cs = #[c0, c1, c2, c3] := by
  obtain ⟨l⟩ := cs
  match l, h with
  | [c0, c1, c2, c3], _ => exact ⟨c0, c1, c2, c3, rfl⟩
theorem small {n : Nat} (h : n ≤ maxLen) : n ≤ 9223372036854775807 := by unfold maxLen at h; omega
section
variable {H : Type} {enc : TypeId × Value → H} {w : World} {base : Nat} {held : Bool}
set_option maxRecDepth 100000 in
theorem open_op_cells {fuel : Nat} {cs : List Value} {y : DataW H × List MemPlace} (hf : DataW.trod enc Tryd.prog w base (fun _ => true) held fuel 36 cs = some y) :
    ∃ x : OpV, cs = x.cells ∧ x.right := by
  obtain ⟨xs, n, _, _, hcs, hlen, hfl⟩ := DataW.trod_struct Tryd.underlying36 hf
  obtain ⟨c0, c1, c2, c3, rfl⟩ := list_four (hcs.trans (by kernel_rfl))
  have hlen4 : xs.length = 4 := hlen
  obtain ⟨y0, g0⟩ := field_at hfl 0 3 0 1 4 rfl (by kernel_rfl) hlen4 (by omega)
  obtain ⟨y1, g1⟩ := field_at hfl 1 9 1 1 4 rfl (by kernel_rfl) hlen4 (by omega)
  obtain ⟨y2, g2⟩ := field_at hfl 2 3 2 1 4 rfl (by kernel_rfl) hlen4 (by omega)
  obtain ⟨y3, g3⟩ := field_at hfl 3 3 3 1 4 rfl (by kernel_rfl) hlen4 (by omega)
  obtain ⟨z0, e0, _, w0⟩ := DataW.trod_int Tryd.underlying3 g0
  obtain rfl : c0 = .int .i64 z0 := by simpa using e0
  obtain ⟨s1, e1, _, w1⟩ := DataW.trod_string Tryd.underlying9 g1
  obtain rfl : c1 = .string s1 := by simpa using e1
  obtain ⟨z2, e2, _, w2⟩ := DataW.trod_int Tryd.underlying3 g2
  obtain rfl : c2 = .int .i64 z2 := by simpa using e2
  obtain ⟨z3, e3, _, w3⟩ := DataW.trod_int Tryd.underlying3 g3
  obtain rfl : c3 = .int .i64 z3 := by simpa using e3
  exact ⟨⟨z0, s1, z2, z3⟩, rfl, wf_i64 w0, small w1, wf_i64 w2, wf_i64 w3⟩
set_option maxRecDepth 100000 in
/-- An operation that came in. -/
theorem open_op {r : Reach} {b0 : Nat} {v : Value} {d : DataW H} {p : List MemPlace} (hv : Value.okWide Tryd.prog w r b0 36 v) (h : DataW.Trod enc Tryd.prog w base (fun _ => true) held 36 v d p) :
    ∃ x : OpV, v = .agg #[.int .i64 x.k, .string x.s, .int .i64 x.n, .int .i64 x.m] ∧ x.right := by
  obtain ⟨cs, rfl, hsz⟩ := okWide_struct Tryd.underlying36 hv
  obtain ⟨c0, c1, c2, c3, rfl⟩ := array_four (hsz.trans (by kernel_rfl))
  obtain ⟨fuel, hf⟩ := h
  obtain ⟨x, hx, hr⟩ := open_op_cells hf
  refine ⟨x, ?_, hr⟩
  simp [Value.cells, OpV.cells] at hx
  obtain ⟨rfl, rfl, rfl, rfl⟩ := hx
  rfl
set_option maxRecDepth 100000 in
/-- Operations that came in. -/
theorem open_ops {r : Reach} {b0 : Nat} {v : Value} {d : DataW H} {p : List MemPlace} (hv : Value.okWide Tryd.prog w r b0 22 v) (h : DataW.Trod enc Tryd.prog w base (fun _ => true) held 22 v d p) :
    ∃ (xs : List OpV) (pp : Option Addr) (cap : Nat), v = .slice pp xs.length cap ∧ xs.length ≤ cap ∧ xs.length ≤ 9223372036854775807 ∧ OpsIn w pp xs ∧ ∀ x ∈ xs, x.right := by
  obtain ⟨a0, len, cap, rfl⟩ := okWide_slice Tryd.underlying22 hv
  obtain ⟨fuel, hf⟩ := h
  have hc : Tryd.prog.cellsOf 36 = 4 := by kernel_rfl
  rcases DataW.trod_slice Tryd.underlying22 hf with ⟨hcs, _⟩ | ⟨a, len', cap', elems, rest, n, _, hcs, _, _, hl, hm, hlen, hel, _, _⟩
  · simp [Value.cells] at hcs
    obtain ⟨rfl, rfl, rfl⟩ := hcs
    exact ⟨[], none, 0, rfl, by simp, by simp, fun i z hz => by simp at hz, by simp⟩
  · simp [Value.cells] at hcs
    obtain ⟨rfl, rfl, rfl⟩ := hcs
    rw [hc] at hel
    obtain ⟨xs, hxl, hx⟩ := block_list_of (P := fun i (x : OpV) => x.right ∧ ∀ (j : Nat) (u : Value), x.cells[j]? = some u → w.cell? ((a.add (i * 4)).add j) = some u) len (fun i hi => by
      have he := hel i hi
      rw [show elems[i]? = some (elems[i]'(by omega)) from List.getElem?_eq_getElem (by omega), Option.bind_eq_some_iff] at he
      obtain ⟨cs, h1, h2⟩ := he
      obtain ⟨x, rfl, hz⟩ := open_op_cells h2
      obtain ⟨_, _, h5⟩ := World.cells?_some h1
      refine ⟨x, hz, fun j u hj => ?_⟩
      have hj4 : j < 4 := (List.getElem?_eq_some_iff.1 hj).1
      rw [h5 j hj4, hj])
    refine ⟨xs, some a, cap, by rw [hxl], by omega, small (by omega), fun i x hi => ?_, fun x hx2 => ?_⟩
    · obtain ⟨_, h2⟩ := hx i x hi
      obtain ⟨b, off, spot⟩ := a
      have hspot : spot = none := by
        have hi0 : 0 < xs.length := Nat.lt_of_le_of_lt (Nat.zero_le i) (List.getElem?_eq_some_iff.1 hi).1
        have := World.cell?_spot ((hx 0 (xs[0]'hi0) (List.getElem?_eq_getElem hi0)).2 0 _ rfl)
        simpa [Addr.add] using this
      subst hspot
      refine ⟨b, off, rfl, fun j u hj => ?_⟩
      have := h2 j u hj
      rw [add_plain, add_plain] at this
      exact this
    · obtain ⟨i, hi⟩ := List.getElem?_of_mem hx2
      exact (hx i x hi).1
end
end Go.Proofs.YtfdldjhndfohhaaDoor
