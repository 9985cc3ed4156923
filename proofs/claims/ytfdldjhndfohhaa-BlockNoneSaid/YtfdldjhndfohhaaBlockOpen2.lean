/-
  Texts and losses that came in: what their cells are. No program is run here.
-/
import Derived.Test.YtfdldjhndfohhaaBlockOpen
namespace Go.Proofs.Ytfdldjhndfohhaa
open Go.RowKit Go.ChangeShapes Go.WideShapes BlockMath

theorem wf_u16 {z : Int} (h : (Lit.int .u16 z).wf = true) : 0 ≤ z ∧ z < 65536 := by
  simp [Lit.wf, IntKind.min, IntKind.max, IntKind.signed, IntKind.bits] at h
  omega
theorem array_three {α : Type} {cs : Array α} (h : cs.size = 3) : ∃ c0 c1 c2, cs = #[c0, c1, c2] := by
  obtain ⟨l⟩ := cs
  match l, h with
  | [c0, c1, c2], _ => exact ⟨c0, c1, c2, rfl⟩
section
variable {H : Type} {enc : TypeId × Value → H} {w : World} {base : Nat} {held : Bool}
set_option maxRecDepth 100000 in
/-- A loss that came in. -/
theorem open_loss {r : Reach} {b0 : Nat} {v : Value} {d : DataW H} {p : List MemPlace} (hv : Value.okWide Try.prog w r b0 24 v) (h : DataW.Trod enc Try.prog w base (fun _ => true) held 24 v d p) :
    ∃ (l : ByteArray) (k : Int) (m : ByteArray), v = .agg #[.string l, .int .i64 k, .string m] ∧ l.size ≤ 9223372036854775807 ∧ I64 k ∧ m.size ≤ 9223372036854775807 := by
  obtain ⟨cs, rfl, hsz⟩ := okWide_struct Try.underlying24 hv
  obtain ⟨c0, c1, c2, rfl⟩ := array_three (hsz.trans (by kernel_rfl))
  obtain ⟨fuel, hf⟩ := h
  obtain ⟨xs, n, _, _, _, hlen, hfl⟩ := DataW.trod_struct Try.underlying24 hf
  have hlen3 : xs.length = 3 := hlen
  obtain ⟨y0, g0⟩ := field_at hfl 0 9 0 1 3 rfl (by kernel_rfl) hlen3 (by omega)
  obtain ⟨y1, g1⟩ := field_at hfl 1 3 1 1 3 rfl (by kernel_rfl) hlen3 (by omega)
  obtain ⟨y2, g2⟩ := field_at hfl 2 9 2 1 3 rfl (by kernel_rfl) hlen3 (by omega)
  obtain ⟨z0, e0, _, w0⟩ := DataW.trod_string Try.underlying9 g0
  obtain rfl : c0 = .string z0 := by simpa [Value.cells] using e0
  obtain ⟨z1, e1, _, w1⟩ := DataW.trod_int Try.underlying3 g1
  obtain rfl : c1 = .int .i64 z1 := by simpa [Value.cells] using e1
  obtain ⟨z2, e2, _, w2⟩ := DataW.trod_string Try.underlying9 g2
  obtain rfl : c2 = .string z2 := by simpa [Value.cells] using e2
  exact ⟨z0, z1, z2, rfl, small w0, wf_i64 w1, small w2⟩
set_option maxRecDepth 100000 in
/-- Texts that came in. -/
theorem open_texts {r : Reach} {b0 : Nat} {v : Value} {d : DataW H} {p : List MemPlace} (hv : Value.okWide Try.prog w r b0 43 v) (h : DataW.Trod enc Try.prog w base (fun _ => true) held 43 v d p) :
    ∃ (xs : List ByteArray) (pp : Option Addr) (cap : Nat), v = .slice pp xs.length cap ∧ xs.length ≤ cap ∧ xs.length ≤ 9223372036854775807 ∧ TextsIn w pp xs ∧ ∀ x ∈ xs, x.size ≤ 9223372036854775807 := by
  obtain ⟨a0, len, cap, rfl⟩ := okWide_slice Try.underlying43 hv
  obtain ⟨fuel, hf⟩ := h
  have hc : Try.prog.cellsOf 9 = 1 := by kernel_rfl
  rcases DataW.trod_slice Try.underlying43 hf with ⟨hcs, _⟩ | ⟨a, len', cap', elems, rest, n, _, hcs, _, _, hl, hm, hlen, hel, _, _⟩
  · simp [Value.cells] at hcs
    obtain ⟨rfl, rfl, rfl⟩ := hcs
    exact ⟨[], none, 0, rfl, by simp, by simp, fun i z hz => by simp at hz, by simp⟩
  · simp [Value.cells] at hcs
    obtain ⟨rfl, rfl, rfl⟩ := hcs
    rw [hc] at hel
    obtain ⟨xs, hxl, hx⟩ := block_list_of (P := fun i (x : ByteArray) => x.size ≤ 9223372036854775807 ∧ w.cell? ((a.add (i * 1)).add 0) = some (.string x)) len (fun i hi => by
      have he := hel i hi
      rw [show elems[i]? = some (elems[i]'(by omega)) from List.getElem?_eq_getElem (by omega), Option.bind_eq_some_iff] at he
      obtain ⟨cs, h1, h2⟩ := he
      obtain ⟨x, e1, _, hz⟩ := DataW.trod_string Try.underlying9 h2
      subst e1
      obtain ⟨_, _, h5⟩ := World.cells?_some h1
      refine ⟨x, small hz, ?_⟩
      rw [h5 0 (by omega)]
      rfl)
    refine ⟨xs, some a, cap, by rw [hxl], by omega, small (by omega), fun i x hi => ?_, fun x hx2 => ?_⟩
    · obtain ⟨_, h2⟩ := hx i x hi
      obtain ⟨b, off, spot⟩ := a
      have hspot : spot = none := by
        have hi0 : 0 < xs.length := Nat.lt_of_le_of_lt (Nat.zero_le i) (List.getElem?_eq_some_iff.1 hi).1
        have := World.cell?_spot (hx 0 (xs[0]'hi0) (List.getElem?_eq_getElem hi0)).2
        simpa [Addr.add] using this
      subst hspot
      rw [add_plain, add_plain] at h2
      exact ⟨b, off, rfl, by simpa using h2⟩
    · obtain ⟨i, hi⟩ := List.getElem?_of_mem hx2
      exact (hx i x hi).1
end
end Go.Proofs.Ytfdldjhndfohhaa
