/-
  Cells that came in: what their places hold. No program is run here.
-/
import Derived.Test.YtkoojfpafgkgiaaRowBase
import Derived.Test.YtkoojfpafgkgiaaOpenBase
import Derived.Test.YtkoojfpafgkgiaaRowsOpen
import Derived.Test.YtkoojfpafgkgiaaRegLaws
namespace Go.Proofs.Ytkoojfpafgkgiaa
open Go.ChangeShapes Go.WideShapes Go.RowKit

theorem list_two15 {α : Type} {cs : List α} (h : cs.length = 2) : ∃ c0 c1, cs = [c0, c1] := by
  match cs, h with
  | [c0, c1], _ => exact ⟨c0, c1, rfl⟩
theorem list_five15 {α : Type} {cs : List α} (h : cs.length = 5) : ∃ c0 c1 c2 c3 c4, cs = [c0, c1, c2, c3, c4] := by
  match cs, h with
  | [c0, c1, c2, c3, c4], _ => exact ⟨c0, c1, c2, c3, c4, rfl⟩
section
variable {H : Type} {enc : TypeId × Value → H} {w : World} {base : Nat} {held : Bool}
set_option maxRecDepth 100000 in
theorem stamp_cells15 {fuel : Nat} {cs : List Value} {y : DataW H × List MemPlace} (hf : DataW.trod enc Try.prog w base (fun _ => true) held fuel 26 cs = some y) : ∃ t r : Int, cs = [.int .i64 t, .int .i64 r] ∧ I64 t ∧ I64 r := by
  obtain ⟨xs, n, _, _, hcs, hlen, hfl⟩ := DataW.trod_struct Try.underlying26 hf
  obtain ⟨c0, c1, rfl⟩ := list_two15 (hcs.trans (by kernel_rfl))
  have hlen2 : xs.length = 2 := hlen
  obtain ⟨y0, g0⟩ := field_at hfl 0 3 0 1 2 rfl (by kernel_rfl) hlen2 (by omega)
  obtain ⟨y1, g1⟩ := field_at hfl 1 3 1 1 2 rfl (by kernel_rfl) hlen2 (by omega)
  obtain ⟨z0, e0, _, w0⟩ := DataW.trod_int Try.underlying3 g0
  obtain rfl : c0 = .int .i64 z0 := by simpa using e0
  obtain ⟨z1, e1, _, w1⟩ := DataW.trod_int Try.underlying3 g1
  obtain rfl : c1 = .int .i64 z1 := by simpa using e1
  exact ⟨z0, z1, rfl, wf_i64 w0, wf_i64 w1⟩
set_option maxRecDepth 100000 in
theorem reg_cells {fuel : Nat} {cs : List Value} {y : DataW H × List MemPlace} (hf : DataW.trod enc Try.prog w base (fun _ => true) held fuel 28 cs = some y) :
    ∃ x : RegV, cs = x.cells ∧ (I64 x.time ∧ I64 x.region ∧ I64 x.life) := by
  obtain ⟨xs, n, _, _, hcs, hlen, hfl⟩ := DataW.trod_struct Try.underlying28 hf
  obtain ⟨c0, c1, c2, c3, c4, rfl⟩ := list_five15 (hcs.trans (by kernel_rfl))
  have hlen4 : xs.length = 4 := hlen
  obtain ⟨y0, g0⟩ := field_at hfl 0 26 0 2 4 rfl (by kernel_rfl) hlen4 (by omega)
  obtain ⟨y1, g1⟩ := field_at hfl 1 9 2 1 4 rfl (by kernel_rfl) hlen4 (by omega)
  obtain ⟨y2, g2⟩ := field_at hfl 2 4 3 1 4 rfl (by kernel_rfl) hlen4 (by omega)
  obtain ⟨y3, g3⟩ := field_at hfl 3 3 4 1 4 rfl (by kernel_rfl) hlen4 (by omega)
  obtain ⟨t, r, e0, w0, w1⟩ := stamp_cells15 g0
  obtain ⟨rfl, rfl⟩ : c0 = .int .i64 t ∧ c1 = .int .i64 r := by simpa using e0
  obtain ⟨s2, e2, _, _⟩ := DataW.trod_string Try.underlying9 g1
  obtain rfl : c2 = .string s2 := by simpa using e2
  obtain ⟨b3, e3, _⟩ := DataW.trod_bool Try.underlying4 g2
  obtain rfl : c3 = .bool b3 := by simpa using e3
  obtain ⟨z4, e4, _, w4⟩ := DataW.trod_int Try.underlying3 g3
  obtain rfl : c4 = .int .i64 z4 := by simpa using e4
  exact ⟨⟨t, r, s2, b3, z4⟩, rfl, w0, w1, wf_i64 w4⟩
set_option maxRecDepth 100000 in
/-- Cells that came in. -/
theorem regs_in {r : Reach} {b0 : Nat} {v : Value} {d : DataW H} {p : List MemPlace} (hv : Value.okWide Try.prog w r b0 22 v) (h : DataW.Trod enc Try.prog w base (fun _ => true) held 22 v d p) :
    ∃ (xs : List RegV) (pp : Option Addr) (cap : Nat), v = .slice pp xs.length cap ∧ xs.length ≤ cap ∧ cap ≤ 9223372036854775807 ∧ RegsIn w pp xs := by
  obtain ⟨a0, len, cap, rfl⟩ := okWide_slice Try.underlying22 hv
  obtain ⟨fuel, hf⟩ := h
  obtain ⟨xs, pp, cap2, h1, h2, h3, h4, h5, h6⟩ := rows_cells (α := RegV) (cells := RegV.cells) (Q := fun x => I64 x.time ∧ I64 x.region ∧ I64 x.life) (k := 5) Try.underlying22 (by kernel_rfl) (by omega) (fun _ => rfl) reg_cells hf
  simp [Value.cells] at h1
  obtain ⟨rfl, rfl, rfl⟩ := h1
  refine ⟨xs, a0, cap, rfl, h2, by unfold maxLen at h3; omega, fun i x hx => ?_⟩
  obtain ⟨b, off, q1, q2⟩ := h4 i x hx
  exact ⟨b, off, q1, q2 0 _ rfl, q2 1 _ rfl, q2 2 _ rfl, q2 3 _ rfl, q2 4 _ rfl⟩
end
end Go.Proofs.Ytkoojfpafgkgiaa
