/-
  A write that came in: what its cells are. No program is run here.
-/
import Derived.Test.YtkoojfpafgkgiaaWriteV
import Derived.Test.YtkoojfpafgkgiaaOpenBase
namespace Go.Proofs.Ytkoojfpafgkgiaa
open Go.RowKit Go.ChangeShapes Go.WideShapes

section
variable {H : Type} {enc : TypeId × Value → H} {w : World} {base : Nat} {held : Bool}
set_option maxRecDepth 100000 in
/-- A write that came in. -/
theorem open_write {r : Reach} {b0 : Nat} {v : Value} {d : DataW H} {p : List MemPlace} (hv : Value.okWide Try.prog w r b0 41 v) (h : DataW.Trod enc Try.prog w base (fun _ => true) held 41 v d p) :
    ∃ x : WriteV, v = x.val ∧ Ints w x.dp x.dl ∧ x.small ∧ x.session.size ≤ maxLen ∧ x.key.size ≤ maxLen ∧ x.value.size ≤ maxLen := by
  obtain ⟨cs, rfl, hsz⟩ := okWide_struct Try.underlying41 hv
  obtain ⟨c0, c1, c2, c3, c4, c5, c6, c7, c8, c9, rfl⟩ := list_ten (hsz.trans (by kernel_rfl))
  obtain ⟨fuel, hf⟩ := h
  obtain ⟨xs, n, _, _, _, hlen, hfl⟩ := DataW.trod_struct Try.underlying41 hf
  have hlen9 : xs.length = 9 := hlen
  obtain ⟨y0, g0⟩ := field_at hfl 0 3 0 1 9 rfl (by kernel_rfl) hlen9 (by omega)
  obtain ⟨y1, g1⟩ := field_at hfl 1 3 1 1 9 rfl (by kernel_rfl) hlen9 (by omega)
  obtain ⟨y2, g2⟩ := field_at hfl 2 26 2 2 9 rfl (by kernel_rfl) hlen9 (by omega)
  obtain ⟨y3, g3⟩ := field_at hfl 3 39 4 1 9 rfl (by kernel_rfl) hlen9 (by omega)
  obtain ⟨y4, g4⟩ := field_at hfl 4 9 5 1 9 rfl (by kernel_rfl) hlen9 (by omega)
  obtain ⟨y5, g5⟩ := field_at hfl 5 9 6 1 9 rfl (by kernel_rfl) hlen9 (by omega)
  obtain ⟨y6, g6⟩ := field_at hfl 6 9 7 1 9 rfl (by kernel_rfl) hlen9 (by omega)
  obtain ⟨y7, g7⟩ := field_at hfl 7 4 8 1 9 rfl (by kernel_rfl) hlen9 (by omega)
  obtain ⟨y8, g8⟩ := field_at hfl 8 3 9 1 9 rfl (by kernel_rfl) hlen9 (by omega)
  obtain ⟨z0, e0, _, w0⟩ := DataW.trod_int Try.underlying3 g0
  obtain rfl : c0 = .int .i64 z0 := by simpa [Value.cells] using e0
  obtain ⟨z1, e1, _, w1⟩ := DataW.trod_int Try.underlying3 g1
  obtain rfl : c1 = .int .i64 z1 := by simpa [Value.cells] using e1
  obtain ⟨ys, m, _, _, _, hlen2, hfl2⟩ := DataW.trod_struct Try.underlying26 g2
  have hlen2' : ys.length = 2 := hlen2
  obtain ⟨q0, r0⟩ := field_at hfl2 0 3 0 1 2 rfl (by kernel_rfl) hlen2' (by omega)
  obtain ⟨q1, r1⟩ := field_at hfl2 1 3 1 1 2 rfl (by kernel_rfl) hlen2' (by omega)
  obtain ⟨z2, e20, _, w20⟩ := DataW.trod_int Try.underlying3 r0
  obtain rfl : c2 = .int .i64 z2 := by simpa [Value.cells] using e20
  obtain ⟨z3, e21, _, w21⟩ := DataW.trod_int Try.underlying3 r1
  obtain rfl : c3 = .int .i64 z3 := by simpa [Value.cells] using e21
  obtain ⟨pp, zs, cap, e3, w3, hz⟩ := cell_ints Try.underlying39 Try.underlying3 (by kernel_rfl) g3
  obtain rfl : c4 = .slice pp zs.length cap := by simpa [Value.cells] using e3
  obtain ⟨s5, e4, _, w4⟩ := DataW.trod_string Try.underlying9 g4
  obtain rfl : c5 = .string s5 := by simpa [Value.cells] using e4
  obtain ⟨s6, e5, _, w5⟩ := DataW.trod_string Try.underlying9 g5
  obtain rfl : c6 = .string s6 := by simpa [Value.cells] using e5
  obtain ⟨s7, e6, _, w6⟩ := DataW.trod_string Try.underlying9 g6
  obtain rfl : c7 = .string s7 := by simpa [Value.cells] using e6
  obtain ⟨b8, e7, _⟩ := DataW.trod_bool Try.underlying4 g7
  obtain rfl : c8 = .bool b8 := by simpa [Value.cells] using e7
  obtain ⟨z9, e8, _, w8⟩ := DataW.trod_int Try.underlying3 g8
  obtain rfl : c9 = .int .i64 z9 := by simpa [Value.cells] using e8
  have hm : zs.length ≤ 9223372036854775807 := by unfold maxLen at w3; omega
  exact ⟨⟨z0, z1, z2, z3, pp, zs, cap, s5, s6, s7, b8, z9⟩, rfl, hz, ⟨wf_i64 w0, wf_i64 w1, wf_i64 w20, wf_i64 w8, hm⟩, w4, w5, w6⟩
end
end Go.Proofs.Ytkoojfpafgkgiaa
