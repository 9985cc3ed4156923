/-
  Pairs of numbers that came in: what their cells are. No program is run here.
-/
import Derived.Test.YthafeccfcnmefaaDoorRowsOpen
import Derived.Test.YthafeccfcnmefaaDoorRingPlays
import Derived.Test.YthafeccfcnmefaaDoorIntsIn
namespace Go.Proofs.YthafeccfcnmefaaDoor
open Go.RowKit Go.ChangeShapes Go.WideShapes

section
variable {H : Type} {enc : TypeId × Value → H} {w : World} {base : Nat} {held : Bool}
set_option maxRecDepth 100000 in
theorem open_pair_cells {fuel : Nat} {cs : List Value} {y : DataW H × List MemPlace} (hf : DataW.trod enc Tryd.prog w base (fun _ => true) held fuel 32 cs = some y) :
    ∃ x : Int × Int, cs = [.int .i64 x.1, .int .i64 x.2] ∧ I64 x.1 ∧ I64 x.2 := by
  obtain ⟨_, _, _, _, hcs, _, _⟩ := DataW.trod_array Tryd.underlying32 hf
  have h2 : cs.length = 2 := hcs.trans (by kernel_rfl)
  obtain ⟨c0, c1, rfl⟩ : ∃ c0 c1, cs = [c0, c1] := by
    match cs, h2 with
    | [c0, c1], _ => exact ⟨c0, c1, rfl⟩
  obtain ⟨⟨_, _, k0⟩, ⟨_, _, k1⟩⟩ := cell_two Tryd.underlying32 (by kernel_rfl) hf
  obtain ⟨z0, e0, _, w0⟩ := DataW.trod_int Tryd.underlying3 k0
  obtain rfl : c0 = .int .i64 z0 := by simpa using e0
  obtain ⟨z1, e1, _, w1⟩ := DataW.trod_int Tryd.underlying3 k1
  obtain rfl : c1 = .int .i64 z1 := by simpa using e1
  exact ⟨(z0, z1), rfl, wf_i64 w0, wf_i64 w1⟩
set_option maxRecDepth 100000 in
theorem open_pairs {r : Reach} {b0 : Nat} {v : Value} {d : DataW H} {p : List MemPlace} (hv : Value.okWide Tryd.prog w r b0 22 v) (h : DataW.Trod enc Tryd.prog w base (fun _ => true) held 22 v d p) :
    ∃ (zs : List (Int × Int)) (pp : Option Addr) (cap : Nat), v = .slice pp zs.length cap ∧ zs.length ≤ 9223372036854775807 ∧ PairsIn w pp zs := by
  obtain ⟨a0, len, cap, rfl⟩ := okWide_slice Tryd.underlying22 hv
  obtain ⟨fuel, hf⟩ := h
  obtain ⟨xs, pp, cap2, h1, h2, h3, h4, h5, h6⟩ := rows_cells (α := Int × Int) (cells := fun x => [.int .i64 x.1, .int .i64 x.2]) (Q := fun x => I64 x.1 ∧ I64 x.2) (k := 2) Tryd.underlying22 (by kernel_rfl) (by omega) (fun _ => rfl) open_pair_cells hf
  simp [Value.cells] at h1
  obtain ⟨rfl, rfl, rfl⟩ := h1
  refine ⟨xs, a0, cap, rfl, Nat.le_trans h2 (small_len h3), fun i x hx => ?_⟩
  obtain ⟨b, off, q1, q2⟩ := h4 i x hx
  obtain ⟨r1, r2⟩ := h5 x (List.mem_of_getElem? hx)
  exact ⟨r1, r2, b, off, q1, by simpa using q2 0 _ rfl, by simpa [Nat.add_assoc] using q2 1 _ rfl⟩
end
end Go.Proofs.YthafeccfcnmefaaDoor
