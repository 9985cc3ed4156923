/-
  Scripts and crashes that came in: what their cells are. No program is run here.
-/
import Derived.Test.YtajkldmpllphjaaGreatDoorJournalKeeps
import Derived.Test.YtajkldmpllphjaaGreatDoorPart05
namespace Go.Proofs.YtajkldmpllphjaaGreatDoor
open Go.RowKit Go.ChangeShapes Go.WideShapes TextNat

theorem list_six {α : Type} {cs : List α} (h : cs.length = 6) : ∃ c0 c1 c2 c3 c4 c5, cs = [c0, c1, c2, c3, c4, c5] := by
  match cs, h with
  | [c0, c1, c2, c3, c4, c5], _ => exact ⟨c0, c1, c2, c3, c4, c5, rfl⟩
section
variable {H : Type} {enc : TypeId × Value → H} {w : World} {base : Nat} {held : Bool}
/-- Texts among the cells of what came in. -/
theorem cell_texts {fuel : Nat} {cs : List Value} {y : DataW H × List MemPlace} (hf : DataW.trod enc Tryz.prog w base (fun _ => true) held fuel 34 cs = some y) :
    ∃ (pp : Option Addr) (xs : List ByteArray) (cap : Nat), cs = [.slice pp xs.length cap] ∧ xs.length ≤ cap ∧ cap ≤ maxLen ∧ TextsIn w pp xs ∧ (∀ x ∈ xs, x.size ≤ 9223372036854775807) ∧ (pp = none → cap = 0) := by
  obtain ⟨xs, pp, cap, h1, h2, h3, h4, h5, h6⟩ := rows_cells (α := ByteArray) (cells := fun x => [.string x]) (Q := fun x => x.size ≤ 9223372036854775807) (k := 1) Tryz.underlying34 (by kernel_rfl) (by omega) (fun _ => rfl)
    (fun hf => by
      obtain ⟨x, e1, _, hz⟩ := DataW.trod_string Tryz.underlying9 hf
      exact ⟨x, e1, small_len hz⟩) hf
  refine ⟨pp, xs, cap, h1, h2, h3, fun i x hx => ?_, h5, h6⟩
  obtain ⟨b, off, q1, q2⟩ := h4 i x hx
  exact ⟨b, off, q1, by simpa using q2 0 _ rfl⟩
set_option maxRecDepth 100000 in
theorem open_op_cells {fuel : Nat} {cs : List Value} {y : DataW H × List MemPlace} (hf : DataW.trod enc Tryz.prog w base (fun _ => true) held fuel 41 cs = some y) :
    ∃ x : Op, cs = x.cells ∧ x.Can ∧ TextsIn w x.lp x.l ∧ (x.lp = none → x.lc = 0) := by
  obtain ⟨xs, n, _, _, hcs, hlen, hfl⟩ := DataW.trod_struct Tryz.underlying41 hf
  obtain ⟨c0, c1, c2, c3, c4, c5, rfl⟩ := list_six (hcs.trans (by kernel_rfl))
  have hlen6 : xs.length = 6 := hlen
  obtain ⟨y0, g0⟩ := field_at hfl 0 3 0 1 6 rfl (by kernel_rfl) hlen6 (by omega)
  obtain ⟨y1, g1⟩ := field_at hfl 1 34 1 1 6 rfl (by kernel_rfl) hlen6 (by omega)
  obtain ⟨y2, g2⟩ := field_at hfl 2 4 2 1 6 rfl (by kernel_rfl) hlen6 (by omega)
  obtain ⟨y3, g3⟩ := field_at hfl 3 3 3 1 6 rfl (by kernel_rfl) hlen6 (by omega)
  obtain ⟨y4, g4⟩ := field_at hfl 4 3 4 1 6 rfl (by kernel_rfl) hlen6 (by omega)
  obtain ⟨y5, g5⟩ := field_at hfl 5 9 5 1 6 rfl (by kernel_rfl) hlen6 (by omega)
  obtain ⟨z0, e0, _, _⟩ := DataW.trod_int Tryz.underlying3 g0
  obtain rfl : c0 = .int .i64 z0 := by simpa using e0
  obtain ⟨pp, l, cap, e1, q1, q2, q3, q4, q5⟩ := cell_texts g1
  obtain rfl : c1 = .slice pp l.length cap := by simpa using e1
  obtain ⟨b2, e2, _⟩ := DataW.trod_bool Tryz.underlying4 g2
  obtain rfl : c2 = .bool b2 := by simpa using e2
  obtain ⟨z3, e3, _, _⟩ := DataW.trod_int Tryz.underlying3 g3
  obtain rfl : c3 = .int .i64 z3 := by simpa using e3
  obtain ⟨z4, e4, _, _⟩ := DataW.trod_int Tryz.underlying3 g4
  obtain rfl : c4 = .int .i64 z4 := by simpa using e4
  obtain ⟨s5, e5, _, w5⟩ := DataW.trod_string Tryz.underlying9 g5
  obtain rfl : c5 = .string s5 := by simpa using e5
  exact ⟨⟨z0, pp, l, cap, b2, z3, z4, s5⟩, rfl, ⟨Nat.le_trans q1 (small_len q2), q1, q4, small_len w5⟩, q3, q5⟩
set_option maxRecDepth 100000 in
/-- A script that came in. -/
theorem open_script {r : Reach} {b0 : Nat} {v : Value} {d : DataW H} {p : List MemPlace} (hv : Value.okWide Tryz.prog w r b0 22 v) (h : DataW.Trod enc Tryz.prog w base (fun _ => true) held 22 v d p) :
    ∃ (xs : List Op) (pp : Option Addr) (cap : Nat), v = .slice pp xs.length cap ∧ xs.length ≤ 9223372036854775807 ∧ OpsIn w pp xs ∧ (∀ x ∈ xs, x.Can) ∧ ∀ x ∈ xs, x.lp = none → x.lc = 0 := by
  obtain ⟨a0, len, cap, rfl⟩ := okWide_slice Tryz.underlying22 hv
  obtain ⟨fuel, hf⟩ := h
  obtain ⟨xs, pp, cap2, h1, h2, h3, h4, h5, h6⟩ := rows_cells (α := Op) (cells := Op.cells) (Q := fun x => x.Can ∧ TextsIn w x.lp x.l ∧ (x.lp = none → x.lc = 0)) (k := 6) Tryz.underlying22 (by kernel_rfl) (by omega) (fun _ => rfl) open_op_cells hf
  simp [Value.cells] at h1
  obtain ⟨rfl, rfl, rfl⟩ := h1
  refine ⟨xs, a0, cap, rfl, Nat.le_trans h2 (small_len h3), fun i x hx => ?_, fun x hx => (h5 x hx).1, fun x hx => (h5 x hx).2.2⟩
  obtain ⟨b, off, q1, q2⟩ := h4 i x hx
  exact ⟨b, off, q1, q2, (h5 x (List.mem_of_getElem? hx)).2.1⟩
set_option maxRecDepth 100000 in
theorem open_crash_cells {fuel : Nat} {cs : List Value} {y : DataW H × List MemPlace} (hf : DataW.trod enc Tryz.prog w base (fun _ => true) held fuel 29 cs = some y) :
    ∃ x : Cr, cs = x.cells ∧ x.Can := by
  obtain ⟨xs, n, _, _, hcs, hlen, hfl⟩ := DataW.trod_struct Tryz.underlying29 hf
  obtain ⟨c0, c1, c2, c3, c4, c5, rfl⟩ := list_six (hcs.trans (by kernel_rfl))
  have hlen4 : xs.length = 4 := hlen
  obtain ⟨y0, g0⟩ := field_at hfl 0 3 0 1 4 rfl (by kernel_rfl) hlen4 (by omega)
  obtain ⟨y1, g1⟩ := field_at hfl 1 4 1 1 4 rfl (by kernel_rfl) hlen4 (by omega)
  obtain ⟨y2, g2⟩ := field_at hfl 2 26 2 2 4 rfl (by kernel_rfl) hlen4 (by omega)
  obtain ⟨y3, g3⟩ := field_at hfl 3 27 4 2 4 rfl (by kernel_rfl) hlen4 (by omega)
  obtain ⟨z0, e0, _, w0⟩ := DataW.trod_int Tryz.underlying3 g0
  obtain rfl : c0 = .int .i64 z0 := by simpa using e0
  obtain ⟨b1, e1, _⟩ := DataW.trod_bool Tryz.underlying4 g1
  obtain rfl : c1 = .bool b1 := by simpa using e1
  obtain ⟨⟨_, _, k2⟩, ⟨_, _, k3⟩⟩ := cell_two Tryz.underlying26 (by kernel_rfl) (show DataW.trod enc Tryz.prog w base (fun _ => true) held n 26 [c2, c3] = some y2 from g2)
  obtain ⟨⟨_, _, k4⟩, ⟨_, _, k5⟩⟩ := cell_two Tryz.underlying27 (by kernel_rfl) (show DataW.trod enc Tryz.prog w base (fun _ => true) held n 27 [c4, c5] = some y3 from g3)
  obtain ⟨z2, e2, _, w2⟩ := DataW.trod_int Tryz.underlying3 k2
  obtain rfl : c2 = .int .i64 z2 := by simpa using e2
  obtain ⟨z3, e3, _, w3⟩ := DataW.trod_int Tryz.underlying3 k3
  obtain rfl : c3 = .int .i64 z3 := by simpa using e3
  obtain ⟨s4, e4, _, w4⟩ := DataW.trod_string Tryz.underlying9 k4
  obtain rfl : c4 = .string s4 := by simpa using e4
  obtain ⟨s5, e5, _, w5⟩ := DataW.trod_string Tryz.underlying9 k5
  obtain rfl : c5 = .string s5 := by simpa using e5
  exact ⟨⟨z0, b1, z2, z3, s4, s5⟩, rfl, ⟨wf_i64 w0, wf_i64 w2, wf_i64 w3, small_len w4, small_len w5⟩⟩
set_option maxRecDepth 100000 in
/-- Crashes that came in. -/
theorem open_crashes {r : Reach} {b0 : Nat} {v : Value} {d : DataW H} {p : List MemPlace} (hv : Value.okWide Tryz.prog w r b0 23 v) (h : DataW.Trod enc Tryz.prog w base (fun _ => true) held 23 v d p) :
    ∃ (xs : List Cr) (pp : Option Addr) (cap : Nat), v = .slice pp xs.length cap ∧ xs.length ≤ 9223372036854775807 ∧ CrsIn w pp xs ∧ ∀ x ∈ xs, x.Can := by
  obtain ⟨a0, len, cap, rfl⟩ := okWide_slice Tryz.underlying23 hv
  obtain ⟨fuel, hf⟩ := h
  obtain ⟨xs, pp, cap2, h1, h2, h3, h4, h5, h6⟩ := rows_cells (α := Cr) (cells := Cr.cells) (Q := Cr.Can) (k := 6) Tryz.underlying23 (by kernel_rfl) (by omega) (fun _ => rfl) open_crash_cells hf
  simp [Value.cells] at h1
  obtain ⟨rfl, rfl, rfl⟩ := h1
  exact ⟨xs, a0, cap, rfl, Nat.le_trans h2 (small_len h3), h4, h5⟩
end
end Go.Proofs.YtajkldmpllphjaaGreatDoor
