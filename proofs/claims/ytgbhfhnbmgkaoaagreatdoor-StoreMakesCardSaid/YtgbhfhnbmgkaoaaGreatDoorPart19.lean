/-
  Texts of one claim, merged.
  WriteOpen: A write that came in: what its cells are. No program is run here.
  RowsOpen: A slice of structs that came in, generally; an array of two. No program is run here.
  StoreMakesOpen: The document's rows that came in: what their places hold. No program is run here.
-/
import Derived.Test.YtgbhfhnbmgkaoaaGreatDoorPart11
import Derived.Test.YtgbhfhnbmgkaoaaGreatDoorPart18
import Derived.Test.YtgbhfhnbmgkaoaaGreatDoorPart06
namespace Go.Proofs.YtgbhfhnbmgkaoaaGreatDoor
open Go.RowKit Go.ChangeShapes Go.WideShapes

section
variable {H : Type} {enc : TypeId × Value → H} {w : World} {base : Nat} {held : Bool}
set_option maxRecDepth 100000 in
/-- A write that came in. -/
theorem open_write {r : Reach} {b0 : Nat} {v : Value} {d : DataW H} {p : List MemPlace} (hv : Value.okWide Tryz.prog w r b0 28 v) (h : DataW.Trod enc Tryz.prog w base (fun _ => true) held 28 v d p) :
    ∃ x : WriteV, v = x.val ∧ Ints w x.dp x.dl ∧ x.small ∧ x.session.size ≤ maxLen ∧ x.key.size ≤ maxLen ∧ x.value.size ≤ maxLen := by
  obtain ⟨cs, rfl, hsz⟩ := okWide_struct Tryz.underlying28 hv
  obtain ⟨c0, c1, c2, c3, c4, c5, c6, c7, c8, c9, rfl⟩ := list_ten (hsz.trans (by kernel_rfl))
  obtain ⟨fuel, hf⟩ := h
  obtain ⟨xs, n, _, _, _, hlen, hfl⟩ := DataW.trod_struct Tryz.underlying28 hf
  have hlen9 : xs.length = 9 := hlen
  obtain ⟨y0, g0⟩ := field_at hfl 0 3 0 1 9 rfl (by kernel_rfl) hlen9 (by omega)
  obtain ⟨y1, g1⟩ := field_at hfl 1 3 1 1 9 rfl (by kernel_rfl) hlen9 (by omega)
  obtain ⟨y2, g2⟩ := field_at hfl 2 24 2 2 9 rfl (by kernel_rfl) hlen9 (by omega)
  obtain ⟨y3, g3⟩ := field_at hfl 3 26 4 1 9 rfl (by kernel_rfl) hlen9 (by omega)
  obtain ⟨y4, g4⟩ := field_at hfl 4 9 5 1 9 rfl (by kernel_rfl) hlen9 (by omega)
  obtain ⟨y5, g5⟩ := field_at hfl 5 9 6 1 9 rfl (by kernel_rfl) hlen9 (by omega)
  obtain ⟨y6, g6⟩ := field_at hfl 6 9 7 1 9 rfl (by kernel_rfl) hlen9 (by omega)
  obtain ⟨y7, g7⟩ := field_at hfl 7 4 8 1 9 rfl (by kernel_rfl) hlen9 (by omega)
  obtain ⟨y8, g8⟩ := field_at hfl 8 3 9 1 9 rfl (by kernel_rfl) hlen9 (by omega)
  obtain ⟨z0, e0, _, w0⟩ := DataW.trod_int Tryz.underlying3 g0
  obtain rfl : c0 = .int .i64 z0 := by simpa [Value.cells] using e0
  obtain ⟨z1, e1, _, w1⟩ := DataW.trod_int Tryz.underlying3 g1
  obtain rfl : c1 = .int .i64 z1 := by simpa [Value.cells] using e1
  obtain ⟨ys, m, _, _, _, hlen2, hfl2⟩ := DataW.trod_struct Tryz.underlying24 g2
  have hlen2' : ys.length = 2 := hlen2
  obtain ⟨q0, r0⟩ := field_at hfl2 0 3 0 1 2 rfl (by kernel_rfl) hlen2' (by omega)
  obtain ⟨q1, r1⟩ := field_at hfl2 1 3 1 1 2 rfl (by kernel_rfl) hlen2' (by omega)
  obtain ⟨z2, e20, _, w20⟩ := DataW.trod_int Tryz.underlying3 r0
  obtain rfl : c2 = .int .i64 z2 := by simpa [Value.cells] using e20
  obtain ⟨z3, e21, _, w21⟩ := DataW.trod_int Tryz.underlying3 r1
  obtain rfl : c3 = .int .i64 z3 := by simpa [Value.cells] using e21
  obtain ⟨pp, zs, cap, e3, w3, hz⟩ := cell_ints Tryz.underlying26 Tryz.underlying3 (by kernel_rfl) g3
  obtain rfl : c4 = .slice pp zs.length cap := by simpa [Value.cells] using e3
  obtain ⟨s5, e4, _, w4⟩ := DataW.trod_string Tryz.underlying9 g4
  obtain rfl : c5 = .string s5 := by simpa [Value.cells] using e4
  obtain ⟨s6, e5, _, w5⟩ := DataW.trod_string Tryz.underlying9 g5
  obtain rfl : c6 = .string s6 := by simpa [Value.cells] using e5
  obtain ⟨s7, e6, _, w6⟩ := DataW.trod_string Tryz.underlying9 g6
  obtain rfl : c7 = .string s7 := by simpa [Value.cells] using e6
  obtain ⟨b8, e7, _⟩ := DataW.trod_bool Tryz.underlying4 g7
  obtain rfl : c8 = .bool b8 := by simpa [Value.cells] using e7
  obtain ⟨z9, e8, _, w8⟩ := DataW.trod_int Tryz.underlying3 g8
  obtain rfl : c9 = .int .i64 z9 := by simpa [Value.cells] using e8
  have hm : zs.length ≤ 9223372036854775807 := by unfold maxLen at w3; omega
  exact ⟨⟨z0, z1, z2, z3, pp, zs, cap, s5, s6, s7, b8, z9⟩, rfl, hz, ⟨wf_i64 w0, wf_i64 w1, wf_i64 w20, wf_i64 w8, hm⟩, w4, w5, w6⟩
end
end Go.Proofs.YtgbhfhnbmgkaoaaGreatDoor
namespace Go.Proofs.YtgbhfhnbmgkaoaaGreatDoor
open Go.RowKit Go.ChangeShapes Go.WideShapes

theorem rows_list_of {α : Type} {P : Nat → α → Prop} : ∀ n : Nat, (∀ i, i < n → ∃ x, P i x) → ∃ xs : List α, xs.length = n ∧ ∀ (i : Nat) (x : α), xs[i]? = some x → P i x
  | 0, _ => ⟨[], rfl, fun i x h => by simp at h⟩
  | n + 1, h => by
    obtain ⟨xs, hl, hx⟩ := rows_list_of n (fun i hi => h i (by omega))
    obtain ⟨x, hp⟩ := h n (by omega)
    refine ⟨xs ++ [x], by simp [hl], fun i y hy => ?_⟩
    by_cases hi : i < xs.length
    · rw [List.getElem?_append_left hi] at hy
      exact hx i y hy
    · have hin : i = n := by
        have := (List.getElem?_eq_some_iff.1 hy).1
        simp at this
        omega
      subst hin
      rw [List.getElem?_append_right (by omega), hl] at hy
      simp at hy
      rw [← hy]
      exact hp
section
variable {H : Type} {enc : TypeId × Value → H} {w : World} {base : Nat} {held : Bool}
/-- A slice among the cells of what came in. -/
theorem rows_cells {α : Type} {T e : TypeId} {k : Nat} {cells : α → List Value} {Q : α → Prop} (ht : Tryz.prog.underlying T = some (.slice e)) (hk : Tryz.prog.cellsOf e = k) (h0 : 0 < k) (hlen : ∀ x, (cells x).length = k)
    (hcell : ∀ {fuel : Nat} {cs : List Value} {y : DataW H × List MemPlace}, DataW.trod enc Tryz.prog w base (fun _ => true) held fuel e cs = some y → ∃ x : α, cs = cells x ∧ Q x)
    {fuel : Nat} {cs : List Value} {y : DataW H × List MemPlace} (hf : DataW.trod enc Tryz.prog w base (fun _ => true) held fuel T cs = some y) :
    ∃ (xs : List α) (pp : Option Addr) (cap : Nat), cs = [.slice pp xs.length cap] ∧ xs.length ≤ cap ∧ cap ≤ maxLen ∧ (∀ (i : Nat) (x : α), xs[i]? = some x → ∃ b off, pp = some ⟨b, off, none⟩ ∧ ∀ (j : Nat) (u : Value), (cells x)[j]? = some u → w.cell? ⟨b, off + (i * k + j), none⟩ = some u) ∧ (∀ x ∈ xs, Q x) ∧ (pp = none → cap = 0) := by
  rcases DataW.trod_slice ht hf with ⟨hcs, _⟩ | ⟨a, len, cap, elems, rest, n, _, hcs, _, _, hl, hm, hlen2, hel, _, _⟩
  · exact ⟨[], none, 0, hcs, by simp, by unfold maxLen; omega, fun i z hz => by simp at hz, by simp, fun _ => rfl⟩
  · rw [hk] at hel
    obtain ⟨xs, hxl, hx⟩ := rows_list_of (P := fun i (x : α) => Q x ∧ ∀ (j : Nat) (u : Value), (cells x)[j]? = some u → w.cell? ((a.add (i * k)).add j) = some u) len (fun i hi => by
      have he := hel i hi
      rw [show elems[i]? = some (elems[i]'(by omega)) from List.getElem?_eq_getElem (by omega), Option.bind_eq_some_iff] at he
      obtain ⟨cs2, h1, h2⟩ := he
      obtain ⟨x, rfl, hz⟩ := hcell h2
      obtain ⟨_, _, h5⟩ := World.cells?_some h1
      refine ⟨x, hz, fun j u hj => ?_⟩
      have hjk : j < k := by rw [← hlen x]; exact (List.getElem?_eq_some_iff.1 hj).1
      rw [h5 j hjk, hj])
    refine ⟨xs, some a, cap, by rw [hxl]; exact hcs, by omega, hm, fun i x hi => ?_, fun x hx2 => ?_, fun h => by cases h⟩
    · obtain ⟨_, h2⟩ := hx i x hi
      obtain ⟨b, off, spot⟩ := a
      have hspot : spot = none := by
        have hi0 : 0 < xs.length := Nat.lt_of_le_of_lt (Nat.zero_le i) (List.getElem?_eq_some_iff.1 hi).1
        have hc0 : 0 < (cells (xs[0]'hi0)).length := by rw [hlen]; exact h0
        have := World.cell?_spot ((hx 0 (xs[0]'hi0) (List.getElem?_eq_getElem hi0)).2 0 _ (List.getElem?_eq_getElem hc0))
        simpa [Addr.add] using this
      subst hspot
      refine ⟨b, off, rfl, fun j u hj => ?_⟩
      have := h2 j u hj
      rw [add_plain, add_plain, Nat.add_assoc] at this
      exact this
    · obtain ⟨i, hi⟩ := List.getElem?_of_mem hx2
      exact (hx i x hi).1
theorem wf_ten16 {z : Int} (h : (Lit.int .u16 z).wf = true) : 0 ≤ z ∧ z < 65536 := by
  simp [Lit.wf, IntKind.min, IntKind.max, IntKind.signed, IntKind.bits] at h
  omega
theorem small_len {n : Nat} (h : n ≤ maxLen) : n ≤ 9223372036854775807 := by unfold maxLen at h; omega
/-- An array of two among the cells. -/
theorem cell_two {T e : TypeId} {c0 c1 : Value} {fuel : Nat} {y : DataW H × List MemPlace} (ht : Tryz.prog.underlying T = some (.array 2 e)) (hk : Tryz.prog.cellsOf e = 1) (hf : DataW.trod enc Tryz.prog w base (fun _ => true) held fuel T [c0, c1] = some y) :
    (∃ m z, DataW.trod enc Tryz.prog w base (fun _ => true) held m e [c0] = some z) ∧ ∃ m z, DataW.trod enc Tryz.prog w base (fun _ => true) held m e [c1] = some z := by
  obtain ⟨xs, m, _, _, _, hl, hx⟩ := DataW.trod_array ht hf
  rw [hk] at hx
  exact ⟨⟨m, xs[0]'(by omega), (hx 0 (by omega)).trans (List.getElem?_eq_getElem (by omega))⟩, ⟨m, xs[1]'(by omega), (hx 1 (by omega)).trans (List.getElem?_eq_getElem (by omega))⟩⟩
end
end Go.Proofs.YtgbhfhnbmgkaoaaGreatDoor
namespace Go.Proofs.YtgbhfhnbmgkaoaaGreatDoor
open Go.RowKit Go.ChangeShapes Go.WideShapes

theorem list_two16 {α : Type} {cs : List α} (h : cs.length = 2) : ∃ c0 c1, cs = [c0, c1] := by
  match cs, h with
  | [c0, c1], _ => exact ⟨c0, c1, rfl⟩
theorem list_five16 {α : Type} {cs : List α} (h : cs.length = 5) : ∃ c0 c1 c2 c3 c4, cs = [c0, c1, c2, c3, c4] := by
  match cs, h with
  | [c0, c1, c2, c3, c4], _ => exact ⟨c0, c1, c2, c3, c4, rfl⟩
theorem list_seven16 {α : Type} {cs : List α} (h : cs.length = 7) : ∃ c0 c1 c2 c3 c4 c5 c6, cs = [c0, c1, c2, c3, c4, c5, c6] := by
  match cs, h with
  | [c0, c1, c2, c3, c4, c5, c6], _ => exact ⟨c0, c1, c2, c3, c4, c5, c6, rfl⟩
section
variable {H : Type} {enc : TypeId × Value → H} {w : World} {base : Nat} {held : Bool}
set_option maxRecDepth 100000 in
theorem stamp_cells16 {fuel : Nat} {cs : List Value} {y : DataW H × List MemPlace} (hf : DataW.trod enc Tryz.prog w base (fun _ => true) held fuel 24 cs = some y) : ∃ t r : Int, cs = [.int .i64 t, .int .i64 r] := by
  obtain ⟨xs, n, _, _, hcs, hlen, hfl⟩ := DataW.trod_struct Tryz.underlying24 hf
  obtain ⟨c0, c1, rfl⟩ := list_two16 (hcs.trans (by kernel_rfl))
  have hlen2 : xs.length = 2 := hlen
  obtain ⟨y0, g0⟩ := field_at hfl 0 3 0 1 2 rfl (by kernel_rfl) hlen2 (by omega)
  obtain ⟨y1, g1⟩ := field_at hfl 1 3 1 1 2 rfl (by kernel_rfl) hlen2 (by omega)
  obtain ⟨z0, e0, _, w0⟩ := DataW.trod_int Tryz.underlying3 g0
  obtain rfl : c0 = .int .i64 z0 := by simpa using e0
  obtain ⟨z1, e1, _, w1⟩ := DataW.trod_int Tryz.underlying3 g1
  obtain rfl : c1 = .int .i64 z1 := by simpa using e1
  exact ⟨z0, z1, rfl⟩
set_option maxRecDepth 100000 in
theorem cell_cells16 {fuel : Nat} {cs : List Value} {y : DataW H × List MemPlace} (hf : DataW.trod enc Tryz.prog w base (fun _ => true) held fuel 33 cs = some y) :
    ∃ x : RegV, cs = x.cells := by
  obtain ⟨xs, n, _, _, hcs, hlen, hfl⟩ := DataW.trod_struct Tryz.underlying33 hf
  obtain ⟨c0, c1, c2, c3, c4, rfl⟩ := list_five16 (hcs.trans (by kernel_rfl))
  have hlen4 : xs.length = 4 := hlen
  obtain ⟨y0, g0⟩ := field_at hfl 0 24 0 2 4 rfl (by kernel_rfl) hlen4 (by omega)
  obtain ⟨y1, g1⟩ := field_at hfl 1 9 2 1 4 rfl (by kernel_rfl) hlen4 (by omega)
  obtain ⟨y2, g2⟩ := field_at hfl 2 4 3 1 4 rfl (by kernel_rfl) hlen4 (by omega)
  obtain ⟨y3, g3⟩ := field_at hfl 3 3 4 1 4 rfl (by kernel_rfl) hlen4 (by omega)
  obtain ⟨t, r, e0⟩ := stamp_cells16 g0
  obtain ⟨rfl, rfl⟩ : c0 = .int .i64 t ∧ c1 = .int .i64 r := by simpa using e0
  obtain ⟨s2, e2, _, _⟩ := DataW.trod_string Tryz.underlying9 g1
  obtain rfl : c2 = .string s2 := by simpa using e2
  obtain ⟨b3, e3, _⟩ := DataW.trod_bool Tryz.underlying4 g2
  obtain rfl : c3 = .bool b3 := by simpa using e3
  obtain ⟨z4, e4, _, w4⟩ := DataW.trod_int Tryz.underlying3 g3
  obtain rfl : c4 = .int .i64 z4 := by simpa using e4
  exact ⟨⟨t, r, s2, b3, z4⟩, rfl⟩
set_option maxRecDepth 100000 in
theorem row_cells16 {fuel : Nat} {cs : List Value} {y : DataW H × List MemPlace} (hf : DataW.trod enc Tryz.prog w base (fun _ => true) held fuel 35 cs = some y) :
    ∃ x : RowV, cs = x.cells ∧ True := by
  obtain ⟨xs, n, _, _, hcs, hlen, hfl⟩ := DataW.trod_struct Tryz.underlying35 hf
  obtain ⟨c0, c1, c2, c3, c4, c5, c6, rfl⟩ := list_seven16 (hcs.trans (by kernel_rfl))
  have hlen3 : xs.length = 3 := hlen
  obtain ⟨y0, g0⟩ := field_at hfl 0 9 0 1 3 rfl (by kernel_rfl) hlen3 (by omega)
  obtain ⟨y1, g1⟩ := field_at hfl 1 9 1 1 3 rfl (by kernel_rfl) hlen3 (by omega)
  obtain ⟨y2, g2⟩ := field_at hfl 2 33 2 5 3 rfl (by kernel_rfl) hlen3 (by omega)
  obtain ⟨s0, e0, _, _⟩ := DataW.trod_string Tryz.underlying9 g0
  obtain rfl : c0 = .string s0 := by simpa using e0
  obtain ⟨s1, e1, _, _⟩ := DataW.trod_string Tryz.underlying9 g1
  obtain rfl : c1 = .string s1 := by simpa using e1
  obtain ⟨x, e2⟩ := cell_cells16 g2
  have e3 : [c2, c3, c4, c5, c6] = x.cells := by simpa using e2
  exact ⟨⟨s0, s1, x⟩, by show [.string s0, .string s1, c2, c3, c4, c5, c6] = .string s0 :: .string s1 :: x.cells; rw [← e3], trivial⟩
set_option maxRecDepth 100000 in
/-- The document's rows that came in. -/
theorem rows_in16 {r : Reach} {b0 : Nat} {v : Value} {d : DataW H} {p : List MemPlace} (hv : Value.okWide Tryz.prog w r b0 22 v) (h : DataW.Trod enc Tryz.prog w base (fun _ => true) held 22 v d p) :
    ∃ (xs : List RowV) (pp : Option Addr) (cap : Nat), v = .slice pp xs.length cap ∧ xs.length ≤ cap ∧ cap ≤ 9223372036854775807 ∧ RowsIn w pp xs := by
  obtain ⟨a0, len, cap, rfl⟩ := okWide_slice Tryz.underlying22 hv
  obtain ⟨fuel, hf⟩ := h
  obtain ⟨xs, pp, cap2, h1, h2, h3, h4, h5, h6⟩ := rows_cells (α := RowV) (cells := RowV.cells) (Q := fun _ => True) (k := 7) Tryz.underlying22 (by kernel_rfl) (by omega) (fun _ => rfl) row_cells16 hf
  simp [Value.cells] at h1
  obtain ⟨rfl, rfl, rfl⟩ := h1
  refine ⟨xs, a0, cap, rfl, h2, by unfold maxLen at h3; omega, fun i x hx => ?_⟩
  obtain ⟨b, off, q1, q2⟩ := h4 i x hx
  exact ⟨b, off, q1, fun j u hj => by rw [Nat.add_assoc]; exact q2 j u hj⟩
end
end Go.Proofs.YtgbhfhnbmgkaoaaGreatDoor
