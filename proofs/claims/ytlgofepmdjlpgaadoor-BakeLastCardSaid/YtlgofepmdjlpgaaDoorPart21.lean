/-
  Texts of one claim, merged.
  OpenBase: Slices of ints and fields of structs that came in: what their cells are. No program is run here.
  BakeOpen: A cookie that came in: what its cells are. No program is run here.
-/
import Derived.Test.YtlgofepmdjlpgaaDoorPart08
import Derived.Test.YtlgofepmdjlpgaaDoorPart20
import Derived.Test.YtlgofepmdjlpgaaDoorPart06
namespace Go.Proofs.YtlgofepmdjlpgaaDoor
open Go.RowKit Go.ChangeShapes Go.WideShapes

section
variable {H : Type} {enc : TypeId × Value → H} {w : World} {base : Nat} {held : Bool}
/-- A slice of ints among the cells of what came in. -/
theorem cell_ints {t e : TypeId} {fuel : Nat} {cs : List Value} {y : DataW H × List MemPlace} (ht : Tryd.prog.underlying t = some (.slice e)) (he : Tryd.prog.underlying e = some (.int .i64)) (hc : Tryd.prog.cellsOf e = 1) (hf : DataW.trod enc Tryd.prog w base (fun _ => true) held fuel t cs = some y) :
    ∃ (pp : Option Addr) (zs : List Int) (cap : Nat), cs = [.slice pp zs.length cap] ∧ zs.length ≤ maxLen ∧ Ints w pp zs := by
  rcases open_ints ht he hc hf with ⟨rfl, _⟩ | ⟨a, len, cap, zs, rfl, _, hl, hm, hz, _, hcell, hwz⟩
  · exact ⟨none, [], 0, rfl, by simp, fun i z hz => by simp at hz⟩
  · simp only [if_true] at hz
    have hlen : (zs.take len).length = len := by simp; omega
    by_cases hl0 : len = 0
    · subst hl0
      exact ⟨some a, [], cap, rfl, by simp, fun i z hz => by simp at hz⟩
    · obtain ⟨b, off, spot⟩ := a
      have hspot : spot = none := by simpa [Addr.add] using World.cell?_spot (hcell 0 (by omega))
      subst hspot
      refine ⟨some ⟨b, off, none⟩, zs.take len, cap, by rw [hlen], by rw [hlen]; exact Nat.le_trans hl hm, fun i z hz2 => ?_⟩
      have hi : i < len := by rw [← hlen]; exact (List.getElem?_eq_some_iff.1 hz2).1
      have hzi : zs[i]? = some (zs.getD i 0) := by simp [List.getD, show i < zs.length by omega]
      rw [List.getElem?_take, if_pos hi, hzi] at hz2
      obtain rfl := Option.some.inj hz2
      have hw := wf_i64 (hwz (zs.getD i 0) (List.mem_of_getElem? hzi))
      have hc2 := hcell i (by omega)
      rw [add_plain] at hc2
      exact ⟨hw, b, off, rfl, hc2⟩
set_option maxRecDepth 100000 in
theorem list_ten {α : Type} {cs : Array α} (h : cs.size = 10) : ∃ c0 c1 c2 c3 c4 c5 c6 c7 c8 c9, cs = #[c0, c1, c2, c3, c4, c5, c6, c7, c8, c9] := by
  obtain ⟨l⟩ := cs
  match l, h with
  | [c0, c1, c2, c3, c4, c5, c6, c7, c8, c9], _ => exact ⟨c0, c1, c2, c3, c4, c5, c6, c7, c8, c9, rfl⟩
theorem some_at {α : Type} {xs : List α} {i n : Nat} (h : xs.length = n) (hi : i < n) : ∃ y, xs[i]? = some y := ⟨_, List.getElem?_eq_getElem (by omega)⟩
theorem field_at {fs : Array Field} {xs : List (DataW H × List MemPlace)} {cs : List Value} {n : Nat} (hfl : ∀ (i : Nat) (f : Field), fs[i]? = some f → DataW.trod enc Tryd.prog w base (fun _ => true) held n f.type ((cs.drop f.offset).take (Tryd.prog.cellsOf f.type)) = xs[i]?)
    (i : Nat) (T : TypeId) (o k m : Nat) (hi : (fs[i]?).map (fun f => (f.type, f.offset)) = some (T, o)) (hk : Tryd.prog.cellsOf T = k) (hm : xs.length = m) (him : i < m) : ∃ y, DataW.trod enc Tryd.prog w base (fun _ => true) held n T ((cs.drop o).take k) = some y := by
  obtain ⟨f, hf, he⟩ := Option.map_eq_some_iff.1 hi
  obtain ⟨h1, h2⟩ := Prod.mk.inj he
  have := hfl i f hf
  rw [h1, h2, hk] at this
  rw [this]
  exact some_at hm him
end
end Go.Proofs.YtlgofepmdjlpgaaDoor
namespace Go.Proofs.YtlgofepmdjlpgaaDoor
open Go.ChangeShapes Go.WideShapes Go.RowKit Go.ChangeMaps

theorem wf_u16k {z : Int} (h : (Lit.int .u16 z).wf = true) : 0 ≤ z ∧ z < 65536 := by
  simp [Lit.wf, IntKind.min, IntKind.max, IntKind.signed, IntKind.bits] at h
  omega
set_option maxRecDepth 100000 in
theorem list_seven14 {α : Type} {cs : Array α} (h : cs.size = 7) : ∃ c0 c1 c2 c3 c4 c5 c6, cs = #[c0, c1, c2, c3, c4, c5, c6] := by
  obtain ⟨l⟩ := cs
  match l, h with
  | [c0, c1, c2, c3, c4, c5, c6], _ => exact ⟨c0, c1, c2, c3, c4, c5, c6, rfl⟩
set_option maxRecDepth 100000 in
theorem cookie_in {H : Type} {enc : TypeId × Value → H} {w : World} {base : Nat} {held : Bool} {r : Reach} {b0 : Nat} {v : Value} {d : DataW H} {p : List MemPlace} (hv : Value.okWide Tryd.prog w r b0 23 v) (h : DataW.Trod enc Tryd.prog w base (fun _ => true) held 23 v d p) :
    ∃ x : CookieV, v = x.val ∧ x.fits := by
  obtain ⟨cs, rfl, hsz⟩ := okWide_struct Tryd.underlying23 hv
  obtain ⟨c0, c1, c2, c3, c4, c5, c6, rfl⟩ := list_seven14 (hsz.trans (by kernel_rfl))
  obtain ⟨fuel, hf⟩ := h
  obtain ⟨xs, n, _, _, _, hlen, hfl⟩ := DataW.trod_struct Tryd.underlying23 hf
  have hlen7 : xs.length = 7 := hlen
  obtain ⟨y0, g0⟩ := field_at hfl 0 9 0 1 7 rfl (by kernel_rfl) hlen7 (by omega)
  obtain ⟨y1, g1⟩ := field_at hfl 1 9 1 1 7 rfl (by kernel_rfl) hlen7 (by omega)
  obtain ⟨y2, g2⟩ := field_at hfl 2 9 2 1 7 rfl (by kernel_rfl) hlen7 (by omega)
  obtain ⟨y3, g3⟩ := field_at hfl 3 3 3 1 7 rfl (by kernel_rfl) hlen7 (by omega)
  obtain ⟨y4, g4⟩ := field_at hfl 4 4 4 1 7 rfl (by kernel_rfl) hlen7 (by omega)
  obtain ⟨y5, g5⟩ := field_at hfl 5 4 5 1 7 rfl (by kernel_rfl) hlen7 (by omega)
  obtain ⟨y6, g6⟩ := field_at hfl 6 3 6 1 7 rfl (by kernel_rfl) hlen7 (by omega)
  obtain ⟨z0, e0, _, w0⟩ := DataW.trod_string Tryd.underlying9 g0
  obtain rfl : c0 = .string z0 := by simpa [Value.cells] using e0
  obtain ⟨z1, e1, _, w1⟩ := DataW.trod_string Tryd.underlying9 g1
  obtain rfl : c1 = .string z1 := by simpa [Value.cells] using e1
  obtain ⟨z2, e2, _, w2⟩ := DataW.trod_string Tryd.underlying9 g2
  obtain rfl : c2 = .string z2 := by simpa [Value.cells] using e2
  obtain ⟨z3, e3, _, w3⟩ := DataW.trod_int Tryd.underlying3 g3
  obtain rfl : c3 = .int .i64 z3 := by simpa [Value.cells] using e3
  obtain ⟨z4, e4, _⟩ := DataW.trod_bool Tryd.underlying4 g4
  obtain rfl : c4 = .bool z4 := by simpa [Value.cells] using e4
  obtain ⟨z5, e5, _⟩ := DataW.trod_bool Tryd.underlying4 g5
  obtain rfl : c5 = .bool z5 := by simpa [Value.cells] using e5
  obtain ⟨z6, e6, _, w6⟩ := DataW.trod_int Tryd.underlying3 g6
  obtain rfl : c6 = .int .i64 z6 := by simpa [Value.cells] using e6
  exact ⟨⟨z0, z1, z2, z3, z4, z5, z6⟩, rfl, ⟨wf_i64 w3, wf_i64 w6⟩⟩
end Go.Proofs.YtlgofepmdjlpgaaDoor
