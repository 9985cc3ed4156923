/-
  Asks that came in: what their cells are. No program is run here.
-/
import Derived.Test.YtpmhfoleafjlbaaDoorItemsOpen
namespace Go.Proofs.YtpmhfoleafjlbaaDoor
open Go.RowKit Go.ChangeShapes Go.WideShapes

/-- A slice's cells are these asks: each a kind and the most that it may be. -/
def AsksIn (w : World) (pp : Option Addr) (xs : List (Int × Int)) : Prop := ∀ (i : Nat) (x : Int × Int), xs[i]? = some x → ∃ b off, pp = some ⟨b, off, none⟩ ∧ w.cell? ⟨b, off + i * 2, none⟩ = some (.int .i64 x.1) ∧ w.cell? ⟨b, off + i * 2 + 1, none⟩ = some (.int .i64 x.2)
theorem list_two {α : Type} {cs : List α} (h : cs.length = 2) : ∃ c0 c1, cs = [c0, c1] := by
  match cs, h with
  | [c0, c1], _ => exact ⟨c0, c1, rfl⟩
section
variable {H : Type} {enc : TypeId × Value → H} {w : World} {base : Nat} {held : Bool}
set_option maxRecDepth 100000 in
theorem open_ask {fuel : Nat} {cs : List Value} {y : DataW H × List MemPlace} (hf : DataW.trod enc Tryd.prog w base (fun _ => true) held fuel 48 cs = some y) :
    ∃ x : Int × Int, cs = [.int .i64 x.1, .int .i64 x.2] := by
  obtain ⟨xs, n, _, _, hcs, hlen, hfl⟩ := DataW.trod_struct Tryd.underlying48 hf
  obtain ⟨c0, c1, rfl⟩ := list_two (hcs.trans (by kernel_rfl))
  have hlen2 : xs.length = 2 := hlen
  obtain ⟨y0, g0⟩ := field_at hfl 0 3 0 1 2 rfl (by kernel_rfl) hlen2 (by omega)
  obtain ⟨y1, g1⟩ := field_at hfl 1 3 1 1 2 rfl (by kernel_rfl) hlen2 (by omega)
  obtain ⟨z0, e0, _, w0⟩ := DataW.trod_int Tryd.underlying3 g0
  obtain rfl : c0 = .int .i64 z0 := by simpa using e0
  obtain ⟨z1, e1, _, w1⟩ := DataW.trod_int Tryd.underlying3 g1
  obtain rfl : c1 = .int .i64 z1 := by simpa using e1
  exact ⟨(z0, z1), rfl⟩
set_option maxRecDepth 100000 in
/-- Asks that came in. -/
theorem open_asks {r : Reach} {b0 : Nat} {v : Value} {d : DataW H} {p : List MemPlace} (hv : Value.okWide Tryd.prog w r b0 42 v) (h : DataW.Trod enc Tryd.prog w base (fun _ => true) held 42 v d p) :
    ∃ (xs : List (Int × Int)) (pp : Option Addr) (cap : Nat), v = .slice pp xs.length cap ∧ xs.length ≤ cap ∧ cap ≤ maxLen ∧ AsksIn w pp xs := by
  obtain ⟨a0, len, cap, rfl⟩ := okWide_slice Tryd.underlying42 hv
  obtain ⟨fuel, hf⟩ := h
  have hc : Tryd.prog.cellsOf 48 = 2 := by kernel_rfl
  rcases DataW.trod_slice Tryd.underlying42 hf with ⟨hcs, _⟩ | ⟨a, len', cap', elems, rest, n, _, hcs, _, _, hl, hm, hlen, hel, _, _⟩
  · simp [Value.cells] at hcs
    obtain ⟨rfl, rfl, rfl⟩ := hcs
    exact ⟨[], none, 0, rfl, by simp, by unfold maxLen; omega, fun i z hz => by simp at hz⟩
  · simp [Value.cells] at hcs
    obtain ⟨rfl, rfl, rfl⟩ := hcs
    rw [hc] at hel
    obtain ⟨xs, hxl, hx⟩ := list_of (P := fun i (x : Int × Int) => w.cell? ((a.add (i * 2)).add 0) = some (.int .i64 x.1) ∧ w.cell? ((a.add (i * 2)).add 1) = some (.int .i64 x.2)) len (fun i hi => by
      have he := hel i hi
      rw [show elems[i]? = some (elems[i]'(by omega)) from List.getElem?_eq_getElem (by omega), Option.bind_eq_some_iff] at he
      obtain ⟨cs, h1, h2⟩ := he
      obtain ⟨x, rfl⟩ := open_ask h2
      obtain ⟨_, _, h5⟩ := World.cells?_some h1
      exact ⟨x, h5 0 (by omega), h5 1 (by omega)⟩)
    refine ⟨xs, some a, cap, by rw [hxl], by omega, hm, fun i x hi => ?_⟩
    obtain ⟨h2, h3⟩ := hx i x hi
    obtain ⟨b, off, spot⟩ := a
    have hspot : spot = none := by
      have hi0 : 0 < xs.length := Nat.lt_of_le_of_lt (Nat.zero_le i) (List.getElem?_eq_some_iff.1 hi).1
      have := World.cell?_spot ((hx 0 (xs[0]'hi0) (List.getElem?_eq_getElem hi0)).1)
      simpa [Addr.add] using this
    subst hspot
    rw [add_plain, add_plain] at h2 h3
    exact ⟨b, off, rfl, h2, h3⟩
theorem AsksIn.grown {w w' : World} {pp : Option Addr} {xs : List (Int × Int)} (h : AsksIn w pp xs) (hb : Below w.heap.size w w') : AsksIn w' pp xs := fun i x hx => by
  obtain ⟨b, off, h1, h2, h3⟩ := h i x hx
  exact ⟨b, off, h1, (hb.cell (p := ⟨b, off + i * 2, none⟩) (World.block_lt_of_cell? w _ h2)).trans h2, (hb.cell (p := ⟨b, off + i * 2 + 1, none⟩) (World.block_lt_of_cell? w _ h3)).trans h3⟩
end
end Go.Proofs.YtpmhfoleafjlbaaDoor
