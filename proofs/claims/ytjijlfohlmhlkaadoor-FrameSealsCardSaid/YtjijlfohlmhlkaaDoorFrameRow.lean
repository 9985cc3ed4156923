/-
  A row of bytes that []byte(s) made: its cells, a store into it, as a text. No conditions but those typed.
-/
import Derived.Test.YtjijlfohlmhlkaaDoorMark
import Derived.Test.YtjijlfohlmhlkaaDoorGrow
namespace Go.Proofs.YtjijlfohlmhlkaaDoor
open Go.RowKit TextNat

/-- The bytes l lie in block g, from its first cell on; the mark, if there is one, lies outside. -/
def Row8 (w : World) (g : Nat) (l : List Nat) : Prop := ∃ (cur : Array Value) (T : TypeId) (fr : Nat × Nat), w.heap[g]? = some (.cells cur T fr) ∧ (fr.2 = 0 ∨ cur.size ≤ fr.1) ∧ cur.toList.take l.length = byteVals l
theorem Row8.of {w : World} {base g cap : Nat} {e : TypeId} {l : List Nat} (h : OwnsM w base e (.slice (some ⟨g, 0, none⟩) l.length cap) l.length (byteVals l)) : Row8 w g l := by
  rcases h.2 with ⟨h1, _⟩ | ⟨g', cap', cur, lo, hi, he, _, hg, hm, _, _, _, ht⟩
  · cases h1
  · simp only [Value.slice.injEq, Option.some.injEq, Addr.mk.injEq] at he
    obtain ⟨⟨rfl, _⟩, _⟩ := he
    exact ⟨cur, e, (lo, hi), hg, hm, ht⟩
theorem Row8.cell {w : World} {g : Nat} {l : List Nat} (h : Row8 w g l) {j z : Nat} (hz : l[j]? = some z) : w.cell? ⟨g, j, none⟩ = some (.int .u8 (z : Int)) := by
  obtain ⟨cur, T, fr, hg, _, ht⟩ := h
  have hj : j < l.length := (List.getElem?_eq_some_iff.1 hz).1
  rw [cell_of_row w g j cur T fr hg]
  have := congrArg (fun k : List Value => k[j]?) ht
  simp only [List.getElem?_take, if_pos hj, Array.getElem?_toList] at this
  rw [this]
  unfold byteVals
  rw [List.getElem?_map, hz]
  rfl
theorem Row8.free {w : World} {g : Nat} {l : List Nat} (h : Row8 w g l) {j : Nat} (hj : j < l.length) : w.frozen? ⟨g, j, none⟩ = false := by
  obtain ⟨cur, T, fr, hg, hm, ht⟩ := h
  have hl := congrArg List.length ht
  rw [List.length_take] at hl
  unfold byteVals at hl
  rw [List.length_map] at hl
  have hs : cur.toList.length = cur.size := Array.length_toList
  simp only [World.frozen?, hg]
  rcases hm with h | h
  · simp [h]
  · simp
    omega
theorem Row8.set {w : World} {g : Nat} {l : List Nat} (h : Row8 w g l) (i z : Nat) : Row8 (w.setCell ⟨g, i, none⟩ (.int .u8 (z : Int))) g (l.set i z) := by
  obtain ⟨cur, T, fr, hg, hm, ht⟩ := h
  refine ⟨cur.setIfInBounds i (.int .u8 (z : Int)), T, fr, by simp [World.setCell, Array.getElem?_modify, hg], by simpa using hm, ?_⟩
  rw [List.length_set, Array.toList_setIfInBounds, List.take_set, ht]
  unfold byteVals
  rw [List.map_set]
theorem Row8.lt {w : World} {g : Nat} {l : List Nat} (h : Row8 w g l) : g < w.heap.size := by
  obtain ⟨cur, T, fr, hg, _⟩ := h
  exact (Array.getElem?_eq_some_iff.1 hg).1
theorem Row8.below {w w' : World} {g : Nat} {l : List Nat} (h : Row8 w g l) (hb : Below w.heap.size w w') : Row8 w' g l := by
  have hl := h.lt
  obtain ⟨cur, T, fr, hg, hm, ht⟩ := h
  exact ⟨cur, T, fr, (hb.block g hl).trans hg, hm, ht⟩
theorem Row8.text {w : World} {g : Nat} {l : List Nat} (h : Row8 w g l) (hl : ∀ b ∈ l, b < 256) (cap : Nat) :
    (convert 36 9 (.slice (some ⟨g, 0, none⟩) l.length cap)).run Tryd.prog w = .ok (.string (txt l)) w :=
  text_row w g cap l hl (fun j hj => by
    rw [h.cell (List.getElem?_eq_getElem hj), natVals_at, List.getElem?_eq_getElem hj]
    rfl)
end Go.Proofs.YtjijlfohlmhlkaaDoor
