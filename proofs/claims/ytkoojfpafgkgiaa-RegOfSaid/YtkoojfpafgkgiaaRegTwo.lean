/-
  Two cells in a new block. No program is run here.
-/
import Derived.Test.YtkoojfpafgkgiaaRegLaws
namespace Go.Proofs.Ytkoojfpafgkgiaa
open Go.RowKit TextNat RegMath

/-- Two cells in a new block. -/
def cells10 (a b : RegV) : List Value := a.cells ++ b.cells
theorem regs_two {w : World} {g : Nat} {T : TypeId} {a b : RegV} (h : Lies w g (cells10 a b) T) : RegsIn w (some ⟨g, 0, none⟩) [a, b] := fun i x hx => by
  have hi := (List.getElem?_eq_some_iff.1 hx).1
  match i, hi with
  | 0, _ =>
    obtain rfl : a = x := by simpa using hx
    exact ⟨g, 0, rfl, h.cell (i := 0) rfl, h.cell (i := 1) rfl, h.cell (i := 2) rfl, h.cell (i := 3) rfl, h.cell (i := 4) rfl⟩
  | 1, _ =>
    obtain rfl : b = x := by simpa using hx
    exact ⟨g, 0, rfl, h.cell (i := 5) rfl, h.cell (i := 6) rfl, h.cell (i := 7) rfl, h.cell (i := 8) rfl, h.cell (i := 9) rfl⟩
end Go.Proofs.Ytkoojfpafgkgiaa
