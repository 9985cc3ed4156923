/-
  A slice of ints that came in as an argument: what its cells are. No program is run here.
-/
import Derived.Test.YthafeccfcnmefaaDoorOpenBase
namespace Go.Proofs.YthafeccfcnmefaaDoor
open Go.RowKit Go.ChangeShapes Go.WideShapes
section
variable {H : Type} {enc : TypeId × Value → H} {w : World} {base : Nat} {held : Bool}
theorem ints_in {r : Reach} {b0 : Nat} {v : Value} {d : DataW H} {p : List MemPlace} (hv : Value.okWide Tryd.prog w r b0 40 v) (h : DataW.Trod enc Tryd.prog w base (fun _ => true) held 40 v d p) :
    ∃ (zs : List Int) (pp : Option Addr) (cap : Nat), v = .slice pp zs.length cap ∧ zs.length ≤ maxLen ∧ Ints w pp zs := by
  obtain ⟨a0, len, cap, rfl⟩ := okWide_slice Tryd.underlying40 hv
  obtain ⟨fuel, hf⟩ := h
  obtain ⟨pp, zs, cap', hx, h1, h2⟩ := cell_ints Tryd.underlying40 Tryd.underlying3 (by kernel_rfl) hf
  exact ⟨zs, pp, cap', by simpa [Value.cells] using hx, h1, h2⟩
end
end Go.Proofs.YthafeccfcnmefaaDoor
