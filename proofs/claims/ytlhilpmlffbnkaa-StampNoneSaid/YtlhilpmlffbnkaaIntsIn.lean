/-
  A slice of ints that came in as an argument: what its cells are. No program is run here.
-/
import Derived.Test.YtlhilpmlffbnkaaOpenBase
namespace Go.Proofs.Ytlhilpmlffbnkaa
open Go.RowKit Go.ChangeShapes Go.WideShapes
section
variable {H : Type} {enc : TypeId × Value → H} {w : World} {base : Nat} {held : Bool}
theorem ints_in {r : Reach} {b0 : Nat} {v : Value} {d : DataW H} {p : List MemPlace} (hv : Value.okWide Try.prog w r b0 31 v) (h : DataW.Trod enc Try.prog w base (fun _ => true) held 31 v d p) :
    ∃ (zs : List Int) (pp : Option Addr) (cap : Nat), v = .slice pp zs.length cap ∧ zs.length ≤ maxLen ∧ Ints w pp zs := by
  obtain ⟨a0, len, cap, rfl⟩ := okWide_slice Try.underlying31 hv
  obtain ⟨fuel, hf⟩ := h
  obtain ⟨pp, zs, cap', hx, h1, h2⟩ := cell_ints Try.underlying31 Try.underlying3 (by kernel_rfl) hf
  exact ⟨zs, pp, cap', by simpa [Value.cells] using hx, h1, h2⟩
end
end Go.Proofs.Ytlhilpmlffbnkaa
