/-
  A slice of ints in memory: what its cells hold, and that they stay. No program is run here.
-/
import Derived.Test.YtkoojfpafgkgiaaProg
import Derived.WalkKit
import Derived.Handy
import Derived.Outline
import Derived.WideLaws
namespace Go.Proofs.Ytkoojfpafgkgiaa
open Go.RowKit

/-- The ints 'zs' stand from the address 'pp' on. -/
def Ints (w : World) (pp : Option Addr) (zs : List Int) : Prop := ∀ (i : Nat) (z : Int), zs[i]? = some z → (-9223372036854775808 ≤ z ∧ z ≤ 9223372036854775807) ∧ ∃ b off, pp = some ⟨b, off, none⟩ ∧ w.cell? ⟨b, off + i, none⟩ = some (.int .i64 z)
theorem Ints.grown {w w' : World} {pp : Option Addr} {zs : List Int} (h : Ints w pp zs) (hb : Below w.heap.size w w') : Ints w' pp zs := fun i z hz => by
  obtain ⟨hr, b, off, hp, hc⟩ := h i z hz
  refine ⟨hr, b, off, hp, ?_⟩
  have hl : b < w.heap.size := by
    rcases Nat.lt_or_ge b w.heap.size with g | g
    · exact g
    · simp [World.cell?, Array.getElem?_eq_none g] at hc
  exact (hb.cell (p := ⟨b, off + i, none⟩) hl).trans hc
theorem Ints.drewN {w : World} {pp : Option Addr} {zs : List Int} (n : Nat) (h : Ints w pp zs) : Ints { w with drawn := w.drawn + n } pp zs := h
end Go.Proofs.Ytkoojfpafgkgiaa
