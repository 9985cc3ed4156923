/-
  For rows that the call itself makes, of bytes or of ints, over this program: what 'append' asks of the element's type, one new cell, a row of bytes as a text. No conditions but those typed.
-/
import Derived.Test.YtkoojfpafgkgiaaProg
import Derived.Test.YtkoojfpafgkgiaaArr
import Derived.Test.YtkoojfpafgkgiaaOwnBytes
import Derived.Test.YtkoojfpafgkgiaaMark
import Derived.Test.YtkoojfpafgkgiaaText
import Derived.WalkKit
import Derived.Handy
import Derived.Outline
import Derived.Lib.Hide
import Derived.Deep.LoopGhost
import Derived.Deep.RegionWith
import Derived.Deep.RegionLaw
import Derived.StillTailTactics
import Derived.BigQuiet
import Derived.Laws.IdiomStrings
import Derived.Test.YtkoojfpafgkgiaaBut
import Derived.Test.YtkoojfpafgkgiaaGrowInts
namespace Go.Proofs.Ytkoojfpafgkgiaa
open Go.RowKit TextNat

theorem info_byte : (Try.prog.info? 5).map (fun i => (i.zero, i.size, i.bytes)) = some (some (.int .u8 0), 1, 1) := by kernel_rfl
/-- Bytes in memory, as a text. -/
theorem text_row (w : World) (B cap : Nat) (D : List Nat) (hD : ∀ b ∈ D, b < 256) (hc : ∀ j, j < D.length → w.cell? ⟨B, j, none⟩ = (natVals .u8 D)[j]?) :
    (convert 46 9 (.slice (some ⟨B, 0, none⟩) D.length cap)).run Try.prog w = .ok (.string (txt D)) w := by
  have h := run_convert_bytes_back (P := Try.prog) w 46 9 5 ⟨B, 0, none⟩ cap (D.map UInt8.ofNat) Try.underlying46 Try.underlying5 Try.underlying9 (fun j hj => by
    have hj' : j < D.length := by simpa using hj
    rw [WideShapes.add_plain, Nat.zero_add, hc j hj', natVals_at, List.getElem?_eq_getElem hj']
    have hb := hD D[j] (List.getElem_mem hj')
    simp [Nat.mod_eq_of_lt hb])
  rw [List.length_map] at h
  exact h
end Go.Proofs.Ytkoojfpafgkgiaa
