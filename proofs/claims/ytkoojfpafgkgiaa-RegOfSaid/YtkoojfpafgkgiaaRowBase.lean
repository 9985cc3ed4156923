/-
  What each row that lists no variable begins with: a world to begin in, the bound on a text that came in. No conditions.
-/
import Derived.Test.YtkoojfpafgkgiaaLawRow
import Derived.Test.YtkoojfpafgkgiaaRows
import Derived.SevenTiedAt
import Derived.ChangeMaps5
namespace Go.Proofs.Ytkoojfpafgkgiaa
open Go.ChangeShapes Go.WideShapes Go.RowKit Go.ChangeMaps

theorem ownNone : ownKnob Try.prog.godebug = none := by kernel_rfl
theorem small_text {n : Nat} (h : n ≤ maxLen) : n ≤ 9223372036854775807 := by unfold maxLen at h; omega
noncomputable def plainWorld (os : Os) : World := World.holding Try.prog os ⟨#[], #[], []⟩
end Go.Proofs.Ytkoojfpafgkgiaa
