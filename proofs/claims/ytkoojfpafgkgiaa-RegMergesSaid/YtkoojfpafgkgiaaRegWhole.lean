/-
  The program's functions of chapter 15, gathered: aboveOk, visibleOk (P1), ofOk, mergeOk (P2), and the laws' example. No conditions but those typed.
-/
import Derived.Test.YtkoojfpafgkgiaaRegP2
import Derived.Test.YtkoojfpafgkgiaaRegAwake
namespace Go.Proofs.Ytkoojfpafgkgiaa
open Go.RowKit TextNat RegMath
theorem awakeOk : AwakeOk := awake15 mergeOk visibleOk
theorem prog15 : AboveOk ∧ MergeOk ∧ VisibleOk ∧ OfOk ∧ AwakeOk := ⟨aboveOk, mergeOk, visibleOk, ofOk, awakeOk⟩
end Go.Proofs.Ytkoojfpafgkgiaa
