/-
  The program's functions of chapter 7, gathered: lessOk, timeOk, newOk (P1), seeOk, noneOk, nextOk (P2), greatestOk (P3). No conditions but those typed.
-/
import Derived.Test.YtlhilpmlffbnkaaStampP3
namespace Go.Proofs.Ytlhilpmlffbnkaa
open Go.RowKit StampMath
theorem prog7 : LessOk ∧ GreatestOk ∧ NewOk ∧ NextOk ∧ SeeOk ∧ TimeOk ∧ NoneOk := ⟨lessOk, greatestOk, newOk, nextOk, seeOk, timeOk, noneOk⟩
end Go.Proofs.Ytlhilpmlffbnkaa
