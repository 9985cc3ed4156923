/-
  The contracts of chapter 9's program, gathered: sealOk (FrameP4), openOk, findOk (FrameP7). The conditions are typed there.
-/
import Derived.Test.YtajkldmpllphjaaDoorFrameP7
namespace Go.Proofs.YtajkldmpllphjaaDoor
theorem frameThree : SealOk ∧ OpenOk ∧ FindOk := ⟨sealOk, openOk, findOk⟩
end Go.Proofs.YtajkldmpllphjaaDoor
