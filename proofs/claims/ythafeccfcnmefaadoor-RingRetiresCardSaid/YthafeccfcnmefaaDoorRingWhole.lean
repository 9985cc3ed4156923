/-
  The contracts of chapter 11's program, gathered. The conditions are typed there.
-/
import Derived.Test.YthafeccfcnmefaaDoorRingProg1
namespace Go.Proofs.YthafeccfcnmefaaDoor
theorem ringSix : RNewOk rng ∧ KeyOk rng ∧ AliveOk rng ∧ CurrentOk rng ∧ RaiseOk rng ∧ RNoneOk := ⟨rnewOk, keyOk, aliveOk, currentOk, raiseOk, rnoneOk⟩
end Go.Proofs.YthafeccfcnmefaaDoor
