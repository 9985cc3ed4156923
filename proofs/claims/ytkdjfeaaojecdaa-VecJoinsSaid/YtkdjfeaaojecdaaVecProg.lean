/-
  The seven contracts of the program's functions of chapter 6: gathered. No conditions.
-/
import Derived.Test.YtkdjfeaaojecdaaVecPJoin
namespace Go.Proofs.Ytkdjfeaaojecdaa
theorem vec_done : AtOk ∧ TrimOk ∧ WithOk ∧ JoinOk ∧ LeastOk ∧ CoversOk ∧ RelOk := ⟨atOk, trimOk, withOk, joinOk, leastOk, coversOk, relOk⟩
end Go.Proofs.Ytkdjfeaaojecdaa
