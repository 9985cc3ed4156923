/-
  What an int may be. No program is run here.
-/
import Derived.Test.YtkoojfpafgkgiaaProg
namespace Go.Proofs.Ytkoojfpafgkgiaa
abbrev I64 (n : Int) : Prop := -9223372036854775808 ≤ n ∧ n ≤ 9223372036854775807
end Go.Proofs.Ytkoojfpafgkgiaa
