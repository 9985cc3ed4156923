/-
  BakeParses' contract. The conditions: the program's contracts.
-/
import Derived.Test.YtlgofepmdjlpgaaDoorPart18
import Derived.Test.YtlgofepmdjlpgaaDoorBakeRefParse
namespace Go.Proofs.YtlgofepmdjlpgaaDoor
open Go.RowKit TextNat BakeMath

theorem zero_val : zeroK.val = .agg #[.string ⟨#[]⟩, .string ⟨#[]⟩, .string ⟨#[]⟩, .int .i64 0, .bool false, .bool false, .int .i64 0] := rfl
end Go.Proofs.YtlgofepmdjlpgaaDoor
