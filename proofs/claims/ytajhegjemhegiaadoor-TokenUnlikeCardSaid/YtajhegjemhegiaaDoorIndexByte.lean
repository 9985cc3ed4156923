/-
  The library's own contract for strings.IndexByte at this program's numbers. No conditions.
-/
import Derived.Shelf.Small.Strs
import Derived.Test.YtajhegjemhegiaaDoorProg
namespace Go.Proofs.YtajhegjemhegiaaDoor
open Go.Shelf
end Go.Proofs.YtajhegjemhegiaaDoor
