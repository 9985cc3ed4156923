/-
  The library's own contract for strings.IndexByte at this program's numbers. No conditions.
-/
import Derived.Shelf.Small.Strs
import Derived.Test.YtajhegjemhegiaaGreatDoorProg
namespace Go.Proofs.YtajhegjemhegiaaGreatDoor
open Go.Shelf
end Go.Proofs.YtajhegjemhegiaaGreatDoor
