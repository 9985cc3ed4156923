/-
  The contracts of the document's own octet, Octets, Token, Trim of chapter 4. The condition: texts of at most 20,000 bytes.
-/
import Derived.Test.YtaniekpkcihpiaaProg
import Derived.Test.YtaniekpkcihpiaaTextAll
import Derived.WalkKit
import Derived.Handy
import Derived.Outline
import Derived.Lib.Hide
import Derived.Deep.LoopGhost
import Derived.Deep.RegionWith
import Derived.Lib.Strings
namespace Go.Proofs.Ytaniekpkcihpiaa
open Go.RowKit TextNat

end Go.Proofs.Ytaniekpkcihpiaa
