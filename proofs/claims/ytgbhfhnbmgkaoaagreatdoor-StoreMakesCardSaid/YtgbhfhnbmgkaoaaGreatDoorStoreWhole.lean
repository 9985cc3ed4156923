/-
  The program's functions of chapter 16, gathered. No conditions but those typed.
-/
import Derived.Test.YtgbhfhnbmgkaoaaGreatDoorNest7
import Derived.Test.YtgbhfhnbmgkaoaaGreatDoorNest10
import Derived.Test.YtgbhfhnbmgkaoaaGreatDoorNest13
import Derived.Test.YtgbhfhnbmgkaoaaGreatDoorNest14
import Derived.Test.YtgbhfhnbmgkaoaaGreatDoorNest15
namespace Go.Proofs.YtgbhfhnbmgkaoaaGreatDoor
open Go.RowKit TextNat RegMath
theorem store16 : Store16 sto16 := ⟨new16, apply16, get16, head16, keys16, livesAll16, rows16s, shows16s⟩
end Go.Proofs.YtgbhfhnbmgkaoaaGreatDoor
