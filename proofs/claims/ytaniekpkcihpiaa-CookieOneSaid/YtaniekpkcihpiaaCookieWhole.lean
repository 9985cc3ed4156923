/-
  The contracts of the program's functions of chapter 13, whole. No conditions but those typed.
-/
import Derived.Test.YtaniekpkcihpiaaCookieP3
import Derived.Test.YtaniekpkcihpiaaCookieP4
import Derived.Test.YtaniekpkcihpiaaCookieP5
import Derived.Test.YtaniekpkcihpiaaCookieP6
namespace Go.Proofs.Ytaniekpkcihpiaa
theorem parseOk : ParseOk := parse_prog ck_clone one_token one_octets
theorem findOk : FindOk := find_prog parseOk
end Go.Proofs.Ytaniekpkcihpiaa
