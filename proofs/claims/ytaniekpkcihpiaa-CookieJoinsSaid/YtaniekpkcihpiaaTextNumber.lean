/-
  The contracts of the program's own number, octet, alphanumeric of chapter 4. The condition: a byte.
-/
import Derived.Test.YtaniekpkcihpiaaTextStream
import Derived.Test.YtaniekpkcihpiaaTextAll
import Derived.Test.YtaniekpkcihpiaaProg
import Derived.WalkKit
import Derived.Handy
import Derived.Outline
import Derived.Lib.Hide
import Derived.Deep.LoopGhost
import Derived.Deep.RegionWith
import Derived.Lib.Strings
namespace Go.Proofs.Ytaniekpkcihpiaa
open Go.RowKit TextNat

/-- A byte's bounds. -/
theorem octetOk (c : Nat) (w : World) (hc : c < 256) : Calls Try.prog 25 #[.int .u8 (c : Int)] w fun e w' => e = .returned (.bool (TextMath.octet c)) ∧ w' = w := by
  go_enter Try.func25, Try.ntmps25
  go_wp2
  all_goals
    go_ret
    refine ⟨?_, rfl⟩
    show Ending.returned (Value.bool _) = Ending.returned (Value.bool _)
    congr 2
    unfold TextMath.octet
    rw [Bool.eq_iff_iff]
    simp
    (try simp only [beq_iff_eq, beq_eq_false_iff_ne, ne_eq] at *)
    omega

theorem alphanumericOk (c : Nat) (w : World) (hc : c < 256) : Calls Try.prog 23 #[.int .u8 (c : Int)] w fun e w' => e = .returned (.bool (baseOctet c)) ∧ w' = w := by
  go_enter Try.func23, Try.ntmps23
  go_wp2
  all_goals
    go_ret
    refine ⟨?_, rfl⟩
    show Ending.returned (Value.bool _) = Ending.returned (Value.bool _)
    congr 2
    unfold baseOctet
    rw [Bool.eq_iff_iff]
    simp
    (try simp only [beq_iff_eq, beq_eq_false_iff_ne, ne_eq] at *)
    omega
end Go.Proofs.Ytaniekpkcihpiaa
