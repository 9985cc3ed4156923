/-
  The contracts of the program's own number, octet, alphanumeric of chapter 4. The condition: a byte.
-/
import Derived.Test.YtfophdombipemaaDoorTextStream
import Derived.Test.YtfophdombipemaaDoorTextAll
import Derived.Test.YtfophdombipemaaDoorProg
import Derived.WalkKit
import Derived.Handy
import Derived.Outline
import Derived.Lib.Hide
import Derived.Deep.LoopGhost
import Derived.Deep.RegionWith
import Derived.Lib.Strings
namespace Go.Proofs.YtfophdombipemaaDoor
open Go.RowKit TextNat

theorem numberOk (c : Nat) (w : World) (hc : c < 256) : Calls Tryd.prog 20 #[.int .u8 (c : Int)] w fun e w' => e = .returned (.int .u32 (TextMath.number c : Int)) ∧ w' = w := by
  go_enter Tryd.func20, Tryd.ntmps20
  go_wp2
  all_goals
    go_ret
    refine ⟨?_, rfl⟩
    rw [TextMath.number_by c hc]
    show Ending.returned (Value.int _ _) = Ending.returned (Value.int _ _)
    congr 2
    unfold TextMath.numberBy
    repeat' split
    all_goals (try simp only [beq_iff_eq, beq_eq_false_iff_ne, ne_eq] at *)
    all_goals omega

/-- A byte's bounds. -/
theorem octetOk (c : Nat) (w : World) (hc : c < 256) : Calls Tryd.prog 32 #[.int .u8 (c : Int)] w fun e w' => e = .returned (.bool (TextMath.octet c)) ∧ w' = w := by
  go_enter Tryd.func32, Tryd.ntmps32
  go_wp2
  all_goals
    go_ret
    refine ⟨?_, rfl⟩
    show Ending.returned (Value.bool _) = Ending.returned (Value.bool _)
    congr 2
    unfold TextMath.octet
    rw [Bool.eq_iff_iff]
    simp
    (try simp only [beq_iff_eq, beq_eq_false_iff_ne, ne_eq] at *)
    omega

theorem alphanumericOk (c : Nat) (w : World) (hc : c < 256) : Calls Tryd.prog 34 #[.int .u8 (c : Int)] w fun e w' => e = .returned (.bool (baseOctet c)) ∧ w' = w := by
  go_enter Tryd.func34, Tryd.ntmps34
  go_wp2
  all_goals
    go_ret
    refine ⟨?_, rfl⟩
    show Ending.returned (Value.bool _) = Ending.returned (Value.bool _)
    congr 2
    unfold baseOctet
    rw [Bool.eq_iff_iff]
    simp
    (try simp only [beq_iff_eq, beq_eq_false_iff_ne, ne_eq] at *)
    omega
end Go.Proofs.YtfophdombipemaaDoor
