/-
  The contract of the document's own letter of chapter 4. The condition: a number below 64.
-/
import Derived.Test.YtfophdombipemaaDoorProg
import Derived.Test.YtfophdombipemaaDoorTextMath
import Derived.Test.YtfophdombipemaaDoorText
import Derived.WalkKit
import Derived.Handy
import Derived.Outline
import Derived.Lib.Hide
import Derived.Deep.LoopGhost
import Derived.Deep.RegionWith
import Derived.Lib.Strings
namespace Go.Proofs.YtfophdombipemaaDoor
open Go.RowKit TextNat

theorem refLetter (n : Nat) (w : World) (h : n < 64) : Calls Tryd.prog 38 #[.int .i64 (n : Int)] w fun e w' => e = .returned (.int .u8 (TextMath.letter n : Nat)) ∧ w' = w := by
  by_cases h1 : n < 26
  · have hl : TextMath.letter n = 65 + n := by unfold TextMath.letter; rw [if_pos h1]
    have t1 : decide ((n : Int) < 26) = true := decide_eq_true (by omega)
    have t1' : decide (n < 26) = true := decide_eq_true h1
    have e : IntKind.u8.wrap (65 + (n : Int)) = ((65 + n : Nat) : Int) := by rw [IntKind.wrap_u8]; omega
    rw [hl]
    go_enter Tryd.func38, Tryd.ntmps38
    go_wp2
    go_ret
    exact ⟨rfl, rfl⟩
  · have t1 : decide ((n : Int) < 26) = false := decide_eq_false (by omega)
    have t1' : decide (n < 26) = false := decide_eq_false h1
    by_cases h2 : n < 52
    · have hl : TextMath.letter n = 71 + n := by unfold TextMath.letter; rw [if_neg h1, if_pos h2]
      have t2 : decide ((n : Int) < 52) = true := decide_eq_true (by omega)
      have t2' : decide (n < 52) = true := decide_eq_true h2
      have e : IntKind.u8.wrap (97 + (n : Int) - 26) = ((71 + n : Nat) : Int) := by rw [IntKind.wrap_u8]; omega
      rw [hl]
      go_enter Tryd.func38, Tryd.ntmps38
      go_wp2
      go_ret
      exact ⟨rfl, rfl⟩
    · have t2 : decide ((n : Int) < 52) = false := decide_eq_false (by omega)
      have t2' : decide (n < 52) = false := decide_eq_false h2
      by_cases h3 : n < 62
      · have hl : TextMath.letter n = n - 4 := by unfold TextMath.letter; rw [if_neg h1, if_neg h2, if_pos h3]
        have t3 : decide ((n : Int) < 62) = true := decide_eq_true (by omega)
        have t3' : decide (n < 62) = true := decide_eq_true h3
        have e : IntKind.u8.wrap (48 + (n : Int) - 52) = ((n - 4 : Nat) : Int) := by rw [IntKind.wrap_u8]; omega
        rw [hl]
        go_enter Tryd.func38, Tryd.ntmps38
        go_wp2
        go_ret
        exact ⟨rfl, rfl⟩
      · have t3 : decide ((n : Int) < 62) = false := decide_eq_false (by omega)
        have t3' : decide (n < 62) = false := decide_eq_false h3
        by_cases h4 : n = 62
        · subst h4
          go_enter Tryd.func38, Tryd.ntmps38
          go_wp2
          go_ret
          exact ⟨rfl, rfl⟩
        · obtain rfl : n = 63 := by omega
          go_enter Tryd.func38, Tryd.ntmps38
          go_wp2
          go_ret
          exact ⟨rfl, rfl⟩
end Go.Proofs.YtfophdombipemaaDoor
