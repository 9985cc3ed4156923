/-
  Texts of one claim, merged.
  WireRefRight: The contract of the document's own RightWrite of chapter 5. The conditions: the vector's cells.
  WireRefRightC: The contract of the document's own RightClaims of chapter 5. The conditions: the vector's cells.
  RefLetter: The contract of the document's own letter of chapter 4. The condition: a number below 64.
-/
import Derived.Test.YtajhegjemhegiaaGreatDoorPart17
import Derived.Test.YtajhegjemhegiaaGreatDoorPart22
import Derived.Test.YtajhegjemhegiaaGreatDoorPart18
import Derived.Test.YtajhegjemhegiaaGreatDoorProg
import Derived.Test.YtajhegjemhegiaaGreatDoorPart08
import Derived.Test.YtajhegjemhegiaaGreatDoorPart01
import Derived.WalkKit
import Derived.Handy
import Derived.Outline
import Derived.Lib.Hide
import Derived.Deep.LoopGhost
import Derived.Deep.RegionWith
import Derived.Lib.Strings
namespace Go.Proofs.YtajhegjemhegiaaGreatDoor
open Go.RowKit TextNat

theorem inr_false {n a b : Int} : inr n a b = false ↔ n < a ∨ b < n := by rw [← Bool.not_eq_true, inr_iff]; omega
theorem refBetween (n a : Int) (w : World) : Calls Tryz.prog 46 #[.int .i64 n, .int .i64 a] w fun e w' => e = .returned (.bool (inr n a 1099511627776)) ∧ w' = w := by
  by_cases h1 : a ≤ n
  · by_cases h2 : n ≤ 1099511627776
    · rw [inr_true ⟨h1, h2⟩]
      have t1 : decide (a ≤ n) = true := decide_eq_true h1
      have t2 : decide (n ≤ 1099511627776) = true := decide_eq_true h2
      go_enter Tryz.func46, Tryz.ntmps46
      go_wp2
      go_ret
      exact ⟨rfl, rfl⟩
    · have hf : inr n a 1099511627776 = false := by unfold inr; rw [decide_eq_false h2, Bool.and_false]
      rw [hf]
      have t1 : decide (a ≤ n) = true := decide_eq_true h1
      have t2 : decide (n ≤ 1099511627776) = false := decide_eq_false h2
      go_enter Tryz.func46, Tryz.ntmps46
      go_wp2
      go_ret
      exact ⟨rfl, rfl⟩
  · have hf : inr n a 1099511627776 = false := by unfold inr; rw [decide_eq_false h1, Bool.false_and]
    rw [hf]
    have t1 : decide (a ≤ n) = false := decide_eq_false h1
    go_enter Tryz.func46, Tryz.ntmps46
    go_wp2
    go_ret
    exact ⟨rfl, rfl⟩

end Go.Proofs.YtajhegjemhegiaaGreatDoor
namespace Go.Proofs.YtajhegjemhegiaaGreatDoor
open Go.RowKit TextNat

set_option maxRecDepth 100000 in
set_option maxHeartbeats 4000000 in
theorem refRightClaims (x : ClaimsV) (w : World) (hz : Ints w x.cp x.cl) (hl : x.cl.length ≤ 9223372036854775807) :
    Calls Tryz.prog 25 #[x.val] w fun e w' => e = .returned (.bool x.right) ∧ Below w.heap.size w w' := by
  have HV := Lib.hid (fun w1 (h : Below w.heap.size w w1) => refTrimmed x.cl x.cp x.cc 1099511627776 w1 (hz.grown h) hl)
  have HW := Lib.hid (fun n a w => refBetween n a w)
  obtain ⟨session, user, epoch, issue, key, cp, cl, cc⟩ := x
  simp only [ClaimsV.val] at *
  clear hz hl
  have HIff := Lib.hid (show (ClaimsV.mk session user epoch issue key cp cl cc).right = (inr (session.size : Int) 1 64 && (inr (user.size : Int) 1 32 && (inr epoch 0 1099511627776 && (inr issue 0 1099511627776 && (inr key 0 1099511627776 && WireMath.trimmed cl 1099511627776))))) from rfl)
  go_enter Tryz.func25, Tryz.ntmps25
  go_wp2_with (first
    | (go_at_call 46; refine (HW.out _ _ _).mono ?_; rintro e w3 ⟨rfl, rfl⟩)
    | (go_at_call 47; refine (HV.out _ ((Below.refl _ _).alloc (Nat.le_refl _) _)).mono ?_; rintro e w3 ⟨rfl, rfl⟩))
  all_goals
    have hI := HIff.out
    clear HV HW HIff
    go_ret
    refine ⟨?_, (Below.refl _ _).alloc (Nat.le_refl _) _⟩
    show Ending.returned (Value.bool _) = Ending.returned (Value.bool _)
    congr 2
    rw [hI]
    clear hI
    first
      | (rw [inr_true (n := (session.size : Int)) (by omega), inr_true (n := (user.size : Int)) (by omega)]; simp [*]; done)
      | (rw [inr_true (n := (session.size : Int)) (by omega), inr_false.2 (show (user.size : Int) < 1 ∨ (32 : Int) < (user.size : Int) by omega)]; simp; done)
      | (rw [inr_false.2 (show (session.size : Int) < 1 ∨ (64 : Int) < (session.size : Int) by omega)]; simp; done)
end Go.Proofs.YtajhegjemhegiaaGreatDoor
namespace Go.Proofs.YtajhegjemhegiaaGreatDoor
open Go.RowKit TextNat

theorem refLetter (n : Nat) (w : World) (h : n < 64) : Calls Tryz.prog 49 #[.int .i64 (n : Int)] w fun e w' => e = .returned (.int .u8 (TextMath.letter n : Nat)) ∧ w' = w := by
  by_cases h1 : n < 26
  · have hl : TextMath.letter n = 65 + n := by unfold TextMath.letter; rw [if_pos h1]
    have t1 : decide ((n : Int) < 26) = true := decide_eq_true (by omega)
    have t1' : decide (n < 26) = true := decide_eq_true h1
    have e : IntKind.u8.wrap (65 + (n : Int)) = ((65 + n : Nat) : Int) := by rw [IntKind.wrap_u8]; omega
    rw [hl]
    go_enter Tryz.func49, Tryz.ntmps49
    go_wp2
    go_ret
    exact ⟨rfl, rfl⟩
  · have t1 : decide ((n : Int) < 26) = false := decide_eq_false (by omega)
    have t1' : decide (n < 26) = false := decide_eq_false h1
    by_cases h2 : n < 52
    · have hl : TextMath.letter n = 71 + n := by unfold TextMath.letter; rw [if_neg h1, if_pos h2]
      have t2 : decide ((n : Int) < 52) = true := decide_eq_true (by omega)
      have t2' : decide (n < 52) = true := decide_eq_true h2
      have e : IntKind.u8.wrap (97 + (n : Int) - 26) = ((71 + n : Nat) : Int) := by rw [IntKind.wrap_u8]; omega
      rw [hl]
      go_enter Tryz.func49, Tryz.ntmps49
      go_wp2
      go_ret
      exact ⟨rfl, rfl⟩
    · have t2 : decide ((n : Int) < 52) = false := decide_eq_false (by omega)
      have t2' : decide (n < 52) = false := decide_eq_false h2
      by_cases h3 : n < 62
      · have hl : TextMath.letter n = n - 4 := by unfold TextMath.letter; rw [if_neg h1, if_neg h2, if_pos h3]
        have t3 : decide ((n : Int) < 62) = true := decide_eq_true (by omega)
        have t3' : decide (n < 62) = true := decide_eq_true h3
        have e : IntKind.u8.wrap (48 + (n : Int) - 52) = ((n - 4 : Nat) : Int) := by rw [IntKind.wrap_u8]; omega
        rw [hl]
        go_enter Tryz.func49, Tryz.ntmps49
        go_wp2
        go_ret
        exact ⟨rfl, rfl⟩
      · have t3 : decide ((n : Int) < 62) = false := decide_eq_false (by omega)
        have t3' : decide (n < 62) = false := decide_eq_false h3
        by_cases h4 : n = 62
        · subst h4
          go_enter Tryz.func49, Tryz.ntmps49
          go_wp2
          go_ret
          exact ⟨rfl, rfl⟩
        · obtain rfl : n = 63 := by omega
          go_enter Tryz.func49, Tryz.ntmps49
          go_wp2
          go_ret
          exact ⟨rfl, rfl⟩
end Go.Proofs.YtajhegjemhegiaaGreatDoor
