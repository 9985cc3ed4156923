/-
  Texts of one claim, merged.
  TextNumber: The contracts of the program's own number, octet, alphanumeric of chapter 4. The condition: a byte.
  TextFault: Plain mathematics of chapter 4: the last letter's bits that stand for nothing. No program, no conditions but those typed.
-/
import Derived.Test.YtajhegjemhegiaaDoorPart24
import Derived.Test.YtajhegjemhegiaaDoorProg
import Derived.WalkKit
import Derived.Handy
import Derived.Outline
import Derived.Lib.Hide
import Derived.Deep.LoopGhost
import Derived.Deep.RegionWith
import Derived.Lib.Strings
import Derived.Test.YtajhegjemhegiaaDoorPart09
namespace Go.Proofs.YtajhegjemhegiaaDoor
open Go.RowKit TextNat

theorem numberOk (c : Nat) (w : World) (hc : c < 256) : Calls Tryd.prog 50 #[.int .u8 (c : Int)] w fun e w' => e = .returned (.int .u32 (TextMath.number c : Int)) ∧ w' = w := by
  go_enter Tryd.func50, Tryd.ntmps50
  go_wp2
  all_goals
    go_ret
    refine ⟨?_, rfl⟩
    rw [TextMath.number_by c hc]
    show Ending.returned (Value.int _ _) = Ending.returned (Value.int _ _)
    congr 2
    unfold TextMath.numberBy
    repeat' split
    all_goals (try simp only [beq_iff_eq, beq_eq_false_iff_ne, ne_eq] at *)
    all_goals omega

end Go.Proofs.YtajhegjemhegiaaDoor
namespace TextMath

theorem fault_zero {l : List Nat} (hlt : ∀ j y : Nat, l[j]? = some y → number y < 64) (h : l.length % 4 = 0) : fault l = none := by
  refine fault_none hlt (by omega) (fun t z ht hz => ?_)
  have h1 := (List.getElem?_eq_some_iff.1 hz).1
  rw [decBits_len] at h1
  omega
theorem fault_two {l : List Nat} (hlt : ∀ j y : Nat, l[j]? = some y → number y < 64) (h : l.length % 4 = 2) {y : Nat} (hy : l[l.length - 1]? = some y) : fault l = if number y % 16 = 0 then none else some (l.length - 1) := by
  have hat : ∀ q : Nat, q < 6 → (decBits l)[6 * (l.length - 1) + q]? = some (number y / 2 ^ (5 - q) % 2) := fun q hq => decBits_at l _ q y hq hy
  by_cases h0 : number y % 16 = 0
  · rw [if_pos h0]
    refine fault_none hlt (by omega) (fun t z ht hz => ?_)
    have h1 := (List.getElem?_eq_some_iff.1 hz).1
    rw [decBits_len] at h1
    obtain ⟨q, rfl⟩ : ∃ q, t = 6 * (l.length - 1) + q := ⟨t - 6 * (l.length - 1), by omega⟩
    have hq : q = 2 ∨ q = 3 ∨ q = 4 ∨ q = 5 := by omega
    have hz2 := hat q (by omega)
    rw [hz] at hz2
    have hz3 := Option.some.inj hz2
    rcases hq with rfl | rfl | rfl | rfl <;> simp only [Nat.reduceSub, Nat.reducePow] at hz3 <;> omega
  · rw [if_neg h0]
    have go : ∀ q : Nat, 2 ≤ q → q < 6 → number y / 2 ^ (5 - q) % 2 ≠ 0 → fault l = some (l.length - 1) := fun q h2 h6 hne =>
      fault_bits hlt (by omega) (t := 6 * (l.length - 1) + q) (by omega) (hat q h6) hne
    by_cases b2 : number y / 8 % 2 = 0
    · by_cases b3 : number y / 4 % 2 = 0
      · by_cases b4 : number y / 2 % 2 = 0
        · exact go 5 (by decide) (by decide) (by simp only [Nat.reduceSub, Nat.reducePow]; omega)
        · exact go 4 (by decide) (by decide) b4
      · exact go 3 (by decide) (by decide) b3
    · exact go 2 (by decide) (by decide) b2
theorem fault_three {l : List Nat} (hlt : ∀ j y : Nat, l[j]? = some y → number y < 64) (h : l.length % 4 = 3) {y : Nat} (hy : l[l.length - 1]? = some y) : fault l = if number y % 4 = 0 then none else some (l.length - 1) := by
  have hat : ∀ q : Nat, q < 6 → (decBits l)[6 * (l.length - 1) + q]? = some (number y / 2 ^ (5 - q) % 2) := fun q hq => decBits_at l _ q y hq hy
  by_cases h0 : number y % 4 = 0
  · rw [if_pos h0]
    refine fault_none hlt (by omega) (fun t z ht hz => ?_)
    have h1 := (List.getElem?_eq_some_iff.1 hz).1
    rw [decBits_len] at h1
    obtain ⟨q, rfl⟩ : ∃ q, t = 6 * (l.length - 1) + q := ⟨t - 6 * (l.length - 1), by omega⟩
    have hq : q = 4 ∨ q = 5 := by omega
    have hz2 := hat q (by omega)
    rw [hz] at hz2
    have hz3 := Option.some.inj hz2
    rcases hq with rfl | rfl <;> simp only [Nat.reduceSub, Nat.reducePow] at hz3 <;> omega
  · rw [if_neg h0]
    have go : ∀ q : Nat, 4 ≤ q → q < 6 → number y / 2 ^ (5 - q) % 2 ≠ 0 → fault l = some (l.length - 1) := fun q h2 h6 hne =>
      fault_bits hlt (by omega) (t := 6 * (l.length - 1) + q) (by omega) (hat q h6) hne
    by_cases b4 : number y / 2 % 2 = 0
    · exact go 5 (by decide) (by decide) (by simp only [Nat.reduceSub, Nat.reducePow]; omega)
    · exact go 4 (by decide) (by decide) b4
end TextMath
