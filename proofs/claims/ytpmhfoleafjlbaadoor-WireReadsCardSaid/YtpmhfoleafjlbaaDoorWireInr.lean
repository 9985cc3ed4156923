/-
  Between two numbers; what a trimmed vector is. No program is run here.
-/
import Derived.Test.YtpmhfoleafjlbaaDoorWireOut
namespace Go.Proofs.YtpmhfoleafjlbaaDoor
open Go.RowKit TextNat

def inr (n a b : Int) : Bool := decide (a ≤ n) && decide (n ≤ b)
theorem inr_true {n a b : Int} (h : a ≤ n ∧ n ≤ b) : inr n a b = true := by unfold inr; rw [decide_eq_true h.1, decide_eq_true h.2]; rfl
theorem inr_iff {n a b : Int} : inr n a b = true ↔ a ≤ n ∧ n ≤ b := by unfold inr; rw [Bool.and_eq_true, decide_eq_true_eq, decide_eq_true_eq]
theorem trimmed_whole {zs : List Int} {most : Int} : WireMath.trimmed zs most = (decide (zs.length ≤ 16) && zs.all (fun n => inr n 0 most) && whole_ zs) := rfl
end Go.Proofs.YtpmhfoleafjlbaaDoor
