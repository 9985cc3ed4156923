/-
  From the condition that crc's two tables are laid as the program's text lays them to their cells; a world that meets the condition.
-/
import Derived.Test.YtjijlfohlmhlkaaDoorRows
import Derived.Test.YtjijlfohlmhlkaaDoorCrcStep
import Derived.Test.YtjijlfohlmhlkaaDoorArrays
import Derived.ProofKit
import Derived.ChangeSame
import Derived.ChangeVars
import Derived.JoinedOf
import Derived.LaidLaws
import Derived.LaidHandle
namespace Go.Proofs.YtjijlfohlmhlkaaDoor
open Go.ChangeShapes Go.WideShapes Go.RowKit

theorem ownNone : ownKnob Tryd.prog.godebug = none := by kernel_rfl
theorem lowNum : Tryd.prog.globalNamed "sojourn/crc.low" = some 1 := by kernel_rfl
theorem highNum : Tryd.prog.globalNamed "sojourn/crc.high" = some 2 := by kernel_rfl
theorem lowType : (Tryd.prog.globals[1]?).map (·.type) = some 90 := by kernel_rfl
theorem highType : (Tryd.prog.globals[2]?).map (·.type) = some 90 := by kernel_rfl

/-- What the rows list. -/
def laidList : List (String × DataW Unit) := [("sojourn/crc.low", Rows.laid_sojourn_crc_low), ("sojourn/crc.high", Rows.laid_sojourn_crc_high)]

def natLits (l : List Nat) : List (DataW Unit) := (l.map fun (n : Nat) => (n : Int)).map fun z => .lit (.int .u32 z)
theorem low_lits : Rows.laid_sojourn_crc_low (H := Unit) = .agg (natLits lowT) := rfl
theorem high_lits : Rows.laid_sojourn_crc_high (H := Unit) = .agg (natLits highT) := rfl

theorem cells_of_table {W : World} {fuel : Nat} {cs : Array Value} {l : List Nat} {p : List MemPlace} (hl : l.length = 16) (h : DataW.trod (fun _ => ()) Tryd.prog W 0 (fun _ => true) false fuel 90 cs.toList = some (.agg (natLits l), p)) :
    ∀ i, i < 16 → cs[i]? = some (.int .u32 (l.getD i 0 : Nat)) := by
  obtain ⟨zs, _, hcs, hd, _, _⟩ := cells_of_ints Tryd.underlying90 Tryd.underlying67 (by kernel_rfl) (by kernel_rfl) h
  have hinj : Function.Injective (fun z : Int => (DataW.lit (.int .u32 z) : DataW Unit)) := fun a b hab => by simpa using hab
  have hz : l.map (fun (n : Nat) => (n : Int)) = zs := by
    have h1 := DataW.agg.inj hd
    exact (List.map_inj_right (fun a b hab => hinj hab)).1 h1
  intro i hi
  have e : cs[i]? = cs.toList[i]? := by simp
  rw [e, hcs, ← hz]
  simp [List.getD, show i < l.length by omega]

/-- What the condition gives a walk. -/
theorem tables_of_laid {W : World} (h : laidMetH Tryd.prog laidList W) : Tables W := by
  have h' : laidMet Tryd.prog laidList W := h
  obtain ⟨ps, ⟨g, t, cs, fuel, p, q, hg, ht, hvar, hd, ⟨g2, t2, cs2, fuel2, p2, q2, hg2, ht2, hvar2, hd2, _, _⟩, _⟩, _⟩ := h'
  obtain rfl := Option.some.inj (lowNum.symm.trans hg)
  obtain rfl := Option.some.inj (lowType.symm.trans ht)
  obtain rfl := Option.some.inj (highNum.symm.trans hg2)
  obtain rfl := Option.some.inj (highType.symm.trans ht2)
  rw [low_lits] at hd
  rw [high_lits] at hd2
  exact ⟨fun i hi => (World.var?_cell hg hvar i).trans (cells_of_table rfl hd i hi), fun i hi => (World.var?_cell hg2 hvar2 i).trans (cells_of_table rfl hd2 i hi)⟩

/-- A world that meets the condition: the settled one, the two variables' cells laid. -/
noncomputable def laidWorld (os : Os) : World :=
  let w0 := World.holding Tryd.prog os ⟨#[], #[], []⟩
  { w0 with heap := (w0.heap.modify 1 fun
      | .cells _ t frozen => .cells ((lowT.map fun (n : Nat) => Value.int .u32 (n : Int)).toArray) t frozen
      | o => o).modify 2 fun
      | .cells _ t frozen => .cells ((highT.map fun (n : Nat) => Value.int .u32 (n : Int)).toArray) t frozen
      | o => o }
theorem laidWorld_met (os : Os) (args : Array Value) : laidMetH Tryd.prog laidList ((laidWorld os).forCall (fun _ _ => 0) ⟨#[], args, []⟩).memory :=
  show laidMet Tryd.prog laidList _ from laidMet_of_run' 8 (by kernel_rfl) (by kernel_rfl)
end Go.Proofs.YtjijlfohlmhlkaaDoor
