/-
  From the condition that mac's constants are laid as the program's text lays them to their cells; a world that meets the condition.
-/
import Derived.Test.YthafeccfcnmefaaDoorRows
import Derived.Test.YthafeccfcnmefaaDoorMacMix
import Derived.Test.YthafeccfcnmefaaDoorArrays
import Derived.ProofKit
import Derived.ChangeSame
import Derived.ChangeVars
import Derived.JoinedOf
import Derived.LaidLaws
import Derived.LaidHandle
namespace Go.Proofs.YthafeccfcnmefaaDoor
open Go.ChangeShapes Go.WideShapes Go.RowKit ShaMath

theorem ownNone : ownKnob Tryd.prog.godebug = none := by kernel_rfl
theorem partsNum : Tryd.prog.globalNamed "sojourn/mac.parts" = some 0 := by kernel_rfl
theorem partsType : (Tryd.prog.globals[0]?).map (·.type) = some 82 := by kernel_rfl

/-- What the rows list. -/
def laidList : List (String × DataW Unit) := [("sojourn/mac.parts", Rows.laid_sojourn_mac_parts)]

def natLits (l : List Nat) : List (DataW Unit) := (l.map fun (n : Nat) => (n : Int)).map fun z => .lit (.int .u32 z)
theorem parts_lits : Rows.laid_sojourn_mac_parts (H := Unit) = .agg (natLits ks) := rfl

theorem cells_of_table {W : World} {fuel : Nat} {cs : Array Value} {l : List Nat} {p : List MemPlace} (hl : l.length = 64) (h : DataW.trod (fun _ => ()) Tryd.prog W 0 (fun _ => true) false fuel 82 cs.toList = some (.agg (natLits l), p)) :
    ∀ i, i < 64 → cs[i]? = some (.int .u32 (l.getD i 0 : Nat)) := by
  obtain ⟨zs, _, hcs, hd, _, _⟩ := cells_of_ints Tryd.underlying82 Tryd.underlying72 (by kernel_rfl) (by kernel_rfl) h
  have hinj : Function.Injective (fun z : Int => (DataW.lit (.int .u32 z) : DataW Unit)) := fun a b hab => by simpa using hab
  have hz : l.map (fun (n : Nat) => (n : Int)) = zs := by
    have h1 := DataW.agg.inj hd
    exact (List.map_inj_right (fun a b hab => hinj hab)).1 h1
  intro i hi
  have e : cs[i]? = cs.toList[i]? := by simp
  rw [e, hcs, ← hz]
  simp [List.getD, show i < l.length by omega]

/-- What the condition gives a walk. -/
theorem parts_of_laid {W : World} (h : laidMetH Tryd.prog laidList W) : Parts W := by
  have h' : laidMet Tryd.prog laidList W := h
  obtain ⟨ps, ⟨g, t, cs, fuel, p, q, hg, ht, hvar, hd, _, _⟩, _⟩ := h'
  obtain rfl := Option.some.inj (partsNum.symm.trans hg)
  obtain rfl := Option.some.inj (partsType.symm.trans ht)
  rw [parts_lits] at hd
  exact fun i hi => (World.var?_cell hg hvar i).trans (cells_of_table rfl hd i hi)

/-- A world that meets the condition: the settled one, the variable's cells laid. -/
noncomputable def laidWorld (os : Os) : World :=
  let w0 := World.holding Tryd.prog os ⟨#[], #[], []⟩
  { w0 with heap := w0.heap.modify 0 fun
      | .cells _ t frozen => .cells ((ks.map fun (n : Nat) => Value.int .u32 (n : Int)).toArray) t frozen
      | o => o }
theorem laidWorld_met (os : Os) (args : Array Value) : laidMetH Tryd.prog laidList ((laidWorld os).forCall (fun _ _ => 0) ⟨#[], args, []⟩).memory :=
  show laidMet Tryd.prog laidList _ from laidMet_of_run' 8 (by kernel_rfl) (by kernel_rfl)
end Go.Proofs.YthafeccfcnmefaaDoor
