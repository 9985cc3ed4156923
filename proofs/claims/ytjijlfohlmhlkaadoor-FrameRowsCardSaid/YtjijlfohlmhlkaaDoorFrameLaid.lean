/-
  From the condition that crc's two tables and the variable errors.errorType are laid as the program's text lays them to their cells; a world that meets the condition.
-/
import Derived.Test.YtjijlfohlmhlkaaDoorCrcLaid
import Derived.Test.YtjijlfohlmhlkaaDoorPlace
import Derived.Stop.Joined
namespace Go.Proofs.YtjijlfohlmhlkaaDoor
open Go.ChangeShapes Go.WideShapes Go.RowKit

theorem etZero : Tryd.prog.globalNamed "errors.errorType" = some 3 := by kernel_rfl
theorem rtNum : (Tryd.prog.cutTypes.find? (·.1 == "internal/reflectlite.rtype")).map (·.2) = some 76 := by kernel_rfl
theorem oneRow : ((List.range 135).filter fun t => Tryd.prog.rowNamed t [101, 114, 114, 111, 114]) = [24] := by kernel_rfl
theorem typesSize : Tryd.prog.types.size = 135 := by kernel_rfl
/-- What the rows with three variables list. -/
def laidList3 : List (String × DataW Unit) := [("sojourn/crc.low", Rows.laid_sojourn_crc_low), ("sojourn/crc.high", Rows.laid_sojourn_crc_high), ("errors.errorType", Rows.laid_errors_errorType)]
theorem parts3 {W : World} (h : laidMetH Tryd.prog laidList3 W) : laidMetH Tryd.prog laidList W ∧ handlesMet Tryd.prog [("errors.errorType", Rows.laid_errors_errorType)] W := by
  have h' : laidMet Tryd.prog laidList W ∧ handlesMet Tryd.prog [("errors.errorType", Rows.laid_errors_errorType)] W := h
  exact ⟨h'.1, h'.2⟩
theorem tables_of_laid3 {W : World} (h : laidMetH Tryd.prog laidList3 W) : Tables W := tables_of_laid (parts3 h).1
theorem handle_of_laid3 {W : World} (h : laidMetH Tryd.prog laidList3 W) : Handle W := by
  obtain ⟨name, u, ty, e1, e2, e3, e4, e5⟩ := (parts3 h).2 _ (List.mem_singleton.2 rfl)
  have en : name = [101, 114, 114, 111, 114] := (Option.some.inj e1).symm
  subst en
  obtain rfl := Option.some.inj (rtNum.symm.trans e2)
  have hm : ty ∈ (List.range 135).filter fun t => Tryd.prog.rowNamed t [101, 114, 114, 111, 114] := List.mem_filter.2 ⟨List.mem_range.2 (by rw [← typesSize]; exact e3), e4⟩
  rw [oneRow] at hm
  obtain rfl := List.mem_singleton.1 hm
  have hh : typeHandle Tryd.prog 24 = .pointer (some ⟨4, 24, none⟩) := by kernel_rfl
  rw [hh] at e5
  unfold Handle
  simpa using World.var?_cell etZero e5 0
/-- A world that meets the condition: the settled one, the three variables' cells laid. -/
noncomputable def laidWorld3 (os : Os) : World :=
  let w0 := World.holding Tryd.prog os ⟨#[], #[], []⟩
  { w0 with heap := ((w0.heap.modify 1 fun
      | .cells _ t frozen => .cells ((lowT.map fun (n : Nat) => Value.int .u32 (n : Int)).toArray) t frozen
      | o => o).modify 2 fun
      | .cells _ t frozen => .cells ((highT.map fun (n : Nat) => Value.int .u32 (n : Int)).toArray) t frozen
      | o => o).modify 3 fun
      | .cells _ t frozen => .cells #[.iface 76 (.agg #[.pointer (some ⟨4, 24, none⟩)])] t frozen
      | o => o }
theorem laidWorld3_met (os : Os) (args : Array Value) : laidMetH Tryd.prog laidList3 ((laidWorld3 os).forCall (fun _ _ => 0) ⟨#[], args, []⟩).memory :=
  laidMetH_of_parts (show laidMet Tryd.prog laidList _ from laidMet_of_run' 8 (by kernel_rfl) (by kernel_rfl)) (by kernel_rfl)
end Go.Proofs.YtjijlfohlmhlkaaDoor
