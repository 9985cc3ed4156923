/-
  From the condition that unicode/utf8's two tables are laid as Go's text lays them to their cells; a world that meets the condition.
-/
import Derived.Test.YtfophdombipemaaDoorRows
import Derived.Test.YtfophdombipemaaDoorTrimFunc
import Derived.Lib.LaidU8T
import Derived.PinnedBridge
import Derived.Lay
import Derived.LaidOnce
namespace Go.Proofs.YtfophdombipemaaDoor
open Go.ChangeShapes Go.WideShapes Go.RowKit Go.Lib

theorem ownNone : ownKnob Tryd.prog.godebug = none := by kernel_rfl
/-- What the rows list. -/
def tabsList : List (String × DataW Unit) := [("unicode/utf8.acceptRanges", Rows.laid_unicode_utf8_acceptRanges), ("unicode/utf8.first", Rows.laid_unicode_utf8_first)]
theorem accept_eq : Rows.laid_unicode_utf8_acceptRanges (H := Unit) = acceptData := by kernel_rfl
theorem first_eq : Rows.laid_unicode_utf8_first = firstData := Pinned.utf8First_eq
theorem tabsTypes : U8Types Tryd.prog Tryd.lays237_ren := { Tryd.lays237 with }
theorem tabsExtra : U8Extra Tryd.prog Tryd.lays237_ren := ⟨by kernel_rfl, by kernel_rfl, by kernel_rfl, by kernel_rfl, by kernel_rfl, by kernel_rfl, by kernel_rfl⟩

/-- What the condition gives a walk. -/
theorem tabs_of_laid {W : World} (h : laidMetH Tryd.prog tabsList W) : Lib.Utf8Tabs 2 3 W := by
  rw [MakeChecks.laidMetH_plain _ _ _ (by kernel_rfl)] at h
  exact utf8Tabs_of_readsT tabsTypes tabsExtra (first_eq ▸ Lib.laidMet.reads h (.tail _ (.head _))) (accept_eq ▸ Lib.laidMet.reads h (.head _))

theorem tabsWorld_met (os : Os) (args : Array Value) : laidMetH Tryd.prog tabsList ((World.laidAll Tryd.prog os tabsList).forCall (fun _ _ => 0) ⟨#[], args, []⟩).memory := by
  rw [MakeChecks.laidMetH_plain _ _ _ (by kernel_rfl)]
  exact laidMet_laidAll _ (by kernel_rfl) (by kernel_rfl)
end Go.Proofs.YtfophdombipemaaDoor
