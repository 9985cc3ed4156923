/-
  From the condition that the library's five tables are laid as Go's text lays them to what chapter 14's program asks of the world; a world that meets the condition.
-/
import Derived.Test.YtlgofepmdjlpgaaDoorRows
import Derived.Test.YtlgofepmdjlpgaaDoorBakeWhole
import Derived.Lib.LaidU8T
import Derived.Lib.LaidTab
import Derived.Stop.LaidErr
import Derived.PinnedBridge
import Derived.Lay
import Derived.LaidOnce
namespace Go.Proofs.YtlgofepmdjlpgaaDoor
open Go.ChangeShapes Go.WideShapes Go.RowKit Go.Lib

theorem ownNone : ownKnob Tryd.prog.godebug = none := by kernel_rfl
/-- What the rows list. -/
def tabsList : List (String × DataW Unit) := [("math/bits.deBruijn32tab", Rows.laid_math_bits_deBruijn32tab), ("math/bits.deBruijn64tab", Rows.laid_math_bits_deBruijn64tab), ("internal/strconv.uint64pow10", Rows.laid_internal_strconv_uint64pow10), ("unicode/utf8.acceptRanges", Rows.laid_unicode_utf8_acceptRanges), ("unicode/utf8.first", Rows.laid_unicode_utf8_first)]
theorem accept_eq : Rows.laid_unicode_utf8_acceptRanges (H := Unit) = acceptData := by kernel_rfl
theorem first_eq : Rows.laid_unicode_utf8_first = firstData := Pinned.utf8First_eq
theorem pows_eq : Rows.laid_internal_strconv_uint64pow10 (H := Unit) = tabData .u64 pow10Tab := by kernel_rfl
theorem tabsTypes : U8Types Tryd.prog Tryd.lays237_ren := { Tryd.lays237 with }
theorem tabsExtra : U8Extra Tryd.prog Tryd.lays237_ren := ⟨by kernel_rfl, by kernel_rfl, by kernel_rfl, by kernel_rfl, by kernel_rfl, by kernel_rfl, by kernel_rfl⟩

/-- What the condition gives a walk. -/
theorem tabs_of_laid {W : World} (h : laidMetH Tryd.prog tabsList W) : TabsB W := by
  rw [MakeChecks.laidMetH_plain _ _ _ (by kernel_rfl)] at h
  refine ⟨utf8Tabs_of_readsT tabsTypes tabsExtra (first_eq ▸ Lib.laidMet.reads h (.tail _ (.tail _ (.tail _ (.tail _ (.head _)))))) (accept_eq ▸ Lib.laidMet.reads h (.tail _ (.tail _ (.tail _ (.head _))))), ?_⟩
  have h3 : laidMet Tryd.prog (("internal/strconv.uint64pow10", tabData .u64 pow10Tab) :: [("unicode/utf8.acceptRanges", Rows.laid_unicode_utf8_acceptRanges), ("unicode/utf8.first", Rows.laid_unicode_utf8_first)]) W := by
    rw [← pows_eq]
    exact h.tail.tail
  exact tabIs_of_head (g := 1) (t := 103) (e := 92) (n := 20) (k := .u64) (by kernel_rfl) (by kernel_rfl) Tryd.underlying103 Tryd.underlying92 (by kernel_rfl) (by kernel_rfl) h3

theorem tabsWorld_met (os : Os) (args : Array Value) : laidMetH Tryd.prog tabsList ((World.laidAll Tryd.prog os tabsList).forCall (fun _ _ => 0) ⟨#[], args, []⟩).memory := by
  rw [MakeChecks.laidMetH_plain _ _ _ (by kernel_rfl)]
  exact laidMet_laidAll _ (by kernel_rfl) (by kernel_rfl)
end Go.Proofs.YtlgofepmdjlpgaaDoor
