/-
  The contract of the document's own Four of chapter 2: four bytes in new memory, the lowest first. No conditions but that the number is one of 32 bits.
-/
import Derived.Test.YtjijlfohlmhlkaaDoorProg
import Derived.WalkKit
import Derived.Handy
import Derived.Outline
namespace Go.Proofs.YtjijlfohlmhlkaaDoor
open Go.RowKit

theorem refFour (s : Nat) (w : World) (hs : s < 4294967296) :
    Calls Tryd.prog 32 #[.int .u32 (s : Int)] w fun e w' => e = .returned (.slice (some ⟨w.heap.size, 0, none⟩) 4 4) ∧ w' = w.alloc (.cells #[.int .u8 ((s : Int) % 256), .int .u8 ((s : Int) / 256 % 256), .int .u8 ((s : Int) / 65536 % 256), .int .u8 ((s : Int) / 16777216)] 5) := by
  have h0 : (0 : Int) ≤ (s : Int) := by omega
  have h1 : (s : Int) ≤ 4294967295 := by omega
  go_enter Tryd.func32, Tryd.ntmps32
  go_wp2
  go_ret
  exact ⟨rfl, rfl⟩
end Go.Proofs.YtjijlfohlmhlkaaDoor
