/-
  Stamps in memory; the contracts of the document's own Less, Greatest, Right of chapter 7. The conditions: the stamps' cells.
-/
import Derived.Test.YtkoojfpafgkgiaaStampMath
import Derived.Test.YtkoojfpafgkgiaaBut
import Derived.Test.YtkoojfpafgkgiaaArr
import Derived.Test.YtkoojfpafgkgiaaResults
import Derived.WalkKit
import Derived.Handy
import Derived.Outline
import Derived.Lib.Hide
import Derived.Deep.LoopGhost
import Derived.Deep.RegionWith
import Derived.Deep.RegionLaw
import Derived.StillTailTactics
import Derived.BigQuiet
namespace Go.Proofs.Ytkoojfpafgkgiaa
open Go.RowKit StampMath

/-- The stamps 'l' stand from the address 'pp' on, two cells each. -/
def Stamps (w : World) (pp : Option Addr) (l : List St) : Prop := ∀ (i : Nat) (a : St), l[i]? = some a → ∃ b off, pp = some ⟨b, off, none⟩ ∧ w.cell? ⟨b, off + i * 2, none⟩ = some (.int .i64 a.1) ∧ w.cell? ⟨b, off + i * 2 + 1, none⟩ = some (.int .i64 a.2)
theorem Stamps.grown {w w' : World} {pp : Option Addr} {l : List St} (h : Stamps w pp l) (hb : Below w.heap.size w w') : Stamps w' pp l := fun i a ha => by
  obtain ⟨b, off, hp, h1, h2⟩ := h i a ha
  exact ⟨b, off, hp, (hb.cell (p := ⟨b, off + i * 2, none⟩) (World.block_lt_of_cell? w _ h1)).trans h1, (hb.cell (p := ⟨b, off + i * 2 + 1, none⟩) (World.block_lt_of_cell? w _ h2)).trans h2⟩
theorem below_drewN {B : Nat} {a w : World} (n : Nat) (h : Below B a w) : Below B a (w.drewN n) := ⟨h.os, h.tape, h.output, h.size, h.block⟩
theorem below_cell {B g : Nat} {a w : World} (h : Below B a w) (hg : B ≤ g) (j : Nat) (v : Value) : Below B a (w.setCell ⟨g, j, none⟩ v) :=
  ⟨h.os, h.tape, h.output, by have := h.size; simpa [World.setCell] using this, fun k hk => (Below.heap_setCell _ _ _ _ (by show k ≠ g; omega)).trans (h.block k hk)⟩
abbrev stv (a : St) : Value := .agg #[.int .i64 a.1, .int .i64 a.2]

set_option maxRecDepth 100000 in
theorem refLess (a1 a2 b1 b2 : Int) (w : World) : Calls Try.prog 17 #[.agg #[.int .i64 a1, .int .i64 a2], .agg #[.int .i64 b1, .int .i64 b2]] w fun e w' => e = .returned (.bool (less (a1, a2) (b1, b2))) ∧ Below w.heap.size w w' := by
  have HB := Lib.hid (((Below.refl w.heap.size w).alloc (Nat.le_refl _) (.cells #[.int .i64 a1, .int .i64 a2] 26)).alloc (by simp) (.cells #[.int .i64 b1, .int .i64 b2] 26))
  by_cases h : a1 = b1
  · have t1 : (a1 == b1) = true := by rw [beq_iff_eq]; exact h
    have t2 : (a1 != b1) = false := by rw [bne, t1]; rfl
    have HE := Lib.hid (show less (a1, a2) (b1, b2) = decide (a2 < b2) by unfold less; rw [if_pos h])
    clear h
    go_enter Try.func17, Try.ntmps17
    go_wp2
    go_ret
    exact ⟨by rw [HE.out]; rfl, HB.out⟩
  · have t1 : (a1 == b1) = false := by rw [beq_eq_false_iff_ne]; exact h
    have t2 : (a1 != b1) = true := by rw [bne, t1]; rfl
    have HE := Lib.hid (show less (a1, a2) (b1, b2) = decide (a1 < b1) by unfold less; rw [if_neg h])
    clear h
    go_enter Try.func17, Try.ntmps17
    go_wp2
    go_ret
    exact ⟨by rw [HE.out]; rfl, HB.out⟩
/-- May a clock be? -/
def rightB (r t : Int) : Bool := decide (0 < r) && decide (r < 17) && decide (0 ≤ t) && decide (t ≤ 1099511627776)
end Go.Proofs.Ytkoojfpafgkgiaa
