/-
  The contract of chapter 9's helper told; texts that stand in a slice. The conditions: the variable errors.errorType reads as the type error's own handle; the error is the one typed.
-/
import Derived.Test.YtjijlfohlmhlkaaDoorFrameLaws
import Derived.Test.YtjijlfohlmhlkaaDoorPlace
namespace Go.Proofs.YtjijlfohlmhlkaaDoor
open Go.RowKit TextNat

set_option maxRecDepth 100000 in
set_option maxHeartbeats 4000000 in
theorem told_ok (x : Value) (c k : Int) (w : World) (hc : ErrAt w fname k c x) (h0 : c = 2 ∨ c = 3 ∨ c = 7) (hg : Handle w) :
    Calls Tryd.prog 11 #[x, .int .i64 c, .int .i64 k] w fun e w' => e = .returned (.bool true) ∧ Below w.heap.size w w' := by
  obtain ⟨l, hc⟩ := hc
  obtain ⟨b, rfl⟩ := hc.place
  have HC := Lib.hid hc
  have HG := Lib.hid hg
  have HB := Lib.hid (Below.refl w.heap.size w)
  clear hc hg
  rcases h0 with rfl | rfl | rfl
  all_goals
    go_enter Tryd.func11, Tryd.ntmps11
    go_wp2_with (first
      | (go_at_call 19; refine (place_some _ _ _ _ HG.out HC.out.cells.1 HC.out.cells.2).mono ?_; rintro e w2 ⟨rfl, hb⟩; replace HB := Lib.hid (HB.out.trans (hb.mono HB.out.size)); replace HC := Lib.hid (HC.out.mono hb hb.size); clear hb)
      | (go_at_call 20; refine (Is_chain _ _ _ _ _ _ HC.out).mono ?_; rintro e w2 ⟨rfl, rfl⟩))
    go_ret
    exact ⟨by first | rfl | simp, HB.out⟩
def TextsIn (w : World) (pp : Option Addr) (xs : List ByteArray) : Prop := ∀ (i : Nat) (x : ByteArray), xs[i]? = some x → ∃ b off, pp = some ⟨b, off, none⟩ ∧ w.cell? ⟨b, off + i, none⟩ = some (.string x)
theorem TextsIn.grown {w w' : World} {pp : Option Addr} {xs : List ByteArray} (h : TextsIn w pp xs) (hb : Below w.heap.size w w') : TextsIn w' pp xs := fun i x hx => by
  obtain ⟨b, off, hp, h1⟩ := h i x hx
  exact ⟨b, off, hp, (hb.cell (p := ⟨b, off + i, none⟩) (World.block_lt_of_cell? w _ h1)).trans h1⟩
end Go.Proofs.YtjijlfohlmhlkaaDoor
