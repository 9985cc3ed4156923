/-
  The example of chapter 11, as its laws ask it; the document's own two functions. The conditions: the program's contracts; mac's table.
-/
import Derived.Test.YthafeccfcnmefaaDoorRingLaws
import Derived.OwnWalk
namespace Go.Proofs.YthafeccfcnmefaaDoor
open Go.RowKit TextNat

theorem key_size (m : ByteArray) (n : Int) : (keyOf m n).size = 32 := by
  unfold keyOf
  rw [txt_len]
  rfl
set_option maxRecDepth 100000 in
set_option maxHeartbeats 4000000 in
theorem awake_true {R : Rng} (hN : RNewOk R) (hK : KeyOk R) (hA : AliveOk R) (w : World) (hP : Parts w) :
    Calls Tryd.prog 6 #[] w fun e w' => e = .returned (.bool true) ∧ Below w.heap.size w w' := by
  have HN := Lib.hid (hN ⟨#[109]⟩ 5 w (by decide) (by decide))
  have HP := Lib.hid hP
  have HR := Lib.hid (show rightB ⟨#[109]⟩ 5 = true by decide)
  replace hK := Lib.hid hK
  replace hA := Lib.hid hA
  clear hN hP
  go_enter Tryd.func6, Tryd.ntmps6
  go_wp2_with fail
  refine HN.out.mono ?_
  rintro e w1 ⟨h1, hb⟩
  rw [if_pos HR.out] at h1
  obtain ⟨b, rfl, h1⟩ := h1
  have HH := Lib.hid h1
  have HB := Lib.hid hb
  clear h1 hb HN
  go_wp2_with fail
  refine (HasR.key hK.out HH.out HR.out (by decide) (HP.out.grown HB.out)).mono ?_
  rintro e w2 ⟨h2, hb⟩
  rw [if_pos (by decide)] at h2
  obtain rfl := h2
  replace HH := Lib.hid (HH.out.below hb)
  replace HB := Lib.hid (HB.out.trans (hb.mono HB.out.size))
  have hsz := key_size ⟨#[109]⟩ 3
  obtain ⟨K, hKK⟩ : ∃ K, K = keyOf ⟨#[109]⟩ 3 := ⟨_, rfl⟩
  rw [← hKK] at hsz ⊢
  clear hb hKK
  go_wp2_with (go_at_call 14; refine (HasR.alive hA.out HH.out HR.out (by decide)).mono ?_; rintro e w3 ⟨rfl, hb⟩; replace HH := Lib.hid (HH.out.below hb); replace HB := Lib.hid (HB.out.trans (hb.mono HB.out.size)); clear hb)
  go_ret
  exact ⟨rfl, HB.out⟩
end Go.Proofs.YthafeccfcnmefaaDoor
