/-
  The contract of chapter 5's smallest success: it is there. No conditions.
-/
import Derived.Test.YtpmhfoleafjlbaaDoorWireDone
namespace Go.Proofs.YtpmhfoleafjlbaaDoor
open Go.RowKit TextNat

theorem awake_bytes : putVec (WireMath.putN ⟨[], none⟩ [300] []) [0, 7] = ⟨[172, 2, 2, 0, 7], none⟩ := by kernel_rfl
set_option maxRecDepth 100000 in
set_option maxHeartbeats 4000000 in
theorem awake_true (w : World) : Calls Tryd.prog 5 #[] w fun e w' => e = .returned (.bool true) ∧ Below w.heap.size w w' := by
  have HO := Lib.hid (out_new w)
  have HK : Hid (Below w.heap.size w (w.alloc (.cells #[.pointer none, .int .i64 0, .int .i64 0] 63))) := Lib.hid ((Below.refl _ _).alloc (Nat.le_refl _) _)
  go_enter Tryd.func5, Tryd.ntmps5
  go_wp2_with fail
  refine (num_ok _ _ 300 _ HO.out (by omega)).mono ?_
  rintro e w2 ⟨rfl, ho, hb⟩
  replace HK := Lib.hid (HK.out.trans (hb.below HK.out.size))
  have hB : Below w2.heap.size w2 (w2.alloc (.cells #[.int .i64 0, .int .i64 7] 3)) := (Below.refl _ _).alloc (Nat.le_refl _) _
  have hz := ints_new [0, 7] (fun z hz => by simp at hz; omega) 3 w2
  replace HO := Lib.hid (ho.below hB)
  replace HK := Lib.hid (HK.out.trans (hB.mono HK.out.size))
  have HZ := Lib.hid hz
  clear ho hb hB hz
  go_wp2_with (first
    | (go_at_call 13; refine (vec_ok _ _ _ _ [0, 7] _ HO.out HZ.out (by decide)).mono ?_; rintro e w3 ⟨rfl, ho, hb⟩; replace HO := Lib.hid ho; replace HK := Lib.hid (HK.out.trans (hb.below HK.out.size)); clear ho hb)
    | (go_at_call 8; refine (done_ok _ _ _ HO.out).mono ?_; rintro e w4 ⟨hd, hb⟩; have hd' : DoneIs w4 ⟨[172, 2, 2, 0, 7], none⟩ e := (by rw [← awake_bytes]; exact hd); obtain rfl : e = .returned (.tuple #[.string (txt [172, 2, 2, 0, 7]), .nilIface]) := hd'; replace HK := Lib.hid (HK.out.trans (hb.mono HK.out.size)); clear hd hb))
  have hL : ((txt [172, 2, 2, 0, 7]).toList == [172, 2, 2, 0, 7]) = true := by rw [ByteArray.toList_eq]; rfl
  go_ret
  exact ⟨by rw [← hL]; rfl, HK.out⟩
end Go.Proofs.YtpmhfoleafjlbaaDoor
