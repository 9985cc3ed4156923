/-
  The walk of FailNone: it returns true, and leaves what was there as it was. The condition: the variable errors.errorType reads as the type error's own handle.
-/
import Derived.Test.YtmbjcgmcjackfaaDoorAwake
import Derived.Test.YtmbjcgmcjackfaaDoorClass
namespace Go.Proofs.YtmbjcgmcjackfaaDoor
open Go.RowKit Go.Extern.Stop Go.Stop Go.Extern

set_option maxHeartbeats 4000000 in
theorem none_true (s : ByteArray) (n : Int) (w : World) (hg : Handle w) : Calls Tryd.prog 5 #[.string s, .int .i64 n] w fun e w' => e = .returned (.bool true) ∧ Below w.heap.size w w' := by
  have HA := Lib.hid (awake_true w hg)
  have HG := Lib.hid hg
  clear hg
  go_enter Tryd.func5, Tryd.ntmps5
  go_wp2_with (go_at_call 6; refine HA.out.mono ?_; rintro e w1 ⟨rfl, hb1⟩)
  have hG : Handle (w1.alloc (.cells #[.string s, .int .i64 n, .nilIface] 44)) := (HG.out.below hb1 HG.out.lt).below ((Below.refl _ _).alloc (Nat.le_refl _) _) (HG.out.below hb1 HG.out.lt).lt
  have HP := Lib.hid (place_some w1.heap.size (.string s) (.int .i64 n) (w1.alloc (.cells #[.string s, .int .i64 n, .nilIface] 44)) hG (by simp) (by simp))
  have HG1 := Lib.hid hG
  clear hG
  go_wp2_with (go_at_call 11; refine HP.out.mono ?_; rintro e w2 ⟨rfl, hb2⟩)
  simp only [World.size_alloc] at hb2
  have HC := Lib.hid (show Chain w2.heap.size w2 [(s, n)] .nilIface (.iface 42 (.pointer (some ⟨w1.heap.size, 0, none⟩))) from
    ⟨w1.heap.size, .nilIface, rfl, by have := hb2.size; simp at this; omega, (hb2.cell (p := ⟨w1.heap.size, 0, none⟩) (by simp)).trans (by simp), (hb2.cell (p := ⟨w1.heap.size, 1, none⟩) (by simp)).trans (by simp), (hb2.cell (p := ⟨w1.heap.size, 2, none⟩) (by simp)).trans (by simp), rfl⟩)
  have H2 := Lib.hid (show w2.cell? ⟨w1.heap.size, 2, none⟩ = some .nilIface from (hb2.cell (p := ⟨w1.heap.size, 2, none⟩) (by simp)).trans (by simp))
  have HG2 := Lib.hid (HG1.out.below hb2 (by omega))
  go_wp2_with (go_at_call 17; refine (at_none s n w2).mono ?_; rintro e w' ⟨rfl, rfl⟩)
  go_wp2_with (go_at_call 16; refine (both_none .nilIface _).mono ?_; rintro e w' ⟨rfl, rfl⟩)
  go_wp2_with (go_at_call 18; refine (unwrap_none _).mono ?_; rintro e w' ⟨rfl, rfl⟩)
  go_wp2_with (go_at_call 18; refine (unwrap_some w1.heap.size .nilIface _ H2.out).mono ?_; rintro e w' ⟨rfl, rfl⟩)
  have HN := Lib.hid (number_lone [(s, n)] 42 _ w' HG2.out (by simp) HC.out (by simp))
  go_wp2_with (go_at_call 8; refine HN.out.mono ?_; rintro e w3 ⟨rfl, hb3⟩)
  have HK := Lib.hid (class_of 42 _ (-1) w3 (number_lone [(s, n)] 42 _ w3 (HG2.out.below hb3 HG2.out.lt) (by simp) (HC.out.mono hb3 hb3.size) (by simp)))
  go_wp2_with (go_at_call 10; refine HK.out.mono ?_; rintro e w4 ⟨rfl, hb4⟩)
  go_ret
  have hs1 := hb1.size
  have hs2 := hb2.size
  simp only [World.size_alloc] at hs2
  have hs3 := hb3.size
  refine ⟨?_, hb1.trans ((((Below.refl _ w1).alloc hs1 _).trans (hb2.mono (by omega))).trans ((hb3.mono (by omega)).trans (hb4.mono (by omega))))⟩
  rfl
end Go.Proofs.YtmbjcgmcjackfaaDoor
