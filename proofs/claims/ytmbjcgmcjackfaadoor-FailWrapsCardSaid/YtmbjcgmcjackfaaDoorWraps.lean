/-
  The walks of FailWraps, case by case: it returns true, and leaves what was there as it was. The conditions: the variable errors.errorType reads as the type error's own handle; the slice's cells are told.
-/
import Derived.Test.YtmbjcgmcjackfaaDoorAwake
import Derived.Test.YtmbjcgmcjackfaaDoorClass
import Derived.Test.YtmbjcgmcjackfaaDoorWrapped
import Derived.Test.YtmbjcgmcjackfaaDoorNilErr
import Derived.Test.YtmbjcgmcjackfaaDoorRefTrail
import Derived.Test.YtmbjcgmcjackfaaDoorSame
namespace Go.Proofs.YtmbjcgmcjackfaaDoor
open Go.RowKit Go.Extern.Stop Go.Stop Go.Extern

set_option maxRecDepth 100000 in
set_option maxHeartbeats 4000000 in
theorem wraps_big (c other : Int) (p : Option Addr) (n cap : Nat) (w : World) (hg : Handle w) (hn : 200 < n) :
    Calls Tryd.prog 3 #[.int .i64 c, .slice p n cap, .int .i64 other] w fun e w' => e = .returned (.bool true) ∧ Below w.heap.size w w' := by
  have HA := Lib.hid (awake_true w hg)
  have b1 : (200 : Int) < (n : Int) := by omega
  clear hg hn
  go_enter Tryd.func3, Tryd.ntmps3
  go_wp2_with (go_at_call 6; refine HA.out.mono ?_; rintro e w1 ⟨rfl, hb1⟩)
  go_ret
  exact ⟨rfl, hb1⟩

set_option maxRecDepth 100000 in
set_option maxHeartbeats 4000000 in
theorem wraps_zero (other : Int) (p : Option Addr) (n cap : Nat) (w : World) (hg : Handle w) (hn : n ≤ 200)
    (h7 : ∀ w0 : World, Below w.heap.size w w0 → Calls Tryd.prog 7 #[.int .i64 0, .slice p n cap] w0 fun e w' => e = .returned .nilIface ∧ Below w0.heap.size w0 w') :
    Calls Tryd.prog 3 #[.int .i64 0, .slice p n cap, .int .i64 other] w fun e w' => e = .returned (.bool true) ∧ Below w.heap.size w w' := by
  have HA := Lib.hid (awake_true w hg)
  have H7 := Lib.hid h7
  have b1 : (n : Int) ≤ 200 := by omega
  clear hg hn h7
  go_enter Tryd.func3, Tryd.ntmps3
  go_wp2_with (go_at_call 6; refine HA.out.mono ?_; rintro e w1 ⟨rfl, hb1⟩)
  go_wp2_with (go_at_call 7; refine (H7.out w1 hb1).mono ?_; rintro e w2 ⟨rfl, hb2⟩)
  go_wp2_with (go_at_call 8; refine (number_none _).mono ?_; rintro e w' ⟨rfl, rfl⟩)
  go_wp2_with (go_at_call 9; refine (trail_none _).mono ?_; rintro e w3 ⟨rfl, hb3⟩)
  go_wp2_with (go_at_call 10; refine (class_none _).mono ?_; rintro e w' ⟨rfl, rfl⟩)
  go_ret
  exact ⟨rfl, hb1.trans ((hb2.trans (hb3.mono hb2.size)).mono hb1.size)⟩

set_option maxRecDepth 100000 in
set_option maxHeartbeats 4000000 in
theorem wraps_bare (c other : Int) (hc0 : c ≠ 0) (p : Option Addr) (cap : Nat) (w : World) (hg : Handle w) (co : Bool) (h1 : (c == other) = co) (h2 : (other == c) = co) :
    Calls Tryd.prog 3 #[.int .i64 c, .slice p 0 cap, .int .i64 other] w fun e w' => e = .returned (.bool true) ∧ Below w.heap.size w w' := by
  have HA := Lib.hid (awake_true w hg)
  have HG := Lib.hid hg
  have HN0 := Lib.hid hc0
  have d0 := beq_eq_false_iff_ne.2 hc0
  have d1 : (c != 0) = true := by rw [bne_iff_ne]; exact hc0
  clear hg hc0
  go_enter Tryd.func3, Tryd.ntmps3
  go_wp2_with (go_at_call 6; refine HA.out.mono ?_; rintro e w1 ⟨rfl, hb1⟩)
  go_wp2_with (go_at_call 7; refine (wrapped_empty c HN0.out p cap _).mono ?_; rintro e w' ⟨rfl, rfl⟩)
  have HG1 := Lib.hid (HG.out.below hb1 HG.out.lt)
  go_wp2_with (go_at_call 11; refine (place_bare c _ HG1.out).mono ?_; rintro e w2 ⟨rfl, hb2⟩)
  have HG2 := Lib.hid (HG1.out.below hb2 HG1.out.lt)
  have HX2 := Lib.hid (show Chain w2.heap.size w2 [] (.iface 35 (.int .i64 c)) (.iface 35 (.int .i64 c)) from rfl)
  have HN := Lib.hid (number_code [] c _ w2 HG2.out HX2.out (by simp; try omega))
  go_wp2_with (go_at_call 8; refine HN.out.mono ?_; rintro e w3 ⟨rfl, hb3⟩)
  have HG3 := Lib.hid (HG2.out.below hb3 HG2.out.lt)
  have HX3 := Lib.hid (HX2.out.mono hb3 hb3.size)
  have HI1 := Lib.hid (Is_chain w3.heap.size [] c c _ w3 HX3.out)
  have HI2 := Lib.hid (Is_chain w3.heap.size [] c other _ w3 HX3.out)
  go_wp2_with fail
  refine HI1.out.mono ?_
  rintro e w' ⟨rfl, hw'⟩
  obtain rfl := hw'.symm
  clear hw'
  go_wp2_with fail
  refine HI2.out.mono ?_
  rintro e w' ⟨rfl, hw'⟩
  obtain rfl := hw'.symm
  clear hw'
  have HT := Lib.hid (trail_code [] c _ w3 HG3.out HX3.out)
  go_wp2_with (go_at_call 9; refine HT.out.mono ?_; rintro e w4 ⟨v, rfl, hown4, hb4⟩)
  have HO4 := Lib.hid hown4
  clear hown4
  have HR := Lib.hid (refTrail_none p cap w4)
  go_wp2_with (go_at_call 14; refine HR.out.mono ?_; rintro e w5 ⟨u, rfl, hown5, hb5⟩)
  have HS := Lib.hid (same_own ([].take 100) v u _ _ w5 (List.length_take_le _ _) (HO4.out.kept (grown_of_below hb5) (own_any _)) hown5)
  clear hown5
  have HG5 := Lib.hid (HG3.out.below (hb4.trans (hb5.mono hb4.size)) HG3.out.lt)
  have HX5 := Lib.hid (HX3.out.mono (hb4.trans (hb5.mono hb4.size)) (Nat.le_trans hb4.size hb5.size))
  go_wp2_with (go_at_call 13; refine HS.out.mono ?_; rintro e w6 ⟨rfl, hb6⟩)
  have HK := Lib.hid (class_of _ _ c w6 (number_code [] c _ w6 (HG5.out.below hb6 HG5.out.lt) (HX5.out.mono hb6 hb6.size) (by simp; try omega)))
  go_wp2_with (go_at_call 10; refine HK.out.mono ?_; rintro e w7 ⟨rfl, hb7⟩)
  have R0 := refClass c w7
  rw [if_neg HN0.out] at R0
  have HRC := Lib.hid R0
  clear R0
  go_wp2_with (go_at_call 15; refine HRC.out.mono ?_; rintro e w' ⟨rfl, rfl⟩)
  go_ret
  have hz3 := hb3.size
  have hz4 := hb4.size
  have hz5 := hb5.size
  have hz6 := hb6.size
  have HB := (hb3.trans ((hb4.trans ((hb5.trans ((hb6.trans (hb7.mono hz6)).mono hz5)).mono hz4)).mono hz3))
  exact ⟨rfl, hb1.trans ((hb2.trans (HB.mono hb2.size)).mono hb1.size)⟩

set_option maxRecDepth 100000 in
set_option maxHeartbeats 4000000 in
theorem wraps_some (c other : Int) (hc0 : c ≠ 0) (x : Wrap) (l : List Wrap) (b off cap : Nat) (w : World) (hg : Handle w) (hm : (x :: l).length ≤ 200) (co : Bool) (h1 : (c == other) = co) (h2 : (other == c) = co)
    (hl : ∀ (k : Nat) (y : Wrap), (x :: l)[k]? = some y → w.cell? ⟨b, off + k * 2, none⟩ = some (.string y.1) ∧ w.cell? ⟨b, off + k * 2 + 1, none⟩ = some (.int .i64 y.2)) :
    Calls Tryd.prog 3 #[.int .i64 c, .slice (some ⟨b, off, none⟩) (x :: l).length cap, .int .i64 other] w fun e w' => e = .returned (.bool true) ∧ Below w.heap.size w w' := by
  have hbl : b < w.heap.size := cell_lt (hl 0 x rfl).1
  have HL := Lib.hid (fun (w0 : World) (hb : Below w.heap.size w w0) (k : Nat) (y : Wrap) (hk : (x :: l)[k]? = some y) =>
    (⟨(hb.cell (p := ⟨b, off + k * 2, none⟩) hbl).trans (hl k y hk).1, (hb.cell (p := ⟨b, off + k * 2 + 1, none⟩) hbl).trans (hl k y hk).2⟩ : w0.cell? ⟨b, off + k * 2, none⟩ = some (.string y.1) ∧ w0.cell? ⟨b, off + k * 2 + 1, none⟩ = some (.int .i64 y.2)))
  have HM := Lib.hid hm
  have b1 : ((x :: l).length : Int) ≤ 200 := by omega
  have b2 : (0 : Int) < ((x :: l).length : Int) := by simp
  obtain ⟨n, hn⟩ : ∃ n, n = (x :: l).length := ⟨_, rfl⟩
  rw [← hn] at b1 b2 ⊢
  have HE := Lib.hid hn
  have HA := Lib.hid (awake_true w hg)
  have HG := Lib.hid hg
  have HN0 := Lib.hid hc0
  have d0 := beq_eq_false_iff_ne.2 hc0
  have d1 : (c != 0) = true := by rw [bne_iff_ne]; exact hc0
  clear hg hc0 hl hm hn
  go_enter Tryd.func3, Tryd.ntmps3
  go_wp2_with (go_at_call 6; refine HA.out.mono ?_; rintro e w1 ⟨rfl, hb1⟩)
  have HW := Lib.hid (wrapped_some c HN0.out (x :: l) b off cap w1 (by have := HM.out; omega) (HL.out w1 hb1))
  rw [← HE.out] at HW
  go_wp2_with (go_at_call 7; refine HW.out.mono ?_; rintro e w2 ⟨v0, rfl, hch, hb2⟩)
  have hB2 : Below w.heap.size w w2 := hb1.trans (hb2.mono hb1.size)
  have HG2 := Lib.hid (HG.out.below hB2 HG.out.lt)
  have HX2 := Lib.hid hch
  obtain ⟨b3, u3, rfl, _, p0, p1, _, _⟩ := hch
  have HP := Lib.hid (place_some b3 (.string x.1) (.int .i64 x.2) w2 HG2.out p0 p1)
  clear p0 p1
  go_wp2_with fail
  refine HP.out.mono ?_
  rintro e w2' ⟨rfl, hb2'⟩
  have hB2' : Below w.heap.size w w2' := hB2.trans (hb2'.mono hB2.size)
  obtain ⟨q0, q1⟩ := HL.out w2' hB2' 0 x rfl
  simp only [Nat.zero_mul, Nat.add_zero] at q0 q1
  have HG2' := Lib.hid (HG2.out.below hb2' HG2.out.lt)
  have HX2' := Lib.hid (HX2.out.mono hb2' hb2'.size)
  have HN := Lib.hid (number_code (x :: l) c _ w2' HG2'.out HX2'.out (by have := HM.out; omega))
  go_wp2_with (go_at_call 8; refine HN.out.mono ?_; rintro e w3 ⟨rfl, hb3⟩)
  have HG3 := Lib.hid (HG2'.out.below hb3 HG2'.out.lt)
  have HX3 := Lib.hid (HX2'.out.mono hb3 hb3.size)
  have HI1 := Lib.hid (Is_chain w3.heap.size (x :: l) c c _ w3 HX3.out)
  have HI2 := Lib.hid (Is_chain w3.heap.size (x :: l) c other _ w3 HX3.out)
  go_wp2_with fail
  refine HI1.out.mono ?_
  rintro e w' ⟨rfl, hw'⟩
  obtain rfl := hw'.symm
  clear hw'
  go_wp2_with fail
  refine HI2.out.mono ?_
  rintro e w' ⟨rfl, hw'⟩
  obtain rfl := hw'.symm
  clear hw'
  have HT := Lib.hid (trail_code (x :: l) c _ w3 HG3.out HX3.out)
  go_wp2_with (go_at_call 9; refine HT.out.mono ?_; rintro e w4 ⟨v, rfl, hown4, hb4⟩)
  have HO4 := Lib.hid hown4
  clear hown4
  have HR0 := refTrail_some (x :: l) b off cap w4 HM.out (HL.out w4 (hB2'.trans ((hb3.trans (hb4.mono hb3.size)).mono hB2'.size)))
  rw [← HE.out] at HR0
  have HR := Lib.hid HR0
  clear HR0
  go_wp2_with (go_at_call 14; refine HR.out.mono ?_; rintro e w5 ⟨u, rfl, hown5, hb5⟩)
  have HS := Lib.hid (same_own ((x :: l).take 100) v u _ _ w5 (List.length_take_le _ _) (HO4.out.kept (grown_of_below hb5) (own_any _)) hown5)
  clear hown5
  have HG5 := Lib.hid (HG3.out.below (hb4.trans (hb5.mono hb4.size)) HG3.out.lt)
  have HX5 := Lib.hid (HX3.out.mono (hb4.trans (hb5.mono hb4.size)) (Nat.le_trans hb4.size hb5.size))
  go_wp2_with (go_at_call 13; refine HS.out.mono ?_; rintro e w6 ⟨rfl, hb6⟩)
  have HK := Lib.hid (class_of _ _ c w6 (number_code (x :: l) c _ w6 (HG5.out.below hb6 HG5.out.lt) (HX5.out.mono hb6 hb6.size) (by have := HM.out; omega)))
  go_wp2_with (go_at_call 10; refine HK.out.mono ?_; rintro e w7 ⟨rfl, hb7⟩)
  have R0 := refClass c w7
  rw [if_neg HN0.out] at R0
  have HRC := Lib.hid R0
  clear R0
  go_wp2_with (go_at_call 15; refine HRC.out.mono ?_; rintro e w' ⟨rfl, rfl⟩)
  go_ret
  have hz3 := hb3.size
  have hz4 := hb4.size
  have hz5 := hb5.size
  have hz6 := hb6.size
  have HB := (hb3.trans ((hb4.trans ((hb5.trans ((hb6.trans (hb7.mono hz6)).mono hz5)).mono hz4)).mono hz3))
  exact ⟨rfl, hB2'.trans (HB.mono hB2'.size)⟩
end Go.Proofs.YtmbjcgmcjackfaaDoor
