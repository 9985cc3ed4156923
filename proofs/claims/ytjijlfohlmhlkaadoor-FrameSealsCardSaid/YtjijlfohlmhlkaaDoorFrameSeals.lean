/-
  FrameSeals' contract: any payload has the frame that the document says, and is opened from it; a longer one has none. The conditions: the program's contracts; the variables' cells.
-/
import Derived.Test.YtjijlfohlmhlkaaDoorFrameRef2
import Derived.Test.YtjijlfohlmhlkaaDoorFrameTold
namespace Go.Proofs.YtjijlfohlmhlkaaDoor
open Go.RowKit FrameMath TextNat

set_option maxRecDepth 100000 in
set_option maxHeartbeats 8000000 in
theorem seals_true (hS : SealOk) (hO : OpenOk) (s a m : ByteArray) (w : World) (hT : Tables w) (hg : Handle w) (hs : s.size ≤ 9223372036854775807) (ha : a.size ≤ 9223372036854775807) (hm : m.size ≤ 9223372036854775807) :
    Calls Tryd.prog 3 #[.string s, .string a, .string m] w fun e w' => e = .returned (.bool true) ∧ Below w.heap.size w w' := by
  have HA := Lib.hid (awake_true hS hO w hT)
  have HT := Lib.hid hT
  have HH := Lib.hid hg
  have HHl := Lib.hid hg.lt
  replace hS := Lib.hid hS
  replace hO := Lib.hid hO
  clear hT hg
  go_enter Tryd.func3, Tryd.ntmps3
  go_wp2_with fail
  refine HA.out.mono ?_
  rintro e w0 ⟨rfl, hb⟩
  have HB := Lib.hid hb
  have HT0 := Lib.hid (HT.out.grown hb)
  clear HA hb HT
  by_cases h1 : 10000 < s.size
  · have t1 : decide ((10000 : Int) < (s.size : Int)) = true := decide_eq_true (by omega)
    have t1' : decide (10000 < s.size) = true := decide_eq_true h1
    clear h1
    go_wp2
    go_ret
    exact ⟨rfl, HB.out⟩
  have t1 : decide ((10000 : Int) < (s.size : Int)) = false := decide_eq_false (by omega)
  have t1' : decide (10000 < s.size) = false := decide_eq_false h1
  by_cases h2 : 3000 < a.size
  · have t2 : decide ((3000 : Int) < (a.size : Int)) = true := decide_eq_true (by omega)
    have t2' : decide (3000 < a.size) = true := decide_eq_true h2
    clear h1 h2
    go_wp2
    go_ret
    exact ⟨rfl, HB.out⟩
  have t2 : decide ((3000 : Int) < (a.size : Int)) = false := decide_eq_false (by omega)
  have t2' : decide (3000 < a.size) = false := decide_eq_false h2
  by_cases h3 : 3000 < m.size
  · have t3 : decide ((3000 : Int) < (m.size : Int)) = true := decide_eq_true (by omega)
    have t3' : decide (3000 < m.size) = true := decide_eq_true h3
    clear h1 h2 h3
    go_wp2
    go_ret
    exact ⟨rfl, HB.out⟩
  have t3 : decide ((3000 : Int) < (m.size : Int)) = false := decide_eq_false (by omega)
  have t3' : decide (3000 < m.size) = false := decide_eq_false h3
  go_wp2_with fail
  refine (hS.out s w0 HT0.out hs).mono ?_
  rintro e w1 ⟨h5, hb⟩
  have HT1 := Lib.hid (HT0.out.grown hb)
  replace HB := Lib.hid (HB.out.trans (hb.mono HB.out.size))
  clear hb HT0
  by_cases h8 : s.size ≤ 8192
  · rw [if_pos h8] at h5
    subst h5
    have u1 : decide ((8192 : Int) < (s.size : Int)) = false := decide_eq_false (by omega)
    have u1' : decide (8192 < s.size) = false := decide_eq_false (by omega)
    have hpl : (nats s).length ≤ 8192 := by rw [nats_len]; exact h8
    have HRS := Lib.hid (fun w => refSeal s w (by omega))
    obtain ⟨S, hS'⟩ : ∃ S, S = txt (framed (nats s)) := ⟨_, rfl⟩
    have HSN := Lib.hid (show nats S = framed (nats s) by rw [hS']; exact nats_framed hpl (nats_ok s))
    have hSz : S.size ≤ 17000 := by rw [hS', txt_framed_size]; omega
    have HSL := Lib.hid (show (framed (nats s)).length = S.size by rw [hS', txt_len])
    rw [← hS'] at HRS ⊢
    clear hS'
    have kl1 : a.size + S.size ≤ 9223372036854775807 := by omega
    have kl2 : (a ++ S).size + m.size ≤ 9223372036854775807 := by rw [ByteArray.size_append]; omega
    have HUz := Lib.hid (show (a ++ S ++ m).size ≤ 100000 by rw [ByteArray.size_append, ByteArray.size_append]; omega)
    have HU := Lib.hid (show openF (nats (a ++ S ++ m)) (a.size : Int) = some (nats s) by
      rw [nats_append, nats_append, HSN.out, List.append_assoc]
      unfold openF
      rw [if_pos (by rw [List.length_append, List.length_append, nats_len, framed_len]; omega)]
      have : ((nats a ++ (framed (nats s) ++ nats m)).drop (a.size : Int).toNat) = framed (nats s) ++ nats m := List.drop_left' (by rw [nats_len]; rfl)
      rw [this]
      exact stands_framed hpl (nats_ok s) _)
    have n1 : IntKind.i64.wrap ((a.size : Int) + (S.size : Int)) = (a.size : Int) + (S.size : Int) := by rw [IntKind.wrap_i64]; omega
    clear h1 h2 h3 h8 hpl
    go_wp2_with fail
    refine (hO.out (a ++ S ++ m) (a.size : Int) w1 HT1.out HUz.out (by omega)).mono ?_
    rintro e w2 ⟨h6, hb⟩
    have h7 := h6.some HU.out
    rw [HSL.out, txt_nats] at h7
    subst h7
    replace HB := Lib.hid (HB.out.trans (hb.mono HB.out.size))
    clear h6 hb
    go_wp2_with fail
    refine (HRS.out w2).mono ?_
    rintro e w3 ⟨rfl, hb⟩
    replace HB := Lib.hid (HB.out.trans (hb.mono HB.out.size))
    clear hb
    go_wp2
    go_ret
    exact ⟨by first | rfl | simp, HB.out⟩
  · rw [if_neg h8] at h5
    obtain ⟨x, rfl, hx⟩ := h5
    have HX := Lib.hid hx
    have u1 : decide ((8192 : Int) < (s.size : Int)) = true := decide_eq_true (by omega)
    have u1' : decide (8192 < s.size) = true := decide_eq_true (by omega)
    obtain ⟨T, y, rfl⟩ := hx.is.iface
    clear hx h1 h2 h3 h8
    go_wp2_with fail
    refine (told_ok _ 3 (s.size : Int) w1 HX.out (by omega) (HH.out.below HB.out HHl.out)).mono ?_
    rintro e w2 ⟨rfl, hb⟩
    replace HB := Lib.hid (HB.out.trans (hb.mono HB.out.size))
    clear hb
    go_wp2
    go_ret
    exact ⟨by first | rfl | simp, HB.out⟩
end Go.Proofs.YtjijlfohlmhlkaaDoor
