/-
  FrameOpens' contract: at any place of any text stands the frame that the document says, or none, with the error that it says. The conditions: the program's contracts; the variables' cells.
-/
import Derived.Test.YtjijlfohlmhlkaaDoorFrameRef3
import Derived.Test.YtjijlfohlmhlkaaDoorFrameTold
namespace Go.Proofs.YtjijlfohlmhlkaaDoor
open Go.RowKit FrameMath TextNat

set_option maxRecDepth 100000 in
set_option maxHeartbeats 8000000 in
theorem opens_true (hS : SealOk) (hO : OpenOk) (s : ByteArray) (k : Int) (w : World) (hT : Tables w) (hg : Handle w) (hs : s.size ≤ 9223372036854775807) (hk : I64 k) :
    Calls Tryd.prog 4 #[.string s, .int .i64 k] w fun e w' => e = .returned (.bool true) ∧ Below w.heap.size w w' := by
  have HA := Lib.hid (awake_true hS hO w hT)
  have HT := Lib.hid hT
  have HH := Lib.hid hg
  have HHl := Lib.hid hg.lt
  replace hO := Lib.hid hO
  clear hT hg
  go_enter Tryd.func4, Tryd.ntmps4
  go_wp2_with fail
  refine HA.out.mono ?_
  rintro e w0 ⟨rfl, hb⟩
  have HB := Lib.hid hb
  have HT0 := Lib.hid (HT.out.grown hb)
  clear HA hb HT
  by_cases h1 : 5000 < s.size
  · have t1 : decide ((5000 : Int) < (s.size : Int)) = true := decide_eq_true (by omega)
    have t1' : decide (5000 < s.size) = true := decide_eq_true h1
    clear h1
    go_wp2
    go_ret
    exact ⟨rfl, HB.out⟩
  have t1 : decide ((5000 : Int) < (s.size : Int)) = false := decide_eq_false (by omega)
  have t1' : decide (5000 < s.size) = false := decide_eq_false h1
  have HR := Lib.hid (fun w => refOpen s k w (by omega) hk)
  have hs5 : s.size ≤ 100000 := by omega
  go_wp2_with fail
  refine (hO.out s k w0 HT0.out hs5 hk).mono ?_
  rintro e w1 ⟨h6, hb⟩
  replace HB := Lib.hid (HB.out.trans (hb.mono HB.out.size))
  clear hb HT0
  cases ho : openF (nats s) k with
  | some p =>
    have h7 := h6.some ho
    obtain ⟨P, hP⟩ : ∃ P, P = txt p := ⟨_, rfl⟩
    obtain ⟨z, hz⟩ : ∃ z, z = k + ((framed p).length : Int) := ⟨_, rfl⟩
    have HR2 := Lib.hid (fun w : World => (HR.out w).mono (R' := fun e w' => e = .returned (.tuple #[.string P, .int .i64 z, .bool true]) ∧ Below w.heap.size w w') (by
      rintro e w' ⟨h, hb⟩
      unfold RefOpenIs at h
      rw [ho] at h
      exact ⟨by rw [hP, hz]; exact h, hb⟩))
    rw [← hP, ← hz] at h7
    subst h7
    clear h6 hP hz HR h1
    go_wp2_with fail
    refine (HR2.out w1).mono ?_
    rintro e w2 ⟨rfl, hb⟩
    replace HB := Lib.hid (HB.out.trans (hb.mono HB.out.size))
    clear hb
    go_wp2
    go_ret
    exact ⟨by first | rfl | simp, HB.out⟩
  | none =>
    obtain ⟨x, rfl, hx⟩ := h6.none ho
    have HR2 := Lib.hid (fun w : World => (HR.out w).mono (R' := fun e w' => e = .returned (.tuple #[.string ⟨#[]⟩, .int .i64 k, .bool false]) ∧ Below w.heap.size w w') (by
      rintro e w' ⟨h, hb⟩
      unfold RefOpenIs at h
      rw [ho] at h
      exact ⟨h, hb⟩))
    have HX := Lib.hid hx
    obtain ⟨T, y, rfl⟩ := hx.is.iface
    clear hx h6 HR h1
    go_wp2_with fail
    refine (HR2.out w1).mono ?_
    rintro e w2 ⟨rfl, hb⟩
    have HX2 := Lib.hid (HX.out.below hb)
    replace HB := Lib.hid (HB.out.trans (hb.mono HB.out.size))
    clear hb HX
    by_cases hks : k = (s.size : Int)
    · have HX3 := HX2.out
      rw [if_pos hks] at HX3
      replace HX3 := Lib.hid HX3
      subst hks
      clear HX2
      go_wp2_with (go_at_call 11; refine (told_ok _ 7 (s.size : Int) w2 HX3.out (by omega) (HH.out.below HB.out HHl.out)).mono ?_; rintro e w3 ⟨rfl, hb⟩; replace HB := Lib.hid (HB.out.trans (hb.mono HB.out.size)); clear hb)
      go_ret
      exact ⟨by first | rfl | simp, HB.out⟩
    · have HX3 := HX2.out
      rw [if_neg hks] at HX3
      replace HX3 := Lib.hid HX3
      have u1 : (k == (s.size : Int)) = false := by rw [beq_eq_false_iff_ne]; exact hks
      clear HX2 hks
      go_wp2_with (go_at_call 11; refine (told_ok _ 2 k w2 HX3.out (by omega) (HH.out.below HB.out HHl.out)).mono ?_; rintro e w3 ⟨rfl, hb⟩; replace HB := Lib.hid (HB.out.trans (hb.mono HB.out.size)); clear hb)
      go_ret
      exact ⟨by first | rfl | simp, HB.out⟩
end Go.Proofs.YtjijlfohlmhlkaaDoor
