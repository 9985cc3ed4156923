/-
  The document's own device of chapter 8: Append, Sync, Cut, Read. The conditions: the device's cells.
-/
import Derived.Test.YtfdldjhndfohhaaDoorBlockRef
namespace Go.Proofs.YtfdldjhndfohhaaDoor
open Go.RowKit BlockMath TextNat

set_option maxRecDepth 100000 in
set_option maxHeartbeats 4000000 in
theorem refAppend (v : Nat) (d : Dk) (s : ByteArray) (w : World) (h : Rd w v d) (ok : Ok d) (hs : s.size ≤ 100000) :
    Calls Tryd.prog 21 #[ptr v, .string s] w fun e w' => e = .returned (.int .i64 (append s d).1) ∧ Rd w' v (append s d).2 ∧ But v w w' := by
  have H := Lib.hid h
  have HA := Lib.hid (fun n => refAll v d (w.drewN n) (h.drewN n) ok)
  have HD := Lib.hid (fun n => refDoes v d (w.drewN n) (h.drewN n) ok)
  have c2 := Lies.cell (i := 2) h rfl
  have c4 := Lies.cell (i := 4) h rfl
  have kA := ok.all
  have kR0 := ok.room0
  have kR1 := ok.room1
  have HZ := Lib.hid (show (all d).size ≤ 1048576 by rw [all_size]; exact kA)
  clear h
  cases ho : d.off with
  | true =>
    have HX := Lib.hid (append_off s ho)
    have HY := Lib.hid (doesB_off ho)
    have HW := Lib.hid (doesD_off ho)
    rw [HX.out]
    rw [ho] at c4
    go_enter Tryd.func21, Tryd.ntmps21
    go_wp2_with fail
    go_quiet (fail)
    go_wp2_with fail
    refine (HD.out _).mono ?_
    rintro e w2 ⟨rfl, hr, hb⟩
    rw [HW.out] at hr
    rw [HY.out]
    replace hr := Lib.hid hr
    replace hb := Lib.hid (But.trans (But.drewN nq (But.refl v w)) hb)
    go_wp2
    go_ret
    exact ⟨rfl, hr.out, hb.out⟩
  | false =>
    rw [ho] at c4
    have n1 : IntKind.i64.wrap (d.room - ((all d).size : Int)) = d.room - ((all d).size : Int) := by rw [IntKind.wrap_i64]; have := HZ.out; omega
    by_cases hf : d.room - ((all d).size : Int) < (s.size : Int)
    · have t1 : decide (d.room - ((all d).size : Int) < (s.size : Int)) = true := decide_eq_true hf
      have HX := Lib.hid (append_full (s := s) ho (by omega))
      rw [HX.out]
      clear hf
      go_enter Tryd.func21, Tryd.ntmps21
      go_wp2_with fail
      go_quiet (first | (go_at_call 20; exact Calls.quiet_of (HA.out _)))
      go_wp2
      go_ret
      exact ⟨rfl, H.out, But.drewN _ (But.refl v w)⟩
    · have t1 : decide (d.room - ((all d).size : Int) < (s.size : Int)) = false := decide_eq_false hf
      cases hd : doesB d with
      | true =>
        have HX := Lib.hid (show append s d = (0, { doesD d with late := (doesD d).late ++ s }) by unfold append; rw [if_neg (fun k => hf k.2), if_pos hd])
        have hl : (doesD d).late.size + s.size ≤ 9223372036854775807 := by rw [doesD_late]; omega
        rw [HX.out]
        clear hf
        go_enter Tryd.func21, Tryd.ntmps21
        go_wp2_with fail
        go_quiet (first | (go_at_call 20; exact Calls.quiet_of (HA.out _)))
        go_wp2_with fail
        refine (HD.out _).mono ?_
        rintro e w2 ⟨rfl, hr, hb⟩
        rw [hd]
        have HR := Lib.hid (rd_set (d' := { doesD d with late := (doesD d).late ++ s }) hr (i := 1) (x := .string ((doesD d).late ++ s)) rfl)
        have HB := Lib.hid (But.trans (But.drewN nq (But.refl v w)) hb)
        have d1 := Lies.cell (i := 1) hr rfl
        have f1 := Lies.free hr 1
        clear hr hb
        go_wp2
        go_ret
        exact ⟨rfl, HR.out, HB.out.trans (But.set _ _ _ _)⟩
      | false =>
        have HX := Lib.hid (show append s d = (5, doesD d) by unfold append; rw [if_neg (fun k => hf k.2), if_neg (by rw [hd]; simp)])
        rw [HX.out]
        clear hf
        go_enter Tryd.func21, Tryd.ntmps21
        go_wp2_with fail
        go_quiet (first | (go_at_call 20; exact Calls.quiet_of (HA.out _)))
        go_wp2_with fail
        refine (HD.out _).mono ?_
        rintro e w2 ⟨rfl, hr, hb⟩
        rw [hd]
        replace hr := Lib.hid hr
        replace hb := Lib.hid (But.trans (But.drewN nq (But.refl v w)) hb)
        go_wp2
        go_ret
        exact ⟨rfl, hr.out, hb.out⟩
set_option maxRecDepth 100000 in
set_option maxHeartbeats 4000000 in
theorem refSync (v : Nat) (d : Dk) (w : World) (h : Rd w v d) (ok : Ok d) :
    Calls Tryd.prog 23 #[ptr v] w fun e w' => e = .returned (.int .i64 (sync d).1) ∧ Rd w' v (sync d).2 ∧ But v w w' := by
  have HD := Lib.hid (refDoes v d w h ok)
  have OK := Lib.hid ok.does
  clear h
  cases hd : doesB d with
  | true =>
    have HX := Lib.hid (show sync d = (0, { doesD d with done := all (doesD d), late := ByteArray.empty }) by unfold sync; rw [if_pos hd])
    rw [HX.out]
    go_enter Tryd.func23, Tryd.ntmps23
    go_wp2_with fail
    refine HD.out.mono ?_
    rintro e w2 ⟨rfl, hr, hb⟩
    rw [hd]
    have HA := Lib.hid (refAll v (doesD d) w2 hr OK.out)
    have HR := Lib.hid hr
    have HB := Lib.hid hb
    clear hr hb
    go_wp2_with fail
    refine HA.out.mono ?_
    rintro e w3 ⟨rfl, n, rfl⟩
    have hr := HR.out.drewN n
    have f0 := Lies.free hr 0
    have f1 := Lies.free hr 1
    have d0 := Lies.cell (i := 0) hr rfl
    have d1 := Lies.cell (i := 1) hr rfl
    have HR2 := Lib.hid (rd_set (d' := { doesD d with done := all (doesD d), late := ByteArray.empty }) (rd_set (d' := { doesD d with done := all (doesD d) }) hr (i := 0) (x := .string (all (doesD d))) rfl) (i := 1) (x := .string ByteArray.empty) rfl)
    have HB2 := Lib.hid ((HB.out.trans (But.drewN n (But.refl v w2))).trans ((But.set v 0 _ (.string (all (doesD d)))).trans (But.set v 1 _ (.string ByteArray.empty))))
    clear hr
    go_wp2
    go_ret
    exact ⟨rfl, HR2.out, HB2.out⟩
  | false =>
    have HX := Lib.hid (show sync d = (5, doesD d) by unfold sync; rw [if_neg (by rw [hd]; simp)])
    rw [HX.out]
    go_enter Tryd.func23, Tryd.ntmps23
    go_wp2_with fail
    refine HD.out.mono ?_
    rintro e w2 ⟨rfl, hr, hb⟩
    rw [hd]
    replace hr := Lib.hid hr
    replace hb := Lib.hid hb
    go_wp2
    go_ret
    exact ⟨rfl, hr.out, hb.out⟩
end Go.Proofs.YtfdldjhndfohhaaDoor
