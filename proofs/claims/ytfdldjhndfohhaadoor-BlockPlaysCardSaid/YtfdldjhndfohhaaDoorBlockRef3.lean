/-
  The document's own device of chapter 8: Cut, Read. The conditions: the device's cells.
-/
import Derived.Test.YtfdldjhndfohhaaDoorBlockRef2
namespace Go.Proofs.YtfdldjhndfohhaaDoor
open Go.RowKit BlockMath TextNat

theorem cut_wrong {d : Dk} {n : Int} (ho : d.off = false) (h : n < 0 ∨ ((all d).size : Int) < n) : cut n d = (1, d) := by
  unfold cut
  rw [if_pos ⟨ho, h⟩]
theorem cut_yes {d : Dk} {n : Int} (h : ¬ (n < 0 ∨ ((all d).size : Int) < n)) (hd : doesB d = true) : cut n d = (0, cutD n.toNat (doesD d)) := by
  unfold cut
  rw [if_neg (fun k => h k.2), if_pos hd]
theorem cut_no {d : Dk} {n : Int} (h : ¬ (n < 0 ∨ ((all d).size : Int) < n)) (hd : doesB d = false) : cut n d = (5, doesD d) := by
  unfold cut
  rw [if_neg (fun k => h k.2), if_neg (by rw [hd]; simp)]
set_option maxRecDepth 100000 in
set_option maxHeartbeats 4000000 in
theorem refCut (v : Nat) (d : Dk) (n : Int) (w : World) (h : Rd w v d) (ok : Ok d) (hn : I64 n) :
    Calls Tryd.prog 25 #[ptr v, .int .i64 n] w fun e w' => e = .returned (.int .i64 (cut n d).1) ∧ Rd w' v (cut n d).2 ∧ But v w w' := by
  have H := Lib.hid h
  have HA := Lib.hid (refAll v d w h ok)
  have HD := Lib.hid (fun n => refDoes v d (w.drewN n) (h.drewN n) ok)
  have c4 := Lies.cell (i := 4) h rfl
  have kA := ok.all
  have HZ := Lib.hid (show (all d).size ≤ 1048576 by rw [all_size]; exact kA)
  cases ho : d.off with
  | true =>
    have HX := Lib.hid (cut_off n ho)
    have HY := Lib.hid (doesB_off ho)
    have HW := Lib.hid (doesD_off ho)
    have HD0 := Lib.hid (refDoes v d w h ok)
    rw [HX.out]
    rw [ho] at c4
    clear h
    go_enter Tryd.func25, Tryd.ntmps25
    go_wp2_with fail
    refine HD0.out.mono ?_
    rintro e w2 ⟨rfl, hr, hb⟩
    rw [HW.out] at hr
    rw [HY.out]
    replace hr := Lib.hid hr
    replace hb := Lib.hid hb
    go_wp2
    go_ret
    exact ⟨rfl, hr.out, hb.out⟩
  | false =>
    rw [ho] at c4
    clear h
    by_cases h0 : n < 0
    · have t0 : decide (n < 0) = true := decide_eq_true h0
      have HX := Lib.hid (cut_wrong ho (Or.inl h0))
      rw [HX.out]
      clear h0
      go_enter Tryd.func25, Tryd.ntmps25
      go_wp2
      go_ret
      exact ⟨rfl, H.out, But.refl v w⟩
    have t0 : decide (n < 0) = false := decide_eq_false h0
    obtain ⟨m, rfl⟩ : ∃ m : Nat, n = (m : Int) := ⟨n.toNat, by omega⟩
    by_cases h1 : (all d).size < m
    · have t1 : decide (((all d).size : Int) < (m : Int)) = true := decide_eq_true (by omega)
      have t1' : decide ((all d).size < m) = true := decide_eq_true h1
      have HX := Lib.hid (cut_wrong (n := (m : Int)) ho (Or.inr (by omega)))
      rw [HX.out]
      clear h0 h1
      go_enter Tryd.func25, Tryd.ntmps25
      go_wp2_with fail
      refine HA.out.mono ?_
      rintro e w2 ⟨rfl, n, rfl⟩
      go_wp2
      go_ret
      exact ⟨rfl, H.out.drewN n, But.drewN n (But.refl v w)⟩
    have t1 : decide (((all d).size : Int) < (m : Int)) = false := decide_eq_false (by omega)
    have t1' : decide ((all d).size < m) = false := decide_eq_false h1
    have hnot : ¬ ((m : Int) < 0 ∨ ((all d).size : Int) < (m : Int)) := by omega
    cases hd : doesB d with
    | false =>
      have HX := Lib.hid (cut_no hnot hd)
      rw [HX.out]
      clear h0 h1 hnot
      go_enter Tryd.func25, Tryd.ntmps25
      go_wp2_with fail
      refine HA.out.mono ?_
      rintro e w2 ⟨rfl, n, rfl⟩
      go_wp2_with fail
      refine (HD.out n).mono ?_
      rintro e w2 ⟨rfl, hr, hb⟩
      rw [hd]
      replace hr := Lib.hid hr
      replace hb := Lib.hid (But.trans (But.drewN n (But.refl v w)) hb)
      go_wp2
      go_ret
      exact ⟨rfl, hr.out, hb.out⟩
    | true =>
      have HX := Lib.hid (cut_yes hnot hd)
      have hz := all_size d
      have hm : m ≤ d.done.size + d.late.size := by omega
      have hq := ok.does.all
      rw [← doesD_done d, ← doesD_late d] at hm
      clear h0 h1 hnot hz ok
      obtain ⟨d2, hd2⟩ : ∃ d2, d2 = doesD d := ⟨_, rfl⟩
      rw [← hd2] at hm hq HX
      have HD2 := Lib.hid hd2
      clear hd2
      by_cases h2 : m ≤ d2.done.size
      · have t2 : decide ((m : Int) ≤ (d2.done.size : Int)) = true := decide_eq_true (by omega)
        have t2' : decide (m ≤ d2.done.size) = true := decide_eq_true h2
        have HE := Lib.hid (show cut (m : Int) d = (0, { d2 with done := d2.done.extract 0 m, late := ByteArray.empty }) by rw [HX.out]; unfold cutD; rw [show (m : Int).toNat = m by omega, if_pos h2])
        rw [HE.out]
        clear HX HE
        go_enter Tryd.func25, Tryd.ntmps25
        go_wp2_with fail
        refine HA.out.mono ?_
        rintro e w2 ⟨rfl, n, rfl⟩
        go_wp2_with fail
        refine (HD.out n).mono ?_
        rintro e w2 ⟨rfl, hr, hb⟩
        rw [hd]
        replace hb := Lib.hid (But.trans (But.drewN n (But.refl v w)) hb)
        rw [← HD2.out] at hr
        clear c4 t1 t1' hd
        have c0 := Lies.cell (i := 0) hr rfl
        have c1 := Lies.cell (i := 1) hr rfl
        have f0 := Lies.free hr 0
        have f1 := Lies.free hr 1
        have HR2 := Lib.hid (rd_set (d' := { d2 with done := d2.done.extract 0 m, late := ByteArray.empty }) (rd_set (d' := { d2 with done := d2.done.extract 0 m }) hr (i := 0) (x := .string (d2.done.extract 0 m)) rfl) (i := 1) (x := .string ByteArray.empty) rfl)
        have HB2 := Lib.hid (hb.out.trans ((But.set v 0 _ (.string (d2.done.extract 0 m))).trans (But.set v 1 _ (.string ByteArray.empty))))
        clear hr
        go_wp2
        go_ret
        exact ⟨rfl, HR2.out, HB2.out⟩
      · have t2 : decide ((m : Int) ≤ (d2.done.size : Int)) = false := decide_eq_false (by omega)
        have t2' : decide (m ≤ d2.done.size) = false := decide_eq_false h2
        obtain ⟨j, hj0⟩ : ∃ j, m = d2.done.size + j := ⟨m - d2.done.size, by omega⟩
        have HE := Lib.hid (show cut (m : Int) d = (0, { d2 with late := d2.late.extract 0 j }) by rw [HX.out]; unfold cutD; rw [show (m : Int).toNat = m by omega, if_neg h2, show m - d2.done.size = j by omega])
        have n1 : IntKind.i64.wrap ((m : Int) - (d2.done.size : Int)) = (j : Int) := by rw [IntKind.wrap_i64]; omega
        have hj : j ≤ d2.late.size := by omega
        rw [HE.out]
        clear HX HE hj0
        go_enter Tryd.func25, Tryd.ntmps25
        go_wp2_with fail
        refine HA.out.mono ?_
        rintro e w2 ⟨rfl, n, rfl⟩
        go_wp2_with fail
        refine (HD.out n).mono ?_
        rintro e w2 ⟨rfl, hr, hb⟩
        rw [hd]
        replace hb := Lib.hid (But.trans (But.drewN n (But.refl v w)) hb)
        rw [← HD2.out] at hr
        clear c4 t1 t1' hd
        have c0 := Lies.cell (i := 0) hr rfl
        have c1 := Lies.cell (i := 1) hr rfl
        have HR := Lib.hid hr
        clear hr
        go_wp2_with fail
        go_still_tail 15, (by kernel_rfl)
        change wpList _ _ _ _ _ w2.drew
        have hr : Rd w2.drew v d2 := HR.out
        replace hb := Lib.hid (hb.out.trans (But.drew (But.refl v w2)))
        clear c0 c1
        generalize w2.drew = w3 at hr hb ⊢
        have c1 := Lies.cell (i := 1) hr rfl
        have f1 := Lies.free hr 1
        have HR2 := Lib.hid (rd_set (d' := { d2 with late := d2.late.extract 0 j }) hr (i := 1) (x := .string (d2.late.extract 0 j)) rfl)
        clear hr
        go_wp2
        go_ret
        exact ⟨rfl, HR2.out, hb.out.trans (But.set _ _ _ _)⟩
theorem read_wrong {d : Dk} {a b : Int} (ho : d.off = false) (h : a < 0 ∨ b < a ∨ ((all d).size : Int) < b) : read a b d = (ByteArray.empty, 1) := by
  unfold BlockMath.read
  rw [if_neg (by rw [ho]; simp), if_pos h]
theorem read_right {d : Dk} {a b : Nat} (ho : d.off = false) (h1 : a ≤ b) (h2 : b ≤ (all d).size) : read a b d = ((all d).extract a b, 0) := by
  unfold BlockMath.read
  rw [if_neg (by rw [ho]; simp), if_neg (by omega)]
  rfl
set_option maxRecDepth 100000 in
set_option maxHeartbeats 4000000 in
theorem refRead (v : Nat) (d : Dk) (a b : Int) (w : World) (h : Rd w v d) (ok : Ok d) (ha : I64 a) (hb : I64 b) :
    Calls Tryd.prog 26 #[ptr v, .int .i64 a, .int .i64 b] w fun e w' => e = .returned (.tuple #[.string (read a b d).1, .int .i64 (read a b d).2]) ∧ ∃ n, w' = w.drewN n := by
  have HA := Lib.hid (fun n => refAll v d (w.drewN n) (h.drewN n) ok)
  have HA0 := Lib.hid (refAll v d w h ok)
  have c4 := Lies.cell (i := 4) h rfl
  have kA := ok.all
  have HZ := Lib.hid (show (all d).size ≤ 1048576 by rw [all_size]; exact kA)
  clear h
  cases ho : d.off with
  | true =>
    rw [read_off a b ho]
    rw [ho] at c4
    go_enter Tryd.func26, Tryd.ntmps26
    go_wp2
    go_ret2
    exact ⟨rfl, 0, rfl⟩
  | false =>
    rw [ho] at c4
    by_cases h0 : a < 0
    · rw [read_wrong ho (Or.inl h0)]
      have t0 : decide (a < 0) = true := decide_eq_true h0
      clear h0
      go_enter Tryd.func26, Tryd.ntmps26
      go_wp2
      go_ret2
      exact ⟨rfl, 0, rfl⟩
    have t0 : decide (a < 0) = false := decide_eq_false h0
    by_cases h1 : b < a
    · rw [read_wrong ho (Or.inr (Or.inl h1))]
      have t1 : decide (b < a) = true := decide_eq_true h1
      clear h0 h1
      go_enter Tryd.func26, Tryd.ntmps26
      go_wp2
      go_ret2
      exact ⟨rfl, 0, rfl⟩
    obtain ⟨p, rfl⟩ : ∃ p : Nat, a = (p : Int) := ⟨a.toNat, by omega⟩
    obtain ⟨q, rfl⟩ : ∃ q : Nat, b = (q : Int) := ⟨b.toNat, by omega⟩
    have t1 : decide ((q : Int) < (p : Int)) = false := decide_eq_false h1
    have t1' : decide (q < p) = false := decide_eq_false (by omega)
    by_cases h2 : (all d).size < q
    · rw [read_wrong ho (Or.inr (Or.inr (by omega)))]
      have t2 : decide (((all d).size : Int) < (q : Int)) = true := decide_eq_true (by omega)
      have t2' : decide ((all d).size < q) = true := decide_eq_true h2
      clear h0 h1 h2
      go_enter Tryd.func26, Tryd.ntmps26
      go_wp2_with fail
      refine HA0.out.mono ?_
      rintro e w2 ⟨rfl, n, rfl⟩
      go_wp2
      go_ret2
      exact ⟨rfl, n, rfl⟩
    have t2 : decide (((all d).size : Int) < (q : Int)) = false := decide_eq_false (by omega)
    have t2' : decide ((all d).size < q) = false := decide_eq_false h2
    rw [read_right ho (by omega) (by omega)]
    have hpq : p ≤ q := by omega
    have hqa : q ≤ (all d).size := by omega
    clear h0 h1 h2
    go_enter Tryd.func26, Tryd.ntmps26
    go_wp2_with fail
    refine HA0.out.mono ?_
    rintro e w2 ⟨rfl, n, rfl⟩
    go_wp2_with fail
    refine (HA.out n).mono ?_
    rintro e w2 ⟨rfl, m, rfl⟩
    go_wp2
    go_ret2
    exact ⟨rfl, n + m, rfl⟩
end Go.Proofs.YtfdldjhndfohhaaDoor
