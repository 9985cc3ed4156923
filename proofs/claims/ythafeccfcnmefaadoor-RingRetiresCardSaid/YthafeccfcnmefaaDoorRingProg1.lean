/-
  How the program's ring of chapter 11 lies in memory, and its functions' contracts. The conditions: mac's table.
-/
import Derived.Test.YthafeccfcnmefaaDoorRingAwake
import Derived.Test.YthafeccfcnmefaaDoorMacDerive
import Derived.Test.YthafeccfcnmefaaDoorFailAt
import Derived.Test.YthafeccfcnmefaaDoorLies
import Derived.Test.YthafeccfcnmefaaDoorClone
namespace Go.Proofs.YthafeccfcnmefaaDoor
open Go.RowKit TextNat

abbrev rname : ByteArray := ⟨#[114, 105, 110, 103]⟩
def RAt (w : World) (b : Nat) (S : Nat → Prop) (m : ByteArray) (c : Int) : Prop := Lies w b [.string m, .int .i64 c] 45 ∧ ∀ k, S k ↔ k = b
def rng : Rng where
  at_ := RAt
  stays := by
    rintro w w' b S m c ⟨h1, h2⟩ hs hk
    exact ⟨(hk b ((h2 b).2 rfl)).trans h1, h2⟩
  lt := by
    rintro w b S m c ⟨h1, h2⟩ k hk
    rw [(h2 k).1 hk]
    exact h1.lt
/-- The program's errors. -/
theorem ring_err (n c : Int) (w : World) : Calls Tryd.prog 16 #[.string rname, .int .i64 n, .iface 31 (.int .i64 c)] w fun e w' => (∃ x, e = .returned x ∧ ErrIs w' c x) ∧ Below w.heap.size w w' := by
  refine (at_chain rname n [] c _ w rfl).mono ?_
  rintro e w' ⟨r, rfl, h, hb⟩
  exact ⟨⟨r, rfl, ⟨_, h⟩⟩, hb⟩
theorem ring_clone (s : ByteArray) (w : World) (hs : s.size ≤ 281474976710656) : Calls Tryd.prog 17 #[.string s] w fun e w' => e = .returned (.string s) ∧ Below w.heap.size w w' := by
  have HC := Lib.hid (fun w => Tryd.stringslite_Clone s w hs)
  clear hs
  go_enter Tryd.func17, Tryd.ntmps17
  go_wp2_with (go_at_call 23; refine (HC.out _).mono ?_; rintro e w2 ⟨rfl, hb⟩)
  go_ret
  exact ⟨rfl, hb⟩
set_option maxRecDepth 100000 in
theorem rnewOk : RNewOk rng := by
  intro m c w hm hc
  obtain ⟨k, hk⟩ : ∃ k, k = m.size := ⟨_, rfl⟩
  have e1 : (m.size : Int) = (k : Int) := by omega
  have HE := Lib.hid (ring_err 0 1 w)
  have HQ := Lib.hid (show rightB m c = (!decide (k < 1) && !decide (64 < k) && !decide (c < 0) && !decide (1099511627776 < c)) by
    unfold rightB
    rw [← hk, Bool.eq_iff_iff]
    simp only [Bool.and_eq_true, decide_eq_true_eq, Bool.not_eq_true', decide_eq_false_iff_not]
    omega)
  have HC := Lib.hid (show k ≤ 64 → Calls Tryd.prog 17 #[.string m] w (fun e w' => e = .returned (.string m) ∧ Below w.heap.size w w') from fun h => ring_clone m w (by omega))
  clear hk hm hc
  cases q1 : decide (k < 1) <;> cases q2 : decide (64 < k) <;> cases q3 : decide (c < 0) <;> cases q4 : decide (1099511627776 < c)
  all_goals
    have r1 : decide ((k : Int) < 1) = decide (k < 1) := decide_eq_decide.2 (by omega)
    have r2 : decide ((64 : Int) < (k : Int)) = decide (64 < k) := decide_eq_decide.2 (by omega)
    rw [q1] at r1
    rw [q2] at r2
    rw [q1, q2, q3, q4] at HQ
    rw [HQ.out]
    go_enter Tryd.func7, Tryd.ntmps7
    go_wp2_with (first
      | (go_at_call 16; refine HE.out.mono ?_; rintro e w2 ⟨⟨x, rfl, hx⟩, hb⟩)
      | (go_at_call 17; refine (HC.out (Nat.le_of_not_lt (of_decide_eq_false q2))).mono ?_; rintro e w2 ⟨rfl, hb⟩; have HB := Lib.hid (hb.alloc hb.size (.cells #[.string m, .int .i64 c] 45)); have HL := Lib.hid (Lies.new w2 [.string m, .int .i64 c] 45); have HZ := Lib.hid hb.size; clear hb))
    go_ret2
    first
      | exact ⟨⟨_, rfl, fun k => k = w2.heap.size, ⟨HL.out, fun _ => Iff.rfl⟩, fun k hk => hk ▸ HZ.out⟩, HB.out⟩
      | exact ⟨⟨_, rfl, hx⟩, hb⟩
set_option maxRecDepth 100000 in
theorem currentOk : CurrentOk rng := by
  intro b S m c w h hr
  have c1 := Lies.cell (i := 1) h.1 rfl
  clear h hr
  go_enter Tryd.func13, Tryd.ntmps13
  go_wp2
  go_ret
  exact ⟨rfl, Below.refl _ _⟩
set_option maxRecDepth 100000 in
theorem alive_raw (b : Nat) (m : ByteArray) (c n : Int) (w : World) (h : Lies w b [.string m, .int .i64 c] 45) (hc : 0 ≤ c ∧ c ≤ 1099511627776) : Calls Tryd.prog 14 #[rptr b, .int .i64 n] w fun e w' => e = .returned (.bool (aliveB c n)) ∧ w' = w := by
  have c1 := Lies.cell (i := 1) h rfl
  have k1 : IntKind.i64.wrap (c - 2) = c - 2 := by rw [IntKind.wrap_i64]; omega
  by_cases hle : c - 2 ≤ 0
  · have km : max 0 (c - 2) = 0 := by omega
    have hlt : ¬ 0 < c - 2 := by omega
    have HQ := Lib.hid (show aliveB c n = (decide (0 ≤ n) && decide (n ≤ 1099511627776)) by
      unfold aliveB
      rw [Bool.eq_iff_iff]
      simp only [Bool.and_eq_true, decide_eq_true_eq]
      omega)
    clear h hc
    by_cases d1 : 0 ≤ n <;> by_cases d2 : n ≤ 1099511627776
    all_goals
      simp only [d1, d2, decide_true, decide_false, Bool.and_true, Bool.and_false] at HQ
      go_enter Tryd.func14, Tryd.ntmps14
      go_wp2
      all_goals first | (go_ret; exact ⟨by rw [HQ.out]; rfl, rfl⟩) | (exfalso; omega)
  · have km : max 0 (c - 2) = c - 2 := by omega
    have hlt : 0 < c - 2 := by omega
    have HQ := Lib.hid (show aliveB c n = (decide (c - 2 ≤ n) && decide (n ≤ 1099511627776)) by
      unfold aliveB
      rw [Bool.eq_iff_iff]
      simp only [Bool.and_eq_true, decide_eq_true_eq]
      omega)
    clear h hc
    by_cases d1 : c - 2 ≤ n <;> by_cases d2 : n ≤ 1099511627776
    all_goals
      simp only [d1, d2, decide_true, decide_false, Bool.and_true, Bool.and_false] at HQ
      go_enter Tryd.func14, Tryd.ntmps14
      go_wp2
      all_goals first | (go_ret; exact ⟨by rw [HQ.out]; rfl, rfl⟩) | (exfalso; omega)
theorem aliveOk : AliveOk rng := fun b S m c n w h hr _ => by
  have q := right_bounds hr
  refine (alive_raw b m c n w h.1 ⟨q.1, q.2.1⟩).mono ?_
  rintro e w' ⟨rfl, rfl⟩
  exact ⟨rfl, Below.refl _ _⟩
set_option maxRecDepth 100000 in
theorem keyOk : KeyOk rng := by
  intro b S m c n w h hr hn hP
  have q := right_bounds hr
  have HA := Lib.hid (alive_raw b m c n w h.1 ⟨q.1, q.2.1⟩)
  have HC := Lib.hid (currentOk b S m c w h hr)
  have c0 := Lies.cell (i := 0) h.1 rfl
  have c1 := Lies.cell (i := 1) h.1 rfl
  have HM := Lib.hid (show m.size ≤ 5000 by omega)
  have HP := Lib.hid hP
  have HE := Lib.hid (fun w1 => ring_err c 9 w1)
  cases hal : aliveB c n with
  | true =>
    rw [hal] at HA
    have HD := Lib.hid (show Calls Tryd.prog 20 #[.string m, .int .i64 n] w fun e w' => e = .returned (.string (keyOf m n)) ∧ Below w.heap.size w w' from macDerive m n w HM.out hP)
    clear h hr hn hP q hal
    go_enter Tryd.func11, Tryd.ntmps11
    go_wp2_with (go_at_call 14; refine HA.out.mono ?_; rintro e w2 ⟨rfl, hw⟩; rw [hw]; clear hw)
    refine HD.out.mono ?_
    rintro e w2 ⟨rfl, hb⟩
    have HB := Lib.hid hb
    clear hb
    go_wp2
    go_ret2
    exact ⟨rfl, HB.out⟩
  | false =>
    rw [hal] at HA
    clear h hr hn hP q hal
    go_enter Tryd.func11, Tryd.ntmps11
    go_wp2_with (go_at_call 14; refine HA.out.mono ?_; rintro e w2 ⟨rfl, hw⟩; rw [hw]; clear hw)
    refine HC.out.mono ?_
    rintro e w2 ⟨rfl, hb⟩
    have HB := Lib.hid hb
    clear hb
    go_wp2_with fail
    refine (HE.out w2).mono ?_
    rintro e w3 ⟨⟨x, rfl, hx⟩, hb⟩
    have HX := Lib.hid hx
    have HB2 := Lib.hid (HB.out.trans (hb.mono HB.out.size))
    clear hb hx
    go_wp2
    go_ret2
    exact ⟨⟨x, rfl, HX.out⟩, HB2.out⟩
set_option maxRecDepth 100000 in
theorem raiseOk : RaiseOk rng := by
  intro b S m c n w h hr hn
  have HH := Lib.hid h
  have c1 := Lies.cell (i := 1) h.1 rfl
  have f1 := Lies.free h.1 1
  have L2 := Lib.hid (show Lies (w.setCell ⟨b, 1, none⟩ (.int .i64 n)) b [.string m, .int .i64 n] 45 from h.1.set 1 (.int .i64 n))
  have A2 := Lib.hid (show Apart S w (w.setCell ⟨b, 1, none⟩ (.int .i64 n)) from let q := But.set b 1 w (.int .i64 n); ⟨q.os, q.tape, q.output, q.size, fun k hk hs => q.block k hk fun e => hs ((h.2 k).2 e)⟩)
  have HQ := Lib.hid (show upB c n = (!decide (n ≤ c) && !decide (1099511627776 < n)) by
    unfold upB
    rw [Bool.eq_iff_iff]
    simp only [Bool.and_eq_true, decide_eq_true_eq, Bool.not_eq_true', decide_eq_false_iff_not]
    omega)
  clear h hr hn
  cases q1 : decide (n ≤ c) <;> cases q2 : decide (1099511627776 < n)
  all_goals
    rw [q1, q2] at HQ
    rw [HQ.out]
    go_enter Tryd.func10, Tryd.ntmps10
    go_wp2
    go_ret
    first
      | exact ⟨rfl, ⟨S, ⟨L2.out, HH.out.2⟩, fun _ hk => .inl hk⟩, A2.out⟩
      | exact ⟨rfl, ⟨S, HH.out, fun _ hk => .inl hk⟩, .refl S _⟩
set_option maxRecDepth 100000 in
theorem rnoneOk : RNoneOk := by
  intro n w hn
  clear hn
  have HA := Lib.hid (show Calls Tryd.prog 14 #[.pointer none, .int .i64 n] w fun e w' => e = .returned (.bool false) ∧ w' = w by
    go_enter Tryd.func14, Tryd.ntmps14
    go_wp2
    go_ret
    exact ⟨rfl, rfl⟩)
  have HC := Lib.hid (show Calls Tryd.prog 13 #[.pointer none] w fun e w' => e = .returned (.int .i64 0) ∧ w' = w by
    go_enter Tryd.func13, Tryd.ntmps13
    go_wp2
    go_ret
    exact ⟨rfl, rfl⟩)
  have HE := Lib.hid (ring_err 0 9 w)
  refine ⟨?_, ?_, ?_, ?_⟩
  · refine HC.out.mono ?_
    rintro e w' ⟨rfl, rfl⟩
    exact ⟨rfl, Below.refl _ _⟩
  · refine HA.out.mono ?_
    rintro e w' ⟨rfl, rfl⟩
    exact ⟨rfl, Below.refl _ _⟩
  · go_enter Tryd.func11, Tryd.ntmps11
    go_wp2_with (first
      | (go_at_call 14; refine HA.out.mono ?_; rintro e w2 ⟨rfl, hw⟩; rw [hw]; clear hw)
      | (go_at_call 13; refine HC.out.mono ?_; rintro e w2 ⟨rfl, hw⟩; rw [hw]; clear hw))
    refine HE.out.mono ?_
    rintro e w3 ⟨⟨x, rfl, hx⟩, hb⟩
    have HX := Lib.hid hx
    have HB2 := Lib.hid hb
    clear hb hx
    go_wp2
    go_ret2
    exact ⟨⟨x, rfl, HX.out⟩, HB2.out⟩
  · go_enter Tryd.func10, Tryd.ntmps10
    go_wp2
    go_ret
    exact ⟨rfl, Below.refl _ _⟩
end Go.Proofs.YthafeccfcnmefaaDoor
