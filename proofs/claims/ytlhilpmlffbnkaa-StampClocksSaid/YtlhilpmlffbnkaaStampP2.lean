/-
  The contracts of See and Next of chapter 7, and of the methods of a nil clock. No conditions but those typed.
-/
import Derived.Test.YtlhilpmlffbnkaaStampP1
namespace Go.Proofs.Ytlhilpmlffbnkaa
open Go.RowKit StampMath

theorem But.put {pb g : Nat} {w w' : World} (h : But pb w w') (hg : w.heap.size ≤ g) (j : Nat) (v : Value) : But pb w (w'.setCell ⟨g, j, none⟩ v) :=
  ⟨h.os, h.tape, h.output, by have := h.size; simpa [World.setCell] using this, fun k hk hn => (Below.heap_setCell _ _ _ _ (by show k ≠ g; omega)).trans (h.block k hk hn)⟩
set_option maxRecDepth 100000 in
theorem seeOk : SeeOk := by
  intro b r t s w h ht0 ht1 hs
  have HE := Lib.hid (fun c w1 => refusal_ok c w1)
  have HT := Lib.hid (isTime_ok s w)
  have HL := Lib.hid h
  have HB := Lib.hid (Below.refl w.heap.size w)
  by_cases hr : 0 ≤ s ∧ s ≤ 1099511627776
  · have ht : timeB s = true := by unfold timeB; rw [decide_eq_true hr.1, decide_eq_true hr.2]; rfl
    rw [ht] at HT
    have c0 := h.cell (i := 0) rfl
    have c1 := h.cell (i := 1) rfl
    have f1 := h.free 1
    simp only [SeeIs, if_pos hr]
    clear hr
    clear h ht
    go_enter Try.func16, Try.ntmps16
    go_wp2_with (go_at_call 18; refine HT.out.mono ?_; rintro e w2 ⟨rfl, rfl⟩)
    all_goals
      go_ret
      refine ⟨⟨rfl, ?_⟩, But.set b 1 _ _⟩
    · rw [show max t s = s by omega]
      exact HL.out.set 1 (.int .i64 s)
    · rw [show max t s = t by omega]
      exact HL.out.set 1 (.int .i64 t)
  · have ht : timeB s = false := by unfold timeB; rw [Bool.and_eq_false_iff]; simp; omega
    rw [ht] at HT
    simp only [SeeIs, if_neg hr]
    clear hr
    clear h ht
    go_enter Try.func16, Try.ntmps16
    go_wp2_with (first
      | (go_at_call 18; refine HT.out.mono ?_; rintro e w2 ⟨rfl, rfl⟩)
      | (go_at_call 19; refine (HE.out _ _).mono ?_; rintro e w2 ⟨⟨b, rfl, hle, hx⟩, hb⟩; replace hx := Lib.hid hx; replace hb := Lib.hid hb))
    go_ret
    exact ⟨⟨⟨_, rfl, hx.out.is⟩, HL.out.below hb.out⟩, But.of hb.out⟩
set_option maxRecDepth 100000 in
theorem noneOk : NoneOk := by
  refine ⟨fun w => ?_, fun s w hs => ?_, fun w => ?_⟩
  · have HE := Lib.hid (refusal_ok 1 (w.alloc (.cells #[.int .i64 0, .int .i64 0] 25)))
    have HA := Lib.hid (show Below w.heap.size w (w.alloc (.cells #[.int .i64 0, .int .i64 0] 25)) from (Below.refl _ _).alloc (Nat.le_refl _) _)
    have HL := Lib.hid (Lies.new w [.int .i64 0, .int .i64 0] 25)
    go_enter Try.func15, Try.ntmps15
    go_wp2_with fail
    refine HE.out.mono ?_
    rintro e w2 ⟨⟨b, rfl, hle, hx⟩, hb⟩
    replace hx := Lib.hid hx
    have HL2 := Lib.hid (HL.out.below hb)
    have hne := Lib.hid (show b ≠ w.heap.size from fun h => by have := HL.out.lt; omega)
    clear hle
    replace hb := Lib.hid (HA.out.trans (hb.mono HA.out.size))
    have c0 := HL2.out.cell (i := 0) rfl
    have c1 := HL2.out.cell (i := 1) rfl
    have f0 := HL2.out.free 0
    have f1 := HL2.out.free 1
    go_wp2
    have q2 := (HL2.out.set 0 (.int .i64 0)).set 1 (.int .i64 0)
    refine bodyPost_ret (results_cell_tmp Try.results15 _ _ w.heap.size 25 _ (0, 0) _ rfl q2 Try.underlying25 rfl (by kernel_rfl)) rfl ?_
    refine ⟨⟨_, rfl, (((hx.out.set hne.out 0 _).set hne.out 1 _)).is⟩, below_cell (below_cell hb.out (Nat.le_refl _) 0 _) (Nat.le_refl _) 1 _⟩
  · have HE := Lib.hid (refusal_ok 1 w)
    go_enter Try.func16, Try.ntmps16
    go_wp2_with fail
    refine HE.out.mono ?_
    rintro e w2 ⟨⟨b, rfl, hle, hx⟩, hb⟩
    replace hx := Lib.hid hx
    replace hb := Lib.hid hb
    go_wp2
    go_ret
    exact ⟨⟨_, rfl, hx.out.is⟩, hb.out⟩
  · have HB := Lib.hid (Below.refl w.heap.size w)
    go_enter Try.func17, Try.ntmps17
    go_wp2
    go_ret
    exact ⟨rfl, HB.out⟩
set_option maxRecDepth 100000 in
set_option maxHeartbeats 1000000 in
theorem nextOk : NextOk := by
  intro b r t w h ht0 ht1
  have HA := Lib.hid (show Below w.heap.size w (w.alloc (.cells #[.int .i64 0, .int .i64 0] 25)) from (Below.refl _ _).alloc (Nat.le_refl _) _)
  have HL := Lib.hid (Lies.new w [.int .i64 0, .int .i64 0] 25)
  have HC := Lib.hid (h.below HA.out)
  have hn := Lib.hid (show w.heap.size ≠ b from fun e => by have := h.lt; omega)
  have c0 := Lies.cell (i := 0) HC.out rfl
  have c1 := Lies.cell (i := 1) HC.out rfl
  have f1 := Lies.free HC.out 1
  by_cases hr : t < 1099511627776
  · have t1 : (t == 1099511627776) = false := by rw [beq_eq_false_iff_ne]; omega
    simp only [NextIs, if_pos hr]
    have n1 : IntKind.i64.wrap (t + 1) = t + 1 := by rw [IntKind.wrap_i64]; omega
    clear h hr
    go_enter Try.func15, Try.ntmps15
    go_wp2
    have HC1 := Lib.hid (Lies.set HC.out 1 (.int .i64 (t + 1)))
    have HB1 := Lib.hid ((But.of (pb := b) HA.out).trans (But.set b 1 _ (.int .i64 (t + 1))))
    have HL1 := Lib.hid (HL.out.but (But.set b 1 _ (.int .i64 (t + 1))) hn.out)
    clear c0 c1 f1 HC HL HA
    generalize ((w.alloc (.cells #[.int .i64 0, .int .i64 0] 25)).setCell ⟨b, 1, none⟩ (.int .i64 (t + 1))) = W1 at HC1 HB1 HL1 ⊢
    have c0 := Lies.cell (i := 0) HC1.out rfl
    have c1 := Lies.cell (i := 1) HC1.out rfl
    go_still_tail 9, (by kernel_rfl)
    change wpList _ _ _ _ _ W1.drew
    have HC2 := Lib.hid (Lies.below HC1.out (Below.drew (Below.refl W1.heap.size W1)))
    have HL2 := Lib.hid (Lies.below HL1.out (Below.drew (Below.refl W1.heap.size W1)))
    have HB2 := Lib.hid (HB1.out.trans (But.of (Below.drew (Below.refl W1.heap.size W1))))
    clear c0 c1 HC1 HL1 HB1
    generalize W1.drew = W2 at HC2 HB2 HL2 ⊢
    have c0 := HL2.out.cell (i := 0) rfl
    have c1 := HL2.out.cell (i := 1) rfl
    have f0 := HL2.out.free 0
    have f1 := HL2.out.free 1
    go_wp2
    have q2 := (HL2.out.set 0 (.int .i64 (t + 1))).set 1 (.int .i64 r)
    refine bodyPost_ret (results_cell_tmp Try.results15 _ _ w.heap.size 25 _ (0, 0) _ rfl q2 Try.underlying25 rfl (by kernel_rfl)) rfl ?_
    refine ⟨⟨rfl, ?_⟩, But.put (But.put HB2.out (Nat.le_refl _) 0 _) (Nat.le_refl _) 1 _⟩
    exact ((Lies.but HC2.out (But.set w.heap.size 0 _ _) (Ne.symm hn.out)).but (But.set w.heap.size 1 _ _) (Ne.symm hn.out))
  · obtain rfl : t = 1099511627776 := by omega
    have HE := Lib.hid (refusal_ok 3 (w.alloc (.cells #[.int .i64 0, .int .i64 0] 25)))
    simp only [NextIs, show ¬ ((1099511627776 : Int) < 1099511627776) by decide, if_false]
    clear h hr
    go_enter Try.func15, Try.ntmps15
    go_wp2_with fail
    refine HE.out.mono ?_
    rintro e w2 ⟨⟨b, rfl, hle, hx⟩, hb⟩
    replace hx := Lib.hid hx
    have HL2 := Lib.hid (HL.out.below hb)
    have HC2 := Lib.hid (HC.out.below hb)
    have hne := Lib.hid (show b ≠ w.heap.size from fun h => by have := HL.out.lt; omega)
    clear hle
    replace hb := Lib.hid (HA.out.trans (hb.mono HA.out.size))
    clear c0 c1 f1
    have c0 := HL2.out.cell (i := 0) rfl
    have c1 := HL2.out.cell (i := 1) rfl
    have f0 := HL2.out.free 0
    have f1 := HL2.out.free 1
    go_wp2
    have q2 := (HL2.out.set 0 (.int .i64 0)).set 1 (.int .i64 0)
    refine bodyPost_ret (results_cell_tmp Try.results15 _ _ w.heap.size 25 _ (0, 0) _ rfl q2 Try.underlying25 rfl (by kernel_rfl)) rfl ?_
    refine ⟨⟨⟨_, rfl, (((hx.out.set hne.out 0 _).set hne.out 1 _)).is⟩, ?_⟩, But.of (below_cell (below_cell hb.out (Nat.le_refl _) 0 _) (Nat.le_refl _) 1 _)⟩
    exact ((Lies.but HC2.out (But.set w.heap.size 0 _ _) (Ne.symm hn.out)).but (But.set w.heap.size 1 _ _) (Ne.symm hn.out))
end Go.Proofs.Ytlhilpmlffbnkaa
