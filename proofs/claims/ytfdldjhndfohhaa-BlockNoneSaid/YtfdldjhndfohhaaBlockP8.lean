/-
  What the methods of a nil device of chapter 8 answer. No conditions but those typed.
-/
import Derived.Test.YtfdldjhndfohhaaBlockP2
namespace Go.Proofs.Ytfdldjhndfohhaa
open Go.RowKit BlockMath TextNat

set_option maxRecDepth 100000 in
theorem downN (w : World) : Calls Try.prog 19 #[.pointer none] w fun e w' => e = .returned (.bool true) ∧ w' = w := by
  go_enter Try.func19, Try.ntmps19
  go_wp2
  go_ret
  exact ⟨rfl, rfl⟩
set_option maxRecDepth 100000 in
theorem lenN (w : World) : Calls Try.prog 14 #[.pointer none] w fun e w' => e = .returned (.int .i64 0) ∧ w' = w := by
  have HD := Lib.hid (downN w)
  go_enter Try.func14, Try.ntmps14
  go_wp2_with (go_at_call 19; refine HD.out.mono ?_; rintro e w2 ⟨rfl, rfl⟩)
  go_ret
  exact ⟨rfl, rfl⟩
set_option maxRecDepth 100000 in
theorem safeN (w : World) : Calls Try.prog 16 #[.pointer none] w fun e w' => e = .returned (.int .i64 0) ∧ w' = w := by
  have HD := Lib.hid (downN w)
  go_enter Try.func16, Try.ntmps16
  go_wp2_with (go_at_call 19; refine HD.out.mono ?_; rintro e w2 ⟨rfl, rfl⟩)
  go_ret
  exact ⟨rfl, rfl⟩
set_option maxRecDepth 100000 in
theorem refN (c : Int) (w : World) : Calls Try.prog 22 #[.pointer none, .int .i64 c] w fun e w' => (∃ x, e = .returned x ∧ ErrIs w' c x) ∧ Below w.heap.size w w' := by
  have HL := Lib.hid (lenN w)
  have HE := Lib.hid (at_some ⟨#[98, 108, 111, 99, 107]⟩ 0 46 (.int .i64 c) w)
  have HN := Lib.hid (err_new w 0 c)
  have HB := Lib.hid (show Below w.heap.size w (w.alloc (.cells #[.string ⟨#[98, 108, 111, 99, 107]⟩, .int .i64 0, .iface 46 (.int .i64 c)] 74)) from (Below.refl _ _).alloc (Nat.le_refl _) _)
  go_enter Try.func22, Try.ntmps22
  go_wp2_with (first
    | (go_at_call 14; refine HL.out.mono ?_; rintro e w2 ⟨rfl, rfl⟩)
    | (go_at_call 28; refine HE.out.mono ?_; rintro e w2 ⟨rfl, rfl⟩))
  go_ret
  exact ⟨⟨_, rfl, HN.out.is⟩, HB.out⟩
set_option maxRecDepth 100000 in
theorem noneOk : NoneOk := by
  refine ⟨fun n w hn => ?_, fun n s w hn => ?_, fun n m w hn hm => ?_, fun w => ?_, fun s w hs => ?_, fun w => ?_, fun n w hn => ?_, fun n w hn => ?_, fun w => ?_, fun w => ?_, fun n w hn => ?_⟩
  · have HB := Lib.hid (Below.refl w.heap.size w)
    go_enter Try.func17, Try.ntmps17
    go_wp2
    go_end0
    exact ⟨rfl, HB.out⟩
  · have HB := Lib.hid (Below.refl w.heap.size w)
    go_enter Try.func15, Try.ntmps15
    go_wp2
    refine bodyPost_ret (results_none rfl _ _ _) rfl ?_
    exact ⟨rfl, HB.out⟩
  · have HD := Lib.hid (downN w)
    have HE := Lib.hid (refN 5 w)
    clear hn hm
    go_enter Try.func13, Try.ntmps13
    go_wp2_with (first
      | (go_at_call 19; refine HD.out.mono ?_; rintro e w2 ⟨rfl, rfl⟩)
      | (go_at_call 22; refine HE.out.mono ?_; rintro e w2 ⟨⟨x, rfl, hx⟩, hb⟩; replace hx := Lib.hid hx; replace hb := Lib.hid hb))
    go_ret2
    exact ⟨⟨_, rfl, hx.out⟩, hb.out⟩
  · refine (downN w).mono ?_
    rintro e w' ⟨rfl, rfl⟩
    exact ⟨rfl, Below.refl _ _⟩
  · have HD := Lib.hid (downN w)
    have HE := Lib.hid (refN 5 w)
    clear hs
    go_enter Try.func10, Try.ntmps10
    go_wp2_with (first
      | (go_at_call 19; refine HD.out.mono ?_; rintro e w2 ⟨rfl, rfl⟩)
      | (go_at_call 22; refine HE.out.mono ?_; rintro e w2 ⟨⟨x, rfl, hx⟩, hb⟩; replace hx := Lib.hid hx; replace hb := Lib.hid hb))
    go_ret
    exact ⟨⟨_, rfl, hx.out⟩, hb.out⟩
  · have HD := Lib.hid (downN w)
    have HE := Lib.hid (refN 5 w)
    go_enter Try.func12, Try.ntmps12
    go_wp2_with (first
      | (go_at_call 19; refine HD.out.mono ?_; rintro e w2 ⟨rfl, rfl⟩)
      | (go_at_call 22; refine HE.out.mono ?_; rintro e w2 ⟨⟨x, rfl, hx⟩, hb⟩; replace hx := Lib.hid hx; replace hb := Lib.hid hb))
    go_ret
    exact ⟨⟨_, rfl, hx.out⟩, hb.out⟩
  · have HD := Lib.hid (downN w)
    have HE := Lib.hid (refN 5 w)
    clear hn
    go_enter Try.func11, Try.ntmps11
    go_wp2_with (first
      | (go_at_call 19; refine HD.out.mono ?_; rintro e w2 ⟨rfl, rfl⟩)
      | (go_at_call 22; refine HE.out.mono ?_; rintro e w2 ⟨⟨x, rfl, hx⟩, hb⟩; replace hx := Lib.hid hx; replace hb := Lib.hid hb))
    go_ret
    exact ⟨⟨_, rfl, hx.out⟩, hb.out⟩
  · have HE := Lib.hid (refN 5 w)
    clear hn
    go_enter Try.func21, Try.ntmps21
    go_wp2_with (go_at_call 22; refine HE.out.mono ?_; rintro e w2 ⟨⟨x, rfl, hx⟩, hb⟩; replace hx := Lib.hid hx; replace hb := Lib.hid hb)
    go_ret
    exact ⟨⟨_, rfl, hx.out⟩, hb.out⟩
  · refine (lenN w).mono ?_
    rintro e w' ⟨rfl, rfl⟩
    exact ⟨rfl, Below.refl _ _⟩
  · refine (safeN w).mono ?_
    rintro e w' ⟨rfl, rfl⟩
    exact ⟨rfl, Below.refl _ _⟩
  · have HD := Lib.hid (safeN w)
    have HB := Lib.hid (Below.refl w.heap.size w)
    clear hn
    cases t0 : decide (n < 0) <;> cases t1 : decide (0 ≤ n)
    · exact absurd (of_decide_eq_false t0) (by have := of_decide_eq_false t1; omega)
    all_goals
      go_enter Try.func20, Try.ntmps20
      go_wp2_with (go_at_call 16; refine HD.out.mono ?_; rintro e w2 ⟨rfl, rfl⟩)
      go_ret
      exact ⟨rfl, HB.out⟩
end Go.Proofs.Ytfdldjhndfohhaa
