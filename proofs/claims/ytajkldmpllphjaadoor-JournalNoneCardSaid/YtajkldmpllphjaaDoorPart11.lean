/-
  Texts of one claim, merged.
  JournalWhole: The program's contracts of chapter 10, gathered; what chapter 10's laws start from. The conditions: what lies in memory.
  JournalQ29: The program's Open over one device twice, or devices that aren't there; a journal that isn't there; of chapter 10. The conditions: what lies in memory.
-/
import Derived.Test.YtajkldmpllphjaaDoorJournalQ28
import Derived.Test.YtajkldmpllphjaaDoorPart03
namespace Go.Proofs.YtajkldmpllphjaaDoor
open Go.RowKit BlockMath TextNat JournalMath
theorem owns : Owns dev := fun w b S d h => by
  obtain ⟨p, n, cap, fu, lf, h1, h2, h3⟩ := h
  exact (h3 b).2 (.inl rfl)
end Go.Proofs.YtajkldmpllphjaaDoor
namespace Go.Proofs.YtajkldmpllphjaaDoor
open Go.RowKit BlockMath FrameMath TextNat JournalMath

set_option maxRecDepth 100000 in
theorem open_twice (ba : Nat) (w : World) : Calls Tryd.prog 14 #[ptr ba, ptr ba] w fun e w' => e = .returned (.tuple #[.pointer none, .slice none 0 0, .iface 33 (.int .i64 1)]) ∧ w' = w := by
  have hpe := ptr_eq ba w
  go_enter Tryd.func14, Tryd.ntmps14
  go_wp2
  go_ret3
  exact ⟨rfl, rfl⟩
set_option maxRecDepth 100000 in
theorem open_nil2 (ba : Nat) (S : Nat → Prop) (a : Dk) (w : World) (h : dev.at_ w ba S a) (ok : Ok a) (ho : a.off = false) : Calls Tryd.prog 14 #[ptr ba, .pointer none] w fun e w' => e = .returned (.tuple #[.pointer none, .slice none 0 0, .iface 33 (.int .i64 5)]) ∧ Below w.heap.size w w' := by
  have HD := Lib.hid (downOk ba S a w h ok)
  rw [ho] at HD
  have HN := Lib.hid (fun w => downN w)
  clear h ok ho
  go_enter Tryd.func14, Tryd.ntmps14
  go_wp2_with fail
  refine HD.out.mono ?_
  rintro e w1 ⟨rfl, hb⟩
  have HB := Lib.hid hb
  clear hb
  go_wp2_with fail
  refine (HN.out w1).mono ?_
  rintro e w2 ⟨rfl, hw2⟩
  rw [hw2]
  clear hw2
  go_wp2
  go_ret3
  exact ⟨rfl, HB.out⟩
theorem nil_ptr (x : Nat) (w : World) : (binOp .eql 23 (.pointer none) (ptr x)).run Tryd.prog w = .ok (.bool false) w := by
  have h : ∀ d : Nat, (Op.equalIn (d + 1) 23 (.pointer none) (ptr x)).run Tryd.prog w = .ok false w := fun d => by
    simp [Op.equalIn, run_underlying Tryd.underlying23, ptr]
  simp only [binOp]
  simp [Op.equal, Op.maxDepth, h 9999]
set_option maxRecDepth 100000 in
theorem open_nil1 (ba : Nat) (w : World) : Calls Tryd.prog 14 #[.pointer none, ptr ba] w fun e w' => e = .returned (.tuple #[.pointer none, .slice none 0 0, .iface 33 (.int .i64 5)]) ∧ w' = w := by
  have hpe := nil_ptr ba w
  have HN := Lib.hid (fun w => downN w)
  go_enter Tryd.func14, Tryd.ntmps14
  go_wp2_with fail
  refine (HN.out w).mono ?_
  rintro e w2 ⟨rfl, hw2⟩
  rw [hw2]
  clear hw2
  go_wp2
  go_ret3
  exact ⟨rfl, rfl⟩
set_option maxRecDepth 100000 in
theorem open_no (x y : Value) (c : Int) (w : World) (h : Calls Tryd.prog 14 #[x, y] w fun e w' => e = .returned (.tuple #[.pointer none, .slice none 0 0, .iface 33 (.int .i64 c)]) ∧ Below w.heap.size w w') :
    Calls Tryd.prog 6 #[x, y] w fun e w' => (∃ v x, e = .returned (.tuple #[.pointer none, v, x]) ∧ ErrIs w' c x) ∧ Below w.heap.size w w' := by
  have HO := Lib.hid h
  clear h
  go_enter Tryd.func6, Tryd.ntmps6
  go_wp2_with fail
  refine HO.out.mono ?_
  rintro e w1 ⟨rfl, hb⟩
  have HB := Lib.hid hb
  clear hb
  go_wp2_with fail
  refine (at_errT jname 0 (ErrT.code w1 c)).mono ?_
  rintro e w2 ⟨⟨r, rfl, hr⟩, hb⟩
  have HR := Lib.hid hr
  have HB2 := Lib.hid (HB.out.trans (hb.mono HB.out.size))
  clear hr hb
  go_wp2
  go_ret3
  exact ⟨⟨_, _, rfl, HR.out.is⟩, HB2.out⟩
theorem openBad : OpenBad dev := by
  intro ba S a w h ok ho
  refine ⟨open_no _ _ 1 w ((open_twice ba w).mono ?_), open_no _ _ 5 w (open_nil2 ba S a w h ok ho), open_no _ _ 5 w ((open_nil1 ba w).mono ?_)⟩
  · rintro e w' ⟨h1, rfl⟩
    exact ⟨h1, Below.refl _ _⟩
  · rintro e w' ⟨h1, rfl⟩
    exact ⟨h1, Below.refl _ _⟩
set_option maxRecDepth 100000 in
theorem nil_gen (w : World) : Calls Tryd.prog 11 #[.pointer none] w fun e w' => e = .returned (.int .i64 0) ∧ w' = w := by
  go_enter Tryd.func11, Tryd.ntmps11
  go_wp2
  go_ret
  exact ⟨rfl, rfl⟩
set_option maxRecDepth 100000 in
theorem nil_ended (w : World) : Calls Tryd.prog 18 #[.pointer none] w fun e w' => e = .returned (.bool true) ∧ w' = w := by
  go_enter Tryd.func18, Tryd.ntmps18
  go_wp2
  go_ret
  exact ⟨rfl, rfl⟩
set_option maxRecDepth 100000 in
theorem nil_refusal (c : Int) (w : World) : Calls Tryd.prog 19 #[.pointer none, .iface 33 (.int .i64 c)] w fun e w' => (∃ r, e = .returned r ∧ ErrT w' c r) ∧ Below w.heap.size w w' := by
  have HG := Lib.hid (nil_gen w)
  go_enter Tryd.func19, Tryd.ntmps19
  go_wp2_with fail
  refine HG.out.mono ?_
  rintro e w2 ⟨rfl, hw⟩
  rw [hw]
  clear hw
  go_wp2_with fail
  refine (at_errT jname 0 (ErrT.code w c)).mono ?_
  rintro e w3 ⟨⟨r, rfl, hr⟩, hb⟩
  have HR := Lib.hid hr
  have HB := Lib.hid hb
  clear hr hb
  go_wp2
  go_ret
  exact ⟨⟨_, rfl, HR.out⟩, HB.out⟩
set_option maxRecDepth 100000 in
theorem nilOk : NilOk := by
  refine ⟨fun pp cap xs w _ _ => ?_, fun pp cap xs w _ _ => ?_, fun w => ?_, fun w => ?_⟩
  · have HE := Lib.hid (nil_ended w)
    have HR := Lib.hid (nil_refusal 5 w)
    go_enter Tryd.func8, Tryd.ntmps8
    go_wp2_with fail
    refine HE.out.mono ?_
    rintro e w2 ⟨rfl, hw⟩
    rw [hw]
    clear hw
    go_wp2_with fail
    refine HR.out.mono ?_
    rintro e w3 ⟨⟨r, rfl, hr⟩, hb⟩
    have HR := Lib.hid hr
    have HB := Lib.hid hb
    clear hr hb
    go_wp2
    go_ret
    exact ⟨⟨_, rfl, HR.out.is⟩, HB.out⟩
  · have HE := Lib.hid (nil_ended w)
    have HR := Lib.hid (nil_refusal 5 w)
    go_enter Tryd.func9, Tryd.ntmps9
    go_wp2_with fail
    refine HE.out.mono ?_
    rintro e w2 ⟨rfl, hw⟩
    rw [hw]
    clear hw
    go_wp2_with fail
    refine HR.out.mono ?_
    rintro e w3 ⟨⟨r, rfl, hr⟩, hb⟩
    have HR := Lib.hid hr
    have HB := Lib.hid hb
    clear hr hb
    go_wp2
    go_ret
    exact ⟨⟨_, rfl, HR.out.is⟩, HB.out⟩
  · go_enter Tryd.func10, Tryd.ntmps10
    go_wp2
    go_ret
    exact ⟨rfl, Below.refl _ _⟩
  · exact (nil_gen w).mono (fun e w' h => ⟨h.1, by rw [h.2]; exact Below.refl _ _⟩)
end Go.Proofs.YtajkldmpllphjaaDoor
