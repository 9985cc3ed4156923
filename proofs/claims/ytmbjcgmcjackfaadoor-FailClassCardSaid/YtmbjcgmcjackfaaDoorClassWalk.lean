/-
  The walk of FailClass: it returns true, and leaves what was there as it was. The condition: the variable errors.errorType reads as the type error's own handle.
-/
import Derived.Test.YtmbjcgmcjackfaaDoorAwake
import Derived.Test.YtmbjcgmcjackfaaDoorClass
import Derived.Test.YtmbjcgmcjackfaaDoorWrapped
namespace Go.Proofs.YtmbjcgmcjackfaaDoor
open Go.RowKit Go.Extern.Stop Go.Stop Go.Extern

theorem cls_one : cls 1 = 4 := rfl

set_option maxRecDepth 100000 in
set_option maxHeartbeats 4000000 in
theorem class_true_zero (s : ByteArray) (n : Int) (w : World) (hg : Handle w) : Calls Tryd.prog 4 #[.int .i64 0, .string s, .int .i64 n] w fun e w' => e = .returned (.bool true) ∧ Below w.heap.size w w' := by
  have HA := Lib.hid (awake_true w hg)
  have HG := Lib.hid hg
  clear hg
  go_enter Tryd.func4, Tryd.ntmps4
  go_wp2_with (go_at_call 6; refine HA.out.mono ?_; rintro e w1 ⟨rfl, hb1⟩)
  have HW := Lib.hid (wrapped_zero [(s, n)] w1.heap.size 0 1 (w1.alloc (.cells #[.string s, .int .i64 n] 33)) (by simp) (by
    intro k x hx
    obtain rfl : k = 0 := by
      have := (List.getElem?_eq_some_iff.1 hx).1
      simp at this
      omega
    obtain rfl : (s, n) = x := by simpa using hx
    exact ⟨by simp, by simp⟩))
  have hB1 : Below w.heap.size w (w1.alloc (.cells #[.string s, .int .i64 n] 33)) := hb1.alloc hb1.size _
  go_wp2_with (go_at_call 7; refine HW.out.mono ?_; rintro e w2 ⟨rfl, hb2⟩)
  have hB2 : Below w.heap.size w w2 := hB1.trans (hb2.mono hB1.size)
  have HG2 := Lib.hid (HG.out.below hB2 HG.out.lt)
  have R0 := refClass_lit 0 0 w2 (by simp)
  have HR := Lib.hid R0
  clear R0
  go_wp2_with (go_at_call 15; refine HR.out.mono ?_; rintro e w' ⟨rfl, rfl⟩)
  go_wp2_with (go_at_call 10; refine (class_none _).mono ?_; rintro e w' ⟨rfl, rfl⟩)
  go_wp2_with (go_at_call 16; refine (both_none (.iface 35 (.int .i64 1)) _).mono ?_; rintro e w' ⟨rfl, rfl⟩)
  have HC3 := Lib.hid (class_of 35 (.int .i64 1) 1 w' (number_code [] 1 (.iface 35 (.int .i64 1)) w' HG2.out rfl (by simp)))
  have e4 := cls_one
  go_wp2_with (go_at_call 10; refine HC3.out.mono ?_; rintro e w3 ⟨rfl, hb3⟩)
  go_wp2_with (go_at_call 16; refine (both_left 35 (.int .i64 1) _).mono ?_; rintro e w' ⟨rfl, rfl⟩)
  have HC4 := Lib.hid (class_of 35 (.int .i64 1) 1 w' (number_code [] 1 (.iface 35 (.int .i64 1)) w' (HG2.out.below hb3 HG2.out.lt) rfl (by simp)))
  go_wp2_with (go_at_call 10; refine HC4.out.mono ?_; rintro e w4 ⟨rfl, hb4⟩)
  go_ret
  have hz3 := hb3.size
  exact ⟨rfl, hB2.trans ((hb3.trans (hb4.mono hz3)).mono hB2.size)⟩

set_option maxRecDepth 100000 in
set_option maxHeartbeats 4000000 in
theorem class_true_code (c : Int) (hc0 : c ≠ 0) (s : ByteArray) (n : Int) (w : World) (hg : Handle w) : Calls Tryd.prog 4 #[.int .i64 c, .string s, .int .i64 n] w fun e w' => e = .returned (.bool true) ∧ Below w.heap.size w w' := by
  have HA := Lib.hid (awake_true w hg)
  have HG := Lib.hid hg
  have HN := Lib.hid hc0
  have d0 := beq_eq_false_iff_ne.2 hc0
  clear hg hc0
  go_enter Tryd.func4, Tryd.ntmps4
  go_wp2_with (go_at_call 6; refine HA.out.mono ?_; rintro e w1 ⟨rfl, hb1⟩)
  have HW := Lib.hid (wrapped_some c HN.out [(s, n)] w1.heap.size 0 1 (w1.alloc (.cells #[.string s, .int .i64 n] 33)) (by simp) (by
    intro k x hx
    obtain rfl : k = 0 := by
      have := (List.getElem?_eq_some_iff.1 hx).1
      simp at this
      omega
    obtain rfl : (s, n) = x := by simpa using hx
    exact ⟨by simp, by simp⟩))
  have hB1 : Below w.heap.size w (w1.alloc (.cells #[.string s, .int .i64 n] 33)) := hb1.alloc hb1.size _
  go_wp2_with (go_at_call 7; refine HW.out.mono ?_; rintro e w2 ⟨v, rfl, hch, hb2⟩)
  obtain ⟨b, u, rfl, hbl, c0, c1, c2, hu⟩ := hch
  have hu' : u = .iface 35 (.int .i64 c) := hu
  subst hu'
  have HX := Lib.hid (show Chain w2.heap.size w2 [(s, n)] (.iface 35 (.int .i64 c)) (.iface 42 (.pointer (some ⟨b, 0, none⟩))) from ⟨b, _, rfl, hbl, c0, c1, c2, rfl⟩)
  clear c0 c1 c2 hu hbl
  have hB2 : Below w.heap.size w w2 := hB1.trans (hb2.mono hB1.size)
  have HG2 := Lib.hid (HG.out.below hB2 HG.out.lt)
  have R0 := refClass c w2
  rw [if_neg HN.out] at R0
  have HR := Lib.hid R0
  clear R0
  go_wp2_with (go_at_call 15; refine HR.out.mono ?_; rintro e w' ⟨rfl, rfl⟩)
  have HC2 := Lib.hid (class_of 42 _ c w' (number_code [(s, n)] c _ w' HG2.out HX.out (by simp)))
  go_wp2_with (go_at_call 10; refine HC2.out.mono ?_; rintro e w3 ⟨rfl, hb3⟩)
  have HG3 := Lib.hid (HG2.out.below hb3 HG2.out.lt)
  have HX3 := Lib.hid (HX.out.mono hb3 hb3.size)
  go_wp2_with (go_at_call 16; refine (both_two 42 35 _ _ _).mono ?_; rintro e w' ⟨rfl, rfl⟩)
  have hB4 : Below w3.heap.size w3 (w3.alloc (.cells #[.iface 42 (.pointer (some ⟨b, 0, none⟩)), .iface 35 (.int .i64 1)] 62)) := (Below.refl _ _).alloc (Nat.le_refl _) _
  have HC4 := Lib.hid (class_of 60 _ c _ (number_pair w3.heap.size [(s, n)] c 42 35 (.pointer (some ⟨b, 0, none⟩)) (.int .i64 1) _ (HG3.out.below hB4 HG3.out.lt) (HX3.out.mono hB4 hB4.size) (by simp) (by simp) (by simp)))
  go_wp2_with (go_at_call 10; refine HC4.out.mono ?_; rintro e w5 ⟨rfl, hb5⟩)
  have hB5 : Below w3.heap.size w3 w5 := hB4.trans (hb5.mono hB4.size)
  go_wp2_with (go_at_call 16; refine (both_two 35 42 _ _ _).mono ?_; rintro e w' ⟨rfl, rfl⟩)
  have hB6 : Below w5.heap.size w5 (w5.alloc (.cells #[.iface 35 (.int .i64 1), .iface 42 (.pointer (some ⟨b, 0, none⟩))] 62)) := (Below.refl _ _).alloc (Nat.le_refl _) _
  have hB56 : Below w3.heap.size w3 (w5.alloc (.cells #[.iface 35 (.int .i64 1), .iface 42 (.pointer (some ⟨b, 0, none⟩))] 62)) := hB5.trans (hB6.mono hB5.size)
  have HC6 := Lib.hid (class_of 60 _ 1 _ (number_pair w5.heap.size [] 1 35 42 (.int .i64 1) (.pointer (some ⟨b, 0, none⟩)) _ (HG3.out.below hB56 HG3.out.lt) rfl (by simp) (by simp) (by simp)))
  have e4 := cls_one
  go_wp2_with (go_at_call 10; refine HC6.out.mono ?_; rintro e w7 ⟨rfl, hb7⟩)
  go_ret
  have hz3 := hb3.size
  exact ⟨rfl, hB2.trans ((hb3.trans ((hB56.trans (hb7.mono hB56.size)).mono hz3)).mono hB2.size)⟩

/-- FailClass returns true, whatever the code, the text and the number. -/
theorem class_true (c : Int) (s : ByteArray) (n : Int) (w : World) (hg : Handle w) : Calls Tryd.prog 4 #[.int .i64 c, .string s, .int .i64 n] w fun e w' => e = .returned (.bool true) ∧ Below w.heap.size w w' := by
  by_cases hc : c = 0
  · subst hc; exact class_true_zero s n w hg
  · exact class_true_code c hc s n w hg
end Go.Proofs.YtmbjcgmcjackfaaDoor
