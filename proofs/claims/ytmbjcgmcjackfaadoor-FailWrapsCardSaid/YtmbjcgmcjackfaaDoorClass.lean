/-
  The contracts of Class and of the document's own Class, from the number of an error.
-/
import Derived.Test.YtmbjcgmcjackfaaDoorChain
namespace Go.Proofs.YtmbjcgmcjackfaaDoor
open Go.RowKit Go.Extern.Stop Go.Stop Go.Extern

/-- How bad an error of number q is (an error that isn't nil). -/
def cls (q : Int) : Int := if q = 11 then 1 else if q = 12 ∨ q = 13 ∨ q = 4 ∨ q = 5 then 2 else if q = 9 ∨ q = 10 ∨ q = 14 then 3 else 4

theorem class_none (w : World) : Calls Tryd.prog 10 #[.nilIface] w fun e w' => e = .returned (.int .i64 0) ∧ w' = w := by
  go_enter Tryd.func10, Tryd.ntmps10
  go_wp2
  go_ret
  exact ⟨rfl, rfl⟩

set_option maxHeartbeats 1000000 in
theorem class_lit (T : TypeId) (x : Value) (q r : Int) (w : World) (hq : (q, r) ∈ [(11, 1), (12, 2), (13, 2), (4, 2), (5, 2), (9, 3), (10, 3), ((14 : Int), (3 : Int))])
    (h8 : Calls Tryd.prog 8 #[.iface T x] w fun e w' => e = .returned (.int .i64 q) ∧ Below w.heap.size w w') :
    Calls Tryd.prog 10 #[.iface T x] w fun e w' => e = .returned (.int .i64 r) ∧ Below w.heap.size w w' := by
  have HC := Lib.hid h8
  clear h8
  simp only [List.mem_cons, Prod.mk.injEq, List.not_mem_nil, or_false] at hq
  rcases hq with ⟨rfl, rfl⟩ | ⟨rfl, rfl⟩ | ⟨rfl, rfl⟩ | ⟨rfl, rfl⟩ | ⟨rfl, rfl⟩ | ⟨rfl, rfl⟩ | ⟨rfl, rfl⟩ | ⟨rfl, rfl⟩
  all_goals
    go_enter Tryd.func10, Tryd.ntmps10
    go_wp2_with (go_at_call 8; refine HC.out.mono ?_; rintro e w2 ⟨rfl, hb2⟩)
    go_ret
    exact ⟨rfl, hb2⟩

set_option maxHeartbeats 1000000 in
theorem class_rest (T : TypeId) (x : Value) (q : Int) (w : World) (h11 : q ≠ 11) (h12 : q ≠ 12) (h13 : q ≠ 13) (h4 : q ≠ 4) (h5 : q ≠ 5) (h9 : q ≠ 9) (h10 : q ≠ 10) (h14 : q ≠ 14)
    (h8 : Calls Tryd.prog 8 #[.iface T x] w fun e w' => e = .returned (.int .i64 q) ∧ Below w.heap.size w w') :
    Calls Tryd.prog 10 #[.iface T x] w fun e w' => e = .returned (.int .i64 4) ∧ Below w.heap.size w w' := by
  have HC := Lib.hid h8
  have b11 := beq_eq_false_iff_ne.2 h11
  have b12 := beq_eq_false_iff_ne.2 h12
  have b13 := beq_eq_false_iff_ne.2 h13
  have b4 := beq_eq_false_iff_ne.2 h4
  have b5 := beq_eq_false_iff_ne.2 h5
  have b9 := beq_eq_false_iff_ne.2 h9
  have b10 := beq_eq_false_iff_ne.2 h10
  have b14 := beq_eq_false_iff_ne.2 h14
  clear h8 h11 h12 h13 h4 h5 h9 h10 h14
  go_enter Tryd.func10, Tryd.ntmps10
  go_wp2_with (go_at_call 8; refine HC.out.mono ?_; rintro e w2 ⟨rfl, hb2⟩)
  go_ret
  exact ⟨rfl, hb2⟩

/-- Class of an error whose number is q. -/
theorem class_of (T : TypeId) (x : Value) (q : Int) (w : World)
    (h8 : Calls Tryd.prog 8 #[.iface T x] w fun e w' => e = .returned (.int .i64 q) ∧ Below w.heap.size w w') :
    Calls Tryd.prog 10 #[.iface T x] w fun e w' => e = .returned (.int .i64 (cls q)) ∧ Below w.heap.size w w' := by
  by_cases h11 : q = 11
  · subst h11; exact class_lit T x 11 _ w (by simp [cls]) h8
  by_cases h12 : q = 12
  · subst h12; exact class_lit T x 12 _ w (by simp [cls]) h8
  by_cases h13 : q = 13
  · subst h13; exact class_lit T x 13 _ w (by simp [cls]) h8
  by_cases h4 : q = 4
  · subst h4; exact class_lit T x 4 _ w (by simp [cls]) h8
  by_cases h5 : q = 5
  · subst h5; exact class_lit T x 5 _ w (by simp [cls]) h8
  by_cases h9 : q = 9
  · subst h9; exact class_lit T x 9 _ w (by simp [cls]) h8
  by_cases h10 : q = 10
  · subst h10; exact class_lit T x 10 _ w (by simp [cls]) h8
  by_cases h14 : q = 14
  · subst h14; exact class_lit T x 14 _ w (by simp [cls]) h8
  have hc : cls q = 4 := by simp [cls, h11, h12, h13, h4, h5, h9, h10, h14]
  rw [hc]
  exact class_rest T x q w h11 h12 h13 h4 h5 h9 h10 h14 h8

set_option maxHeartbeats 1000000 in
theorem refClass_lit (q r : Int) (w : World) (hq : (q, r) ∈ [(0, 0), (11, 1), (12, 2), (13, 2), (4, 2), (5, 2), (9, 3), (10, 3), ((14 : Int), (3 : Int))]) :
    Calls Tryd.prog 15 #[.int .i64 q] w fun e w' => e = .returned (.int .i64 r) ∧ w' = w := by
  simp only [List.mem_cons, Prod.mk.injEq, List.not_mem_nil, or_false] at hq
  rcases hq with ⟨rfl, rfl⟩ | ⟨rfl, rfl⟩ | ⟨rfl, rfl⟩ | ⟨rfl, rfl⟩ | ⟨rfl, rfl⟩ | ⟨rfl, rfl⟩ | ⟨rfl, rfl⟩ | ⟨rfl, rfl⟩ | ⟨rfl, rfl⟩
  all_goals
    go_enter Tryd.func15, Tryd.ntmps15
    go_wp2
    go_ret
    exact ⟨rfl, rfl⟩

set_option maxHeartbeats 1000000 in
theorem refClass_rest (q : Int) (w : World) (h0 : q ≠ 0) (h11 : q ≠ 11) (h12 : q ≠ 12) (h13 : q ≠ 13) (h4 : q ≠ 4) (h5 : q ≠ 5) (h9 : q ≠ 9) (h10 : q ≠ 10) (h14 : q ≠ 14) :
    Calls Tryd.prog 15 #[.int .i64 q] w fun e w' => e = .returned (.int .i64 4) ∧ w' = w := by
  have b0 := beq_eq_false_iff_ne.2 h0
  have b11 := beq_eq_false_iff_ne.2 h11
  have b12 := beq_eq_false_iff_ne.2 h12
  have b13 := beq_eq_false_iff_ne.2 h13
  have b4 := beq_eq_false_iff_ne.2 h4
  have b5 := beq_eq_false_iff_ne.2 h5
  have b9 := beq_eq_false_iff_ne.2 h9
  have b10 := beq_eq_false_iff_ne.2 h10
  have b14 := beq_eq_false_iff_ne.2 h14
  clear h0 h11 h12 h13 h4 h5 h9 h10 h14
  go_enter Tryd.func15, Tryd.ntmps15
  go_wp2
  go_ret
  exact ⟨rfl, rfl⟩

/-- The document's own Class. -/
theorem refClass (q : Int) (w : World) : Calls Tryd.prog 15 #[.int .i64 q] w fun e w' => e = .returned (.int .i64 (if q = 0 then 0 else cls q)) ∧ w' = w := by
  by_cases h0 : q = 0
  · subst h0; exact refClass_lit 0 _ w (by simp)
  rw [if_neg h0]
  by_cases h11 : q = 11
  · subst h11; exact refClass_lit 11 _ w (by simp [cls])
  by_cases h12 : q = 12
  · subst h12; exact refClass_lit 12 _ w (by simp [cls])
  by_cases h13 : q = 13
  · subst h13; exact refClass_lit 13 _ w (by simp [cls])
  by_cases h4 : q = 4
  · subst h4; exact refClass_lit 4 _ w (by simp [cls])
  by_cases h5 : q = 5
  · subst h5; exact refClass_lit 5 _ w (by simp [cls])
  by_cases h9 : q = 9
  · subst h9; exact refClass_lit 9 _ w (by simp [cls])
  by_cases h10 : q = 10
  · subst h10; exact refClass_lit 10 _ w (by simp [cls])
  by_cases h14 : q = 14
  · subst h14; exact refClass_lit 14 _ w (by simp [cls])
  have hc : cls q = 4 := by simp [cls, h11, h12, h13, h4, h5, h9, h10, h14]
  rw [hc]
  exact refClass_rest q w h0 h11 h12 h13 h4 h5 h9 h10 h14
end Go.Proofs.YtmbjcgmcjackfaaDoor
