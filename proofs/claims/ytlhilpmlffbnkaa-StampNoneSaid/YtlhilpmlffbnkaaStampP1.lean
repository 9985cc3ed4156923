/-
  The contracts of the program's functions of chapter 7, but for Greatest. No conditions but those typed.
-/
import Derived.Test.YtlhilpmlffbnkaaStampOwn
namespace Go.Proofs.Ytlhilpmlffbnkaa
open Go.RowKit StampMath

/-- An error of this layer, in a block of its own. -/
def Err (w : World) (b : Nat) (c : Int) : Prop := Lies w b [.string ⟨#[115, 116, 97, 109, 112]⟩, .int .i64 0, .iface 39 (.int .i64 c)] 68
abbrev errv (b : Nat) : Value := .iface 66 (.pointer (some ⟨b, 0, none⟩))
theorem Err.is {w : World} {b : Nat} {c : Int} (h : Err w b c) : ErrIs w c (errv b) :=
  ⟨[(_, 0)], ⟨b, _, rfl, Lies.lt h, Lies.cell (i := 0) h rfl, Lies.cell (i := 1) h rfl, Lies.cell (i := 2) h rfl, rfl⟩⟩
theorem Err.below {w w' : World} {b : Nat} {c : Int} (h : Err w b c) (hb : Below w.heap.size w w') : Err w' b c := Lies.below h hb
theorem Err.set {w : World} {b : Nat} {c : Int} (h : Err w b c) {g : Nat} (hg : b ≠ g) (j : Nat) (v : Value) : Err (w.setCell ⟨g, j, none⟩ v) b c := Lies.but h (But.set g j w v) hg
set_option maxRecDepth 100000 in
theorem refusal_ok (c : Int) (w : World) : Calls Try.prog 19 #[.int .i64 c] w fun e w' => (∃ b, e = .returned (errv b) ∧ w.heap.size ≤ b ∧ Err w' b c) ∧ Below w.heap.size w w' := by
  have HE := Lib.hid (at_some ⟨#[115, 116, 97, 109, 112]⟩ 0 39 (.int .i64 c) w)
  go_enter Try.func19, Try.ntmps19
  go_wp2_with fail
  refine HE.out.mono ?_
  rintro e w' ⟨rfl, rfl⟩
  have HB := Lib.hid (show Below w.heap.size w (w.alloc (.cells #[.string ⟨#[115, 116, 97, 109, 112]⟩, .int .i64 0, .iface 39 (.int .i64 c)] 68)) from (Below.refl _ _).alloc (Nat.le_refl _) _)
  have HL := Lib.hid (Lies.new w [.string ⟨#[115, 116, 97, 109, 112]⟩, .int .i64 0, .iface 39 (.int .i64 c)] 68)
  go_wp2
  go_ret
  exact ⟨⟨_, rfl, Nat.le_refl _, HL.out⟩, HB.out⟩
/-- May a clock have this time? -/
def timeB (t : Int) : Bool := decide (0 ≤ t) && decide (t ≤ 1099511627776)
set_option maxRecDepth 100000 in
theorem isTime_ok (t : Int) (w : World) : Calls Try.prog 18 #[.int .i64 t] w fun e w' => e = .returned (.bool (timeB t)) ∧ w' = w := by
  unfold timeB
  cases h3 : decide (0 ≤ t) <;> cases h4 : decide (t ≤ 1099511627776)
  all_goals
    go_enter Try.func18, Try.ntmps18
    go_wp2
    go_ret
    exact ⟨rfl, rfl⟩
set_option maxRecDepth 100000 in
theorem lessOk : LessOk := by
  intro a1 a2 b1 b2 w
  have HB := Lib.hid (((Below.refl w.heap.size w).alloc (Nat.le_refl _) (.cells #[.int .i64 a1, .int .i64 a2] 25)).alloc (by simp) (.cells #[.int .i64 b1, .int .i64 b2] 25))
  by_cases h : a1 = b1
  · have t1 : (a1 == b1) = true := by rw [beq_iff_eq]; exact h
    have t2 : (a1 != b1) = false := by rw [bne, t1]; rfl
    have HE := Lib.hid (show less (a1, a2) (b1, b2) = decide (a2 < b2) by unfold less; rw [if_pos h])
    clear h
    go_enter Try.func8, Try.ntmps8
    go_wp2
    go_ret
    exact ⟨by rw [HE.out]; rfl, HB.out⟩
  · have t1 : (a1 == b1) = false := by rw [beq_eq_false_iff_ne]; exact h
    have t2 : (a1 != b1) = true := by rw [bne, t1]; rfl
    have HE := Lib.hid (show less (a1, a2) (b1, b2) = decide (a1 < b1) by unfold less; rw [if_neg h])
    clear h
    go_enter Try.func8, Try.ntmps8
    go_wp2
    go_ret
    exact ⟨by rw [HE.out]; rfl, HB.out⟩
set_option maxRecDepth 100000 in
theorem timeOk : TimeOk := by
  intro b r t w h
  have c0 := h.cell (i := 0) rfl
  have c1 := h.cell (i := 1) rfl
  have HB := Lib.hid (Below.refl w.heap.size w)
  go_enter Try.func17, Try.ntmps17
  go_wp2
  go_ret
  exact ⟨rfl, HB.out⟩
set_option maxRecDepth 100000 in
theorem newOk : NewOk := by
  intro r t w hr ht
  have HE := Lib.hid (fun c w1 => refusal_ok c w1)
  have HT := Lib.hid (isTime_ok t w)
  unfold NewIs
  have HB := Lib.hid ((Below.refl w.heap.size w).alloc (Nat.le_refl _) (.cells #[.int .i64 r, .int .i64 t] 49))
  have HL := Lib.hid (Lies.new w [.int .i64 r, .int .i64 t] 49)
  obtain ⟨q, hq⟩ : ∃ q, q = rightB r t := ⟨_, rfl⟩
  rw [← hq]
  obtain ⟨m, hm⟩ : ∃ m, m = timeB t := ⟨_, rfl⟩
  rw [← hm] at HT
  have hqm : q = (decide (0 < r) && decide (r < 17) && m) := by rw [hq, hm]; unfold rightB timeB; rw [Bool.and_assoc, Bool.and_assoc]
  clear hq hm
  cases h1 : decide (r < 1) <;> cases h2 : decide (16 < r) <;> cases m
  all_goals
    have hr0 : decide (0 < r) = !decide (r < 1) := by rw [Bool.eq_iff_iff]; simp; omega
    have hr1 : decide (r < 17) = !decide (16 < r) := by rw [Bool.eq_iff_iff]; simp; omega
    rw [hr0, hr1, h1, h2] at hqm
    simp at hqm
    subst hqm
    clear hr0 hr1 ht hr
    go_enter Try.func12, Try.ntmps12
    go_wp2_with (first
      | (go_at_call 18; refine HT.out.mono ?_; rintro e w2 ⟨rfl, rfl⟩)
      | (go_at_call 19; refine (HE.out _ _).mono ?_; rintro e w2 ⟨⟨b, rfl, -, hx⟩, hb⟩; replace hx := Lib.hid hx; replace hb := Lib.hid hb))
    go_ret2
    first
      | exact ⟨⟨_, rfl, Nat.le_refl _, HL.out⟩, HB.out⟩
      | exact ⟨⟨_, rfl, hx.out.is⟩, hb.out⟩
end Go.Proofs.Ytlhilpmlffbnkaa
