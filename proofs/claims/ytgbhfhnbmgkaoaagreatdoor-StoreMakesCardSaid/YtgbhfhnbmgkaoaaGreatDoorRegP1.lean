/-
  The contracts of the program's own Above and Visible of chapter 15. No conditions.
-/
import Derived.Test.YtgbhfhnbmgkaoaaGreatDoorPart07
namespace Go.Proofs.YtgbhfhnbmgkaoaaGreatDoor
open Go.RowKit TextNat RegMath StampMath

set_option maxRecDepth 100000 in
theorem less15 (a1 a2 b1 b2 : Int) (w : World) : Calls Tryz.prog 68 #[.agg #[.int .i64 a1, .int .i64 a2], .agg #[.int .i64 b1, .int .i64 b2]] w fun e w' => e = .returned (.bool (less (a1, a2) (b1, b2))) ∧ Below w.heap.size w w' := by
  have HB := Lib.hid (((Below.refl w.heap.size w).alloc (Nat.le_refl _) (.cells #[.int .i64 a1, .int .i64 a2] 24)).alloc (by simp) (.cells #[.int .i64 b1, .int .i64 b2] 24))
  by_cases h : a1 = b1
  · have t1 : (a1 == b1) = true := by rw [beq_iff_eq]; exact h
    have t2 : (a1 != b1) = false := by rw [bne, t1]; rfl
    have HE := Lib.hid (show less (a1, a2) (b1, b2) = decide (a2 < b2) by unfold less; rw [if_pos h])
    clear h
    go_enter Tryz.func68, Tryz.ntmps68
    go_wp2
    go_ret
    exact ⟨by rw [HE.out]; rfl, HB.out⟩
  · have t1 : (a1 == b1) = false := by rw [beq_eq_false_iff_ne]; exact h
    have t2 : (a1 != b1) = true := by rw [bne, t1]; rfl
    have HE := Lib.hid (show less (a1, a2) (b1, b2) = decide (a1 < b1) by unfold less; rw [if_neg h])
    clear h
    go_enter Tryz.func68, Tryz.ntmps68
    go_wp2
    go_ret
    exact ⟨by rw [HE.out]; rfl, HB.out⟩
set_option maxRecDepth 100000 in
theorem visibleOk : VisibleOk := by
  intro a w
  obtain ⟨t, r, v, g, l⟩ := a
  unfold RegV.val
  simp only
  have HB := Lib.hid (((Below.refl w.heap.size w).alloc (Nat.le_refl _) (.cells #[.int .i64 t, .int .i64 r, .string v, .bool g, .int .i64 l] 58)))
  by_cases h : 0 < t
  · have t1 : decide (0 < t) = true := decide_eq_true h
    clear h
    cases g
    all_goals
      go_enter Tryz.func45, Tryz.ntmps45
      go_wp2
      go_ret
      exact ⟨by rw [t1]; rfl, HB.out⟩
  · have t1 : decide (0 < t) = false := decide_eq_false h
    clear h
    cases g
    all_goals
      go_enter Tryz.func45, Tryz.ntmps45
      go_wp2
      go_ret
      exact ⟨by rw [t1]; rfl, HB.out⟩
set_option maxRecDepth 100000 in
set_option maxHeartbeats 4000000 in
theorem aboveOk : AboveOk := by
  intro a b w
  have HEq := Lib.hid (fun w => eql_reg a b w)
  by_cases hab : a = b
  · subst hab
    have q0 := HEq.out
    rw [decide_eq_true rfl] at q0
    have HV := Lib.hid (above_self a.c)
    rw [HV.out]
    obtain ⟨t, r, v, g, l⟩ := a
    unfold RegV.val at q0 ⊢
    simp only at q0 ⊢
    have HB := Lib.hid (((Below.refl w.heap.size w).alloc (Nat.le_refl _) (.cells #[.int .i64 t, .int .i64 r, .string v, .bool g, .int .i64 l] 58)).alloc (by simp) (.cells #[.int .i64 t, .int .i64 r, .string v, .bool g, .int .i64 l] 58))
    clear HV HEq
    go_enter Tryz.func60, Tryz.ntmps60
    go_wp2
    go_ret
    exact ⟨rfl, HB.out⟩
  have q0 := HEq.out
  rw [decide_eq_false hab] at q0
  clear HEq hab
  obtain ⟨t, r, v, g, l⟩ := a
  obtain ⟨t2, r2, v2, g2, l2⟩ := b
  unfold RegV.val at q0 ⊢
  unfold RegV.c
  simp only at q0 ⊢
  have HB := Lib.hid (((Below.refl w.heap.size w).alloc (Nat.le_refl _) (.cells #[.int .i64 t, .int .i64 r, .string v, .bool g, .int .i64 l] 58)).alloc (by simp) (.cells #[.int .i64 t2, .int .i64 r2, .string v2, .bool g2, .int .i64 l2] 58))
  by_cases h1 : (t, r) = (t2, r2)
  · obtain ⟨rfl, rfl⟩ := Prod.mk.inj h1
    have q := fun w => neq_stamp (a1 := t) (a2 := r) (b1 := t) (b2 := r) w
    rw [decide_eq_true rfl] at q
    cases g <;> cases g2
    · by_cases h2 : v = v2
      · subst h2
        have HV := Lib.hid (show above ⟨(t, r), nats v, false, l⟩ ⟨(t, r), nats v, false, l2⟩ = decide (l2 < l) by simp [above])
        rw [HV.out]
        clear h1
        go_enter Tryz.func60, Tryz.ntmps60
        go_wp2
        go_ret
        exact ⟨rfl, HB.out⟩
      · have HV := Lib.hid (show above ⟨(t, r), nats v, false, l⟩ ⟨(t, r), nats v2, false, l2⟩ = lex (nats v2) (nats v) by simp [above, nats_ne h2])
        rw [HV.out]
        have q2 := fun w => neq_text v v2 w
        rw [decide_eq_false h2] at q2
        have q3 := fun w => gtr_text h2 w
        have q4 : (v.toList == v2.toList) = false := beq_eq_false_iff_ne.2 (text_list h2)
        clear h1 h2
        go_enter Tryz.func60, Tryz.ntmps60
        go_wp2
        go_ret
        exact ⟨rfl, HB.out⟩
    · have HV := Lib.hid (show above ⟨(t, r), nats v, false, l⟩ ⟨(t, r), nats v2, true, l2⟩ = false by simp [above])
      rw [HV.out]
      clear h1
      go_enter Tryz.func60, Tryz.ntmps60
      go_wp2
      go_ret
      exact ⟨rfl, HB.out⟩
    · have HV := Lib.hid (show above ⟨(t, r), nats v, true, l⟩ ⟨(t, r), nats v2, false, l2⟩ = true by simp [above])
      rw [HV.out]
      clear h1
      go_enter Tryz.func60, Tryz.ntmps60
      go_wp2
      go_ret
      exact ⟨rfl, HB.out⟩
    · by_cases h2 : v = v2
      · subst h2
        have HV := Lib.hid (show above ⟨(t, r), nats v, true, l⟩ ⟨(t, r), nats v, true, l2⟩ = decide (l2 < l) by simp [above])
        rw [HV.out]
        clear h1
        go_enter Tryz.func60, Tryz.ntmps60
        go_wp2
        go_ret
        exact ⟨rfl, HB.out⟩
      · have HV := Lib.hid (show above ⟨(t, r), nats v, true, l⟩ ⟨(t, r), nats v2, true, l2⟩ = lex (nats v2) (nats v) by simp [above, nats_ne h2])
        rw [HV.out]
        have q2 := fun w => neq_text v v2 w
        rw [decide_eq_false h2] at q2
        have q3 := fun w => gtr_text h2 w
        have q4 : (v.toList == v2.toList) = false := beq_eq_false_iff_ne.2 (text_list h2)
        clear h1 h2
        go_enter Tryz.func60, Tryz.ntmps60
        go_wp2
        go_ret
        exact ⟨rfl, HB.out⟩
  · have q := fun w => neq_stamp (a1 := t) (a2 := r) (b1 := t2) (b2 := r2) w
    rw [decide_eq_false h1] at q
    have HV := Lib.hid (show above ⟨(t, r), nats v, g, l⟩ ⟨(t2, r2), nats v2, g2, l2⟩ = less (t2, r2) (t, r) by unfold above; rw [if_pos h1])
    rw [HV.out]
    have HL := Lib.hid (fun w => less15 t2 r2 t r w)
    clear h1
    go_enter Tryz.func60, Tryz.ntmps60
    go_wp2_with fail
    refine (HL.out _).mono ?_
    rintro e w5 ⟨rfl, hb⟩
    have HB5 := Lib.hid (HB.out.trans (hb.mono HB.out.size))
    clear hb
    go_wp2
    go_ret
    exact ⟨rfl, HB5.out⟩
end Go.Proofs.YtgbhfhnbmgkaoaaGreatDoor
