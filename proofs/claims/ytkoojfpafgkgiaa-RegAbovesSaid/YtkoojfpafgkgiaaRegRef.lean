/-
  The document's own Above and Visible of chapter 15. No conditions.
-/
import Derived.Test.YtkoojfpafgkgiaaRegLaws
import Derived.Test.YtkoojfpafgkgiaaStampRef
namespace Go.Proofs.Ytkoojfpafgkgiaa
open Go.RowKit TextNat RegMath StampMath

theorem bytes_lex : ∀ x y : List UInt8, Go.Op.bytesLess x y = lex (x.map UInt8.toNat) (y.map UInt8.toNat)
  | _, [] => by simp [Go.Op.bytesLess, lex]
  | [], _ :: _ => by simp [Go.Op.bytesLess, lex]
  | a :: x, b :: y => by
    simp only [Go.Op.bytesLess, lex, List.map_cons, bytes_lex x y]
    congr 2
    rw [Bool.eq_iff_iff, beq_iff_eq, beq_iff_eq]
    exact ⟨fun h => by rw [h], fun h => UInt8.toNat_inj.1 h⟩
theorem text_less (a b : ByteArray) : Go.Op.bytesLess a.toList b.toList = lex (nats a) (nats b) := by
  rw [ByteArray.toList_eq, ByteArray.toList_eq]
  exact bytes_lex _ _
theorem nats_ne {a b : ByteArray} (h : ¬ a = b) : ¬ nats a = nats b := fun e => h (by rw [← txt_nats a, ← txt_nats b, e])
/-- '>' of two unlike texts. -/
theorem gtr_text {a b : ByteArray} (h : ¬ a = b) (w : World) : (binOp .gtr 9 (.string a) (.string b)).run Try.prog w = .ok (.bool (lex (nats b) (nats a))) w := by
  have k := text_list h
  have e : lex (nats b) (nats a) = !(Go.Op.bytesLess a.toList b.toList || a.toList == b.toList) := by
    rw [text_less, beq_eq_false_iff_ne.2 k, Bool.or_false]
    rcases lex_tri (nats a) (nats b) with h1 | h1 | h1
    · exact absurd h1 (nats_ne h)
    · rw [h1, strict_lex.asym h1]; rfl
    · rw [h1, strict_lex.asym h1]; rfl
  rw [show binOp .gtr 9 (.string a) (.string b) = pure (.bool (!(Go.Op.bytesLess a.toList b.toList || a.toList == b.toList))) by simp [binOp, Go.Op.stringOp], e]
  rfl
theorem neq_stamp {a1 a2 b1 b2 : Int} (w : World) : (binOp .neq 26 (.agg #[.int .i64 a1, .int .i64 a2]) (.agg #[.int .i64 b1, .int .i64 b2])).run Try.prog w = .ok (.bool (!decide ((a1, a2) = (b1, b2)))) w := by
  by_cases h1 : a1 = b1
  · by_cases h2 : a2 = b2
    · subst h1; subst h2
      rw [decide_eq_true rfl]
      go_simp
    · rw [decide_eq_false (by simp [h2])]
      subst h1
      go_simp
  · rw [decide_eq_false (by simp [h1])]
    go_simp
set_option maxRecDepth 100000 in
theorem refVisible15 (a : RegV) (w : World) : Calls Try.prog 10 #[a.val] w fun e w' => e = .returned (.bool (decide (0 < a.time) && !a.gone)) ∧ Below w.heap.size w w' := by
  obtain ⟨t, r, v, g, l⟩ := a
  unfold RegV.val
  simp only
  have HB := Lib.hid ((Below.refl w.heap.size w).alloc (Nat.le_refl _) (.cells #[.int .i64 t, .int .i64 r, .string v, .bool g, .int .i64 l] 31))
  have HQ := Lib.hid (show decide (0 < t) = decide ((1 : Int) ≤ t) from decide_eq_decide.2 (by omega))
  cases g
  all_goals
    go_enter Try.func10, Try.ntmps10
    go_wp2
    go_ret
    exact ⟨by rw [HQ.out]; simp, HB.out⟩
set_option maxRecDepth 100000 in
set_option maxHeartbeats 4000000 in
theorem refAbove15 (a b : RegV) (w : World) : Calls Try.prog 12 #[a.val, b.val] w fun e w' => e = .returned (.bool (above a.c b.c)) ∧ Below w.heap.size w w' := by
  obtain ⟨t, r, v, g, l⟩ := a
  obtain ⟨t2, r2, v2, g2, l2⟩ := b
  unfold RegV.val RegV.c
  simp only
  have HB := Lib.hid (((Below.refl w.heap.size w).alloc (Nat.le_refl _) (.cells #[.int .i64 t, .int .i64 r, .string v, .bool g, .int .i64 l] 31)).alloc (by simp) (.cells #[.int .i64 t2, .int .i64 r2, .string v2, .bool g2, .int .i64 l2] 31))
  by_cases h1 : (t, r) = (t2, r2)
  · obtain ⟨rfl, rfl⟩ := Prod.mk.inj h1
    have q := fun w => neq_stamp (a1 := t) (a2 := r) (b1 := t) (b2 := r) w
    rw [decide_eq_true rfl] at q
    cases g <;> cases g2
    · by_cases h2 : v = v2
      · subst h2
        have HV := Lib.hid (show above ⟨(t, r), nats v, false, l⟩ ⟨(t, r), nats v, false, l2⟩ = decide (l2 < l) by simp [above])
        rw [HV.out]
        clear h1
        go_enter Try.func12, Try.ntmps12
        go_wp2
        go_ret
        exact ⟨rfl, HB.out⟩
      · have HV := Lib.hid (show above ⟨(t, r), nats v, false, l⟩ ⟨(t, r), nats v2, false, l2⟩ = lex (nats v2) (nats v) by simp [above, nats_ne h2])
        rw [HV.out]
        have q2 := fun w => neq_text v v2 w
        rw [decide_eq_false h2] at q2
        have q3 := fun w => gtr_text h2 w
        have q4 : (v.toList == v2.toList) = false := beq_eq_false_iff_ne.2 (text_list h2)
        clear h1 h2
        go_enter Try.func12, Try.ntmps12
        go_wp2
        go_ret
        exact ⟨rfl, HB.out⟩
    · have HV := Lib.hid (show above ⟨(t, r), nats v, false, l⟩ ⟨(t, r), nats v2, true, l2⟩ = false by simp [above])
      rw [HV.out]
      clear h1
      go_enter Try.func12, Try.ntmps12
      go_wp2
      go_ret
      exact ⟨rfl, HB.out⟩
    · have HV := Lib.hid (show above ⟨(t, r), nats v, true, l⟩ ⟨(t, r), nats v2, false, l2⟩ = true by simp [above])
      rw [HV.out]
      clear h1
      go_enter Try.func12, Try.ntmps12
      go_wp2
      go_ret
      exact ⟨rfl, HB.out⟩
    · by_cases h2 : v = v2
      · subst h2
        have HV := Lib.hid (show above ⟨(t, r), nats v, true, l⟩ ⟨(t, r), nats v, true, l2⟩ = decide (l2 < l) by simp [above])
        rw [HV.out]
        clear h1
        go_enter Try.func12, Try.ntmps12
        go_wp2
        go_ret
        exact ⟨rfl, HB.out⟩
      · have HV := Lib.hid (show above ⟨(t, r), nats v, true, l⟩ ⟨(t, r), nats v2, true, l2⟩ = lex (nats v2) (nats v) by simp [above, nats_ne h2])
        rw [HV.out]
        have q2 := fun w => neq_text v v2 w
        rw [decide_eq_false h2] at q2
        have q3 := fun w => gtr_text h2 w
        have q4 : (v.toList == v2.toList) = false := beq_eq_false_iff_ne.2 (text_list h2)
        clear h1 h2
        go_enter Try.func12, Try.ntmps12
        go_wp2
        go_ret
        exact ⟨rfl, HB.out⟩
  · have q := fun w => neq_stamp (a1 := t) (a2 := r) (b1 := t2) (b2 := r2) w
    rw [decide_eq_false h1] at q
    have HV := Lib.hid (show above ⟨(t, r), nats v, g, l⟩ ⟨(t2, r2), nats v2, g2, l2⟩ = less (t2, r2) (t, r) by unfold above; rw [if_pos h1])
    rw [HV.out]
    have HL := Lib.hid (fun w => refLess t2 r2 t r w)
    clear h1
    go_enter Try.func12, Try.ntmps12
    go_wp2_with fail
    refine (HL.out _).mono ?_
    rintro e w5 ⟨rfl, hb⟩
    have HB5 := Lib.hid (HB.out.trans (hb.mono HB.out.size))
    clear hb
    go_wp2
    go_ret
    exact ⟨rfl, HB5.out⟩
end Go.Proofs.Ytkoojfpafgkgiaa
