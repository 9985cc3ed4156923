/-
  The document's own device of chapter 8: its answers. The conditions: the device's cells.
-/
import Derived.Test.YtfdldjhndfohhaaDoorBlockLaws
import Derived.Test.YtfdldjhndfohhaaDoorTextEq
namespace Go.Proofs.YtfdldjhndfohhaaDoor
open Go.RowKit BlockMath TextNat

/-- The document's device lies in block v. -/
def Rd (w : World) (v : Nat) (d : Dk) : Prop := Lies w v [.string d.done, .string d.late, .int .i64 d.room, .int .i64 d.fuse, .bool d.off] 51
theorem Rd.below {w w' : World} {v : Nat} {d : Dk} (h : Rd w v d) (hb : Below w.heap.size w w') : Rd w' v d := Lies.below h hb
theorem Rd.drewN {w : World} {v : Nat} {d : Dk} (h : Rd w v d) (n : Nat) : Rd (w.drewN n) v d := h
set_option maxRecDepth 100000 in
theorem refAll (v : Nat) (d : Dk) (w : World) (h : Rd w v d) (ok : Ok d) : Calls Tryd.prog 20 #[ptr v] w fun e w' => e = .returned (.string (all d)) ∧ ∃ n, w' = w.drewN n := by
  have c0 := Lies.cell (i := 0) h rfl
  have c1 := Lies.cell (i := 1) h rfl
  clear h
  have ka := ok.all
  have kb : d.done.size + d.late.size ≤ 9223372036854775807 := by omega
  go_enter Tryd.func20, Tryd.ntmps20
  go_wp2_with fail
  go_quiet (fail)
  go_wp2
  go_ret
  exact ⟨rfl, _, rfl⟩
set_option maxRecDepth 100000 in
theorem refNew (r : Int) (w : World) : Calls Tryd.prog 6 #[.int .i64 r] w fun e w' =>
    (if 0 ≤ r ∧ r ≤ 1048576 then e = .returned (.tuple #[ptr w.heap.size, .int .i64 0]) ∧ Rd w' w.heap.size (new r) else e = .returned (.tuple #[.pointer none, .int .i64 1])) ∧ Below w.heap.size w w' := by
  have HL := Lib.hid (Lies.new w [.string ByteArray.empty, .string ByteArray.empty, .int .i64 r, .int .i64 (-1), .bool false] 51)
  have HB := Lib.hid (show Below w.heap.size w (w.alloc (.cells #[.string ByteArray.empty, .string ByteArray.empty, .int .i64 r, .int .i64 (-1), .bool false] 51)) from (Below.refl _ _).alloc (Nat.le_refl _) _)
  cases h1 : decide (r < 0) <;> cases h2 : decide (1048576 < r)
  all_goals
    first
      | (have hr := Lib.hid (show ¬ (0 ≤ r ∧ r ≤ 1048576) by have := of_decide_eq_true h1; omega))
      | (have hr := Lib.hid (show ¬ (0 ≤ r ∧ r ≤ 1048576) by have := of_decide_eq_true h2; omega))
      | (have hr := Lib.hid (show (0 ≤ r ∧ r ≤ 1048576) by have := of_decide_eq_false h1; have := of_decide_eq_false h2; omega))
    first
      | simp only [if_neg hr.out]
      | simp only [if_pos hr.out]
    go_enter Tryd.func6, Tryd.ntmps6
    go_wp2
    go_ret2
    first
      | exact ⟨rfl, Below.refl _ _⟩
      | exact ⟨⟨rfl, HL.out⟩, HB.out⟩
/-- The fuse one further. -/
theorem rd_set {w : World} {v : Nat} {d d' : Dk} (h : Rd w v d) {i : Nat} {x : Value} (e : [Value.string d.done, .string d.late, .int .i64 d.room, .int .i64 d.fuse, .bool d.off].set i x = [.string d'.done, .string d'.late, .int .i64 d'.room, .int .i64 d'.fuse, .bool d'.off]) : Rd (w.setCell ⟨v, i, none⟩ x) v d' := by
  have := Lies.set h i x
  rw [e] at this
  exact this
set_option maxRecDepth 100000 in
theorem refDoes (v : Nat) (d : Dk) (w : World) (h : Rd w v d) (ok : Ok d) : Calls Tryd.prog 37 #[ptr v] w fun e w' => e = .returned (.bool (doesB d)) ∧ Rd w' v (doesD d) ∧ But v w w' := by
  have H := Lib.hid h
  have c3 := Lies.cell (i := 3) h rfl
  have c4 := Lies.cell (i := 4) h rfl
  have f3 := Lies.free h 3
  have f4 := Lies.free h 4
  have k0 := ok.fuse0
  have k1 := ok.fuse1
  clear h ok
  cases ho : d.off with
  | true =>
    have HB := Lib.hid (doesB_off ho)
    have HD := Lib.hid (doesD_off ho)
    rw [HB.out, HD.out]
    rw [ho] at c4
    go_enter Tryd.func37, Tryd.ntmps37
    go_wp2
    go_ret
    exact ⟨rfl, H.out, But.refl _ _⟩
  | false =>
    rw [ho] at c4
    obtain ⟨f, hf⟩ : ∃ f, f = d.fuse := ⟨_, rfl⟩
    rw [← hf] at c3 k0 k1
    by_cases h0 : f = 0
    · have HB := Lib.hid (show doesB d = false by unfold doesB; rw [ho, ← hf, h0]; rfl)
      have HD := Lib.hid (show doesD d = { d with off := true } by unfold doesD; rw [if_neg (by rw [ho]; simp), if_pos (by omega)])
      rw [HB.out, HD.out]
      have HR := Lib.hid (rd_set (d' := { d with off := true }) H.out (i := 4) (x := .bool true) rfl)
      subst h0
      clear hf
      go_enter Tryd.func37, Tryd.ntmps37
      go_wp2
      go_ret
      exact ⟨rfl, HR.out, But.set _ _ _ _⟩
    · have HB := Lib.hid (show doesB d = true by unfold doesB; rw [ho, ← hf, decide_eq_false h0]; rfl)
      have t0 : (f == 0) = false := by rw [beq_eq_false_iff_ne]; exact h0
      by_cases h1 : 0 < f
      · have t1 : decide (0 < f) = true := decide_eq_true h1
        have HD := Lib.hid (show doesD d = { d with fuse := f - 1 } by unfold doesD; rw [if_neg (by rw [ho]; simp), if_neg (by omega), if_pos (by omega), hf])
        rw [HB.out, HD.out]
        have HR := Lib.hid (rd_set (d' := { d with fuse := f - 1 }) H.out (i := 3) (x := .int .i64 (f - 1)) rfl)
        have n1 : IntKind.i64.wrap (f - 1) = f - 1 := by rw [IntKind.wrap_i64]; omega
        clear hf h0 h1
        go_enter Tryd.func37, Tryd.ntmps37
        go_wp2
        go_ret
        exact ⟨rfl, HR.out, But.set _ _ _ _⟩
      · have t1 : decide (0 < f) = false := decide_eq_false h1
        have HD := Lib.hid (show doesD d = d by unfold doesD; rw [if_neg (by rw [ho]; simp), if_neg (by omega), if_neg (by omega)])
        rw [HB.out, HD.out]
        clear hf h0 h1
        go_enter Tryd.func37, Tryd.ntmps37
        go_wp2
        go_ret
        exact ⟨rfl, H.out, But.refl _ _⟩
end Go.Proofs.YtfdldjhndfohhaaDoor
