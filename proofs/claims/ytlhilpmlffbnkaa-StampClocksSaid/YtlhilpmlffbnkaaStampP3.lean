/-
  The contract of Greatest of chapter 7. No conditions but those typed.
-/
import Derived.Test.YtlhilpmlffbnkaaStampP2
namespace Go.Proofs.Ytlhilpmlffbnkaa
open Go.RowKit StampMath

/-- The greatest of the first ones. -/
def Best (l : List St) (i : Nat) (t : St) : Prop := t ∈ l ∧ ∀ (k : Nat) (a : St), k ≤ i → l[k]? = some a → less t a = false
theorem Best.start {l : List St} {a : St} (h : l[0]? = some a) : Best l 0 a := ⟨List.mem_of_getElem? h, fun k x hk hx => by
  obtain rfl : k = 0 := by omega
  obtain rfl : a = x := Option.some.inj (h.symm.trans hx)
  exact less_self a⟩
theorem Best.keep {l : List St} {i : Nat} {t a : St} (h : Best l i t) (ha : l[i + 1]? = some a) (hl : less t a = false) : Best l (i + 1) t := ⟨h.1, fun k x hk hx => by
  by_cases e : k = i + 1
  · subst e
    obtain rfl : a = x := Option.some.inj (ha.symm.trans hx)
    exact hl
  · exact h.2 k x (by omega) hx⟩
theorem Best.take {l : List St} {i : Nat} {t a : St} (h : Best l i t) (ha : l[i + 1]? = some a) (hl : less t a = true) : Best l (i + 1) a := ⟨List.mem_of_getElem? ha, fun k x hk hx => by
  by_cases e : k = i + 1
  · subst e
    obtain rfl : a = x := Option.some.inj (ha.symm.trans hx)
    exact less_self a
  · have h1 := h.2 k x (by omega) hx
    rw [less_not] at h1 ⊢
    rw [less_iff] at hl
    omega⟩
theorem Best.end {l : List St} {i : Nat} {t : St} (h : Best l i t) (hi : l.length ≤ i + 1) : greatV l = t ∧ greatB l = true := by
  obtain ⟨j, hj⟩ := List.getElem?_of_mem h.1
  refine great_at hj (top_iff.2 fun x hx => ?_)
  obtain ⟨k, hk⟩ := List.getElem?_of_mem hx
  exact h.2 k x (by have := (List.getElem?_eq_some_iff.1 hk).1; omega) hk
set_option maxRecDepth 100000 in
set_option maxHeartbeats 4000000 in
theorem greatestOk : GreatestOk := by
  intro p c l w h hl hc
  obtain ⟨N, hN⟩ : ∃ N, N = l.length := ⟨_, rfl⟩
  have HN := Lib.hid hN
  have HB0 := Lib.hid (show Below w.heap.size w (w.alloc (.cells #[.int .i64 0, .int .i64 0] 25)) from (Below.refl _ _).alloc (Nat.le_refl _) _)
  have HR0 := Lib.hid (Lies.new w [.int .i64 0, .int .i64 0] 25)
  have HS0 := Lib.hid (show (w.alloc (.cells #[.int .i64 0, .int .i64 0] 25)).heap.size = w.heap.size + 1 by simp)
  have HI := Lib.hid h
  have HI0 := Lib.hid (h.grown HB0.out)
  rw [← hN] at hl hc ⊢
  clear h hN
  cases l with
  | nil =>
    obtain rfl : N = 0 := HN.out
    have c0 := HR0.out.cell (i := 0) rfl
    have c1 := HR0.out.cell (i := 1) rfl
    have f0 := HR0.out.free 0
    have f1 := HR0.out.free 1
    go_enter Try.func10, Try.ntmps10
    go_wp2
    have q2 := HR0.out
    refine bodyPost_ret (results_cell_tmp Try.results10 _ _ w.heap.size 25 _ (0, 0) _ rfl q2 Try.underlying25 rfl (by kernel_rfl)) rfl ?_
    exact ⟨rfl, HB0.out⟩
  | cons a0 l0 =>
    obtain ⟨M, rfl⟩ : ∃ M, N = M + 1 := ⟨l0.length, HN.out⟩
    obtain ⟨b, off, rfl, hx1, hx2⟩ := HI0.out 0 a0 rfl
    replace hx1 := (show (w.alloc (.cells #[.int .i64 0, .int .i64 0] 25)).cell? ⟨b, off, none⟩ = some (.int .i64 a0.1) by simpa using hx1)
    replace hx2 := (show (w.alloc (.cells #[.int .i64 0, .int .i64 0] 25)).cell? ⟨b, off + 1, none⟩ = some (.int .i64 a0.2) by simpa using hx2)
    obtain ⟨d, rfl⟩ : ∃ d, c = d + 1 := ⟨c - 1, by omega⟩
    have n1 : ((((M + 1 : Nat) : Int)) == 0) = false := by rw [beq_eq_false_iff_ne]; omega
    have n2 : (((M : Int) + 1) == 0) = false := by rw [beq_eq_false_iff_ne]; omega
    go_enter Try.func10, Try.ntmps10
    go_wp2_with fail
    all_goals
      have HB1 := Lib.hid (HB0.out.alloc (by simp) (.cells #[.int .i64 a0.1, .int .i64 a0.2] 25))
      have HR1 := Lib.hid (HR0.out.below ((Below.refl _ _).alloc (Nat.le_refl _) (.cells #[.int .i64 a0.1, .int .i64 a0.2] 25)))
      have HT1 := Lib.hid (HS0.out ▸ Lies.new (w.alloc (.cells #[.int .i64 0, .int .i64 0] 25)) [.int .i64 a0.1, .int .i64 a0.2] 25)
      clear hx1 hx2 n1 n2 HB0 HR0 HS0 HI0
      generalize (w.alloc (.cells #[.int .i64 0, .int .i64 0] 25)).alloc (.cells #[.int .i64 a0.1, .int .i64 a0.2] 25) = W1 at HB1 HR1 HT1 ⊢
      go_loopg [17] M (fun gh s17 wx => ∃ (i : Nat) (t : St), i + gh = M ∧ s17 = .int .i64 (i : Int) ∧ Hid (Best (a0 :: l0) i t) ∧ Hid (Lies wx (w.heap.size + 1) [.int .i64 t.1, .int .i64 t.2] 25) ∧ Hid (Lies wx w.heap.size [.int .i64 0, .int .i64 0] 25) ∧ Hid (Below w.heap.size w wx))
      case atStart => exact ⟨0, a0, by omega, by go_num, Lib.hid (Best.start rfl), HT1, HR1, HB1⟩
      case round =>
        obtain ⟨i, t, hi, rfl, HBest, HT2, HR2, HB2⟩ := hrel
        rename World => W2
        by_cases hiM : i < M
        · have t1 : decide ((i : Int) < (M : Int)) = true := decide_eq_true (by omega)
          have t1' : decide (i < M) = true := decide_eq_true hiM
          try (exfalso; omega)
          all_goals
            obtain ⟨⟨a1, a2⟩, ha⟩ : ∃ a, (a0 :: l0)[i + 1]? = some a := ⟨_, List.getElem?_eq_getElem (by rw [← HN.out]; omega)⟩
            obtain ⟨b', off', hp', hy1, hy2⟩ := (HI.out.grown HB2.out) (i + 1) _ ha
            obtain ⟨rfl, rfl⟩ : b' = b ∧ off' = off := by simpa using hp'.symm
            have HA := Lib.hid ha
            have e1 : off' + (i + 1) * 2 = off' + 2 + i * 2 := by omega
            rw [e1] at hy1 hy2
            have HLs := Lib.hid (lessOk t.1 t.2 a1 a2)
            have hA : Below W2.heap.size W2 (W2.alloc (.cells #[.int .i64 a1, .int .i64 a2] 25)) := (Below.refl _ _).alloc (Nat.le_refl _) _
            have HA3 := Lib.hid (HB2.out.trans (hA.mono HB2.out.size))
            have HT3 := Lib.hid (HT2.out.below hA)
            have HR3 := Lib.hid (HR2.out.below hA)
            have HS3 := Lib.hid (Lies.new W2 [.int .i64 a1, .int .i64 a2] 25)
            have hn := Lib.hid (show w.heap.size ≠ w.heap.size + 1 by omega)
            have ht0 := HT3.out.cell (i := 0) rfl
            have ht1 := HT3.out.cell (i := 1) rfl
            have hs0 := HS3.out.cell (i := 0) rfl
            have hs1 := HS3.out.cell (i := 1) rfl
            clear ha hp' hA e1
            go_wp2_with fail
            refine (HLs.out _).mono ?_
            rintro e w4 ⟨rfl, hb4⟩
            have HA4 := Lib.hid (HA3.out.trans (hb4.mono HA3.out.size))
            have HT4 := Lib.hid (HT3.out.below hb4)
            have HR4 := Lib.hid (HR3.out.below hb4)
            have HS4 := Lib.hid (HS3.out.below hb4)
            clear hb4 ht0 ht1 hs0 hs1 hy1 hy2 HT3 HR3 HS3 HA3 HLs
            have ht0 := HT4.out.cell (i := 0) rfl
            have ht1 := HT4.out.cell (i := 1) rfl
            have hf0 := HT4.out.free 0
            have hf1 := HT4.out.free 1
            have hs0 := HS4.out.cell (i := 0) rfl
            have hs1 := HS4.out.cell (i := 1) rfl
            cases hm : less (t.1, t.2) (a1, a2) with
            | false =>
              have HX := Lib.hid (HBest.out.keep HA.out hm)
              go_wp2
              go_roundg (M - (i + 1))
              case measure => omega
              case rel => exact ⟨i + 1, t, by omega, by go_num, HX, HT4, HR4, HA4⟩
            | true =>
              have HX := Lib.hid (HBest.out.take HA.out hm)
              go_wp2
              go_roundg (M - (i + 1))
              case measure => omega
              case rel =>
                refine ⟨i + 1, (a1, a2), by omega, by go_num, HX, Lib.hid ((HT4.out.set 0 (.int .i64 a1)).set 1 (.int .i64 a2)), Lib.hid (Lies.but (Lies.but HR4.out (But.set _ 0 _ _) hn.out) (But.set _ 1 _ _) hn.out), Lib.hid (below_cell (below_cell HA4.out (by omega) 0 _) (by omega) 1 _)⟩
        · have t1 : decide ((i : Int) < (M : Int)) = false := decide_eq_false (by omega)
          have t1' : decide (i < M) = false := decide_eq_false hiM
          obtain ⟨g1, g2⟩ := HBest.out.end (by rw [← HN.out]; omega)
          have HG1 := Lib.hid g1
          have HG2 := Lib.hid g2
          have hc0 := HR2.out.cell (i := 0) rfl
          have hc1 := HR2.out.cell (i := 1) rfl
          have hf0 := HR2.out.free 0
          have hf1 := HR2.out.free 1
          have ht0 := HT2.out.cell (i := 0) rfl
          have ht1 := HT2.out.cell (i := 1) rfl
          clear g1 g2
          go_wp2
          have q2 := (HR2.out.set 0 (.int .i64 t.1)).set 1 (.int .i64 t.2)
          refine bodyPost_ret (results_cell_tmp Try.results10 _ _ w.heap.size 25 _ (0, 0) _ rfl q2 Try.underlying25 rfl (by kernel_rfl)) rfl ?_
          refine ⟨by rw [HG1.out, HG2.out]; rfl, ?_⟩
          exact below_cell (below_cell HB2.out (Nat.le_refl _) 0 _) (Nat.le_refl _) 1 _
end Go.Proofs.Ytlhilpmlffbnkaa
