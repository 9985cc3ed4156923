/-
  StoreSweeps' contract: it answers true of any writes and floor, out of the program's contracts. The conditions: the writes lie in memory.
-/
import Derived.Test.YtgbhfhnbmgkaoaaStoreSameLaw
namespace Go.Proofs.Ytgbhfhnbmgkaoaa
open Go.RowKit TextNat RegMath

theorem shows_own {D : Sto} (hP : Store16 D) {w0 w : World} {b : Nat} {xs : List RowV} (h : OwnSto D w0 w b xs) (hs : Short xs) :
    Calls Try.prog 20 #[ptr16 b] w fun e w' => (∃ p c, e = .returned (.slice p (showsV xs).length c) ∧ (showsV xs).length ≤ c ∧ c ≤ 9223372036854775807 ∧ RowsIn w' p (showsV xs)) ∧ Below w.heap.size w w' := by
  obtain ⟨⟨S, h1, h2⟩, h3⟩ := h
  exact hP.shows b S xs w h1 hs
/-- Apply behind a new block: it stays. -/
theorem apply_new {D : Sto} (hP : Store16 D) {w0 W : World} {a b : Nat} {xs ys : List RowV} (h : Two16 D w0 W a xs b ys) (hs : Short xs) (hn : xs.length ≤ 900) (y : WriteV) (l : List Value) (T : TypeId) (hy : y.short W) :
    Calls Try.prog 12 #[ptr16 a, y.val] (W.alloc (.cells l.toArray T)) fun e w' => e = .returned (.bool (applyV xs y).2) ∧ Two16 D w0 w' a (applyV xs y).1 b ys ∧ Lies w' W.heap.size l T := by
  have hal : Below W.heap.size W (W.alloc (.cells l.toArray T)) := (Below.refl _ _).alloc (Nat.le_refl _) _
  obtain ⟨⟨S, U, h1, h2, h3, h4⟩, h5⟩ := h
  have h1' := D.stays h1 hal.size fun k hk => hal.block k (D.lt h1 k hk)
  have hT : Two16 D w0 (W.alloc (.cells l.toArray T)) a xs b ys := Two16.below ⟨⟨S, U, h1, h2, h3, h4⟩, h5⟩ hal
  have hl := Lies.new W l T
  refine (hP.apply a S xs y _ h1' hs hn ⟨hy.vec.grown hal, hy.texts⟩).mono ?_
  rintro e w' ⟨rfl, ⟨S', k1, k2⟩, k3⟩
  refine ⟨rfl, ⟨⟨S', U, k1, D.stays (D.stays h2 hal.size fun k hk => hal.block k (D.lt h2 k hk)) k3.size fun k hk => k3.block k (Nat.lt_of_lt_of_le (D.lt h2 k hk) hal.size) fun e => (h3 k e).2 hk, fun k hk => ?_, h4⟩, ⟨k3.os.trans hT.2.os, k3.tape.trans hT.2.tape, k3.output.trans hT.2.output, Nat.le_trans hT.2.size k3.size, fun k hk => ?_⟩⟩, (k3.block _ hl.lt fun e => ?_).trans hl⟩
  · rcases k2 k hk with e | e
    · exact h3 k e
    · exact ⟨Nat.le_trans hT.2.size e, fun t => by have := D.lt h2 k t; have := hal.size; omega⟩
  · refine (k3.block k (Nat.lt_of_lt_of_le hk hT.2.size) fun e => ?_).trans (hT.2.block k hk)
    have := (h3 k e).1
    omega
  · have := D.lt h1 _ e
    omega
theorem shows_short {xs : List RowV} (h : Short xs) : Short (showsV xs) := short_filter h _
/-- Two stores' rows of which the one was swept. -/
def SweptV (f : Int) (xs ys : List RowV) : Prop := StoreMath.Swept f (xs.map RowV.r) (ys.map RowV.r)
theorem swept_v {xs : List RowV} (f : Int) (h : Short xs) : SweptV f xs (sweepV xs f) := by
  unfold SweptV
  rw [← sweep_r]
  exact StoreMath.swept_sweep f h.rises
theorem swept_v_apply {f : Int} {xs ys : List RowV} (y : WriteV) (h : SweptV f xs ys) (hw : f < y.time) : SweptV f (applyV xs y).1 (applyV ys y).1 := by
  have h1 := congrArg Prod.fst (apply_v xs y h.ra)
  have h2 := congrArg Prod.fst (apply_v ys y h.rb)
  simp only at h1 h2
  unfold SweptV
  rw [← h1, ← h2]
  exact StoreMath.swept_apply _ h hw
theorem swept_v_shows {f : Int} {xs ys : List RowV} (h : SweptV f xs ys) : showsV xs = showsV ys := by
  have h1 := StoreMath.swept_shows h
  rw [shows_r, shows_r] at h1
  rw [← rows_back (showsV xs), h1, rows_back]
set_option maxRecDepth 100000 in
set_option maxHeartbeats 8000000 in
theorem sweeps_true (D : Sto) (hP : Store16 D) (hW : Sweep16 D) (p p2 : Option Addr) (c c2 : Nat) (l l2 : List WriteV) (f : Int) (w : World) (h : WritesIn w p l) (hl : l.length ≤ 9223372036854775807) (h' : WritesIn w p2 l2) (hl' : l2.length ≤ 9223372036854775807) :
    Calls Try.prog 5 #[.slice p l.length c, .slice p2 l2.length c2, .int .i64 f] w fun e w' => e = .returned (.bool true) ∧ Below w.heap.size w w' := by
  have HA := Lib.hid (awake16 D hP)
  have HSw := Lib.hid hW
  have HP := Lib.hid hP
  have HI := Lib.hid h
  have HI2 := Lib.hid h'
  have HG := Lib.hid (fun w1 (hw : Below w.heap.size w w1) => great16 p c l w1 (h.grown hw) hl)
  have HG2 := Lib.hid (fun w1 (hw : Below w.heap.size w w1) => great16 p2 c2 l2 w1 (h'.grown hw) hl')
  obtain ⟨N, hN⟩ : ∃ N, N = l.length := ⟨_, rfl⟩
  obtain ⟨N2, hN2⟩ : ∃ N2, N2 = l2.length := ⟨_, rfl⟩
  have HN := Lib.hid hN
  have HN2 := Lib.hid hN2
  rw [← hN] at hl HG ⊢
  rw [← hN2] at hl' HG2 ⊢
  clear h h' hP hW hN hN2
  cases hg : greatW l with
  | true =>
    rw [hg] at HG
    clear hg
    go_enter Try.func5, Try.ntmps5
    go_wp2_with fail
    refine (HA.out _).mono ?_
    rintro e w1 ⟨rfl, h1⟩
    have HB1 := Lib.hid h1
    clear h1
    go_wp2_with fail
    refine (HG.out w1 HB1.out).mono ?_
    rintro e w2 ⟨rfl, h2⟩
    have HB2 := Lib.hid (HB1.out.trans (h2.mono HB1.out.size))
    clear h2
    go_wp2
    go_ret
    exact ⟨rfl, HB2.out⟩
  | false =>
    rw [hg] at HG
    obtain ⟨hn, hsz⟩ := greatW_not hg
    rw [← HN.out] at hn
    have HS := Lib.hid hsz
    clear hg hsz
    go_enter Try.func5, Try.ntmps5
    go_wp2_with fail
    refine (HA.out _).mono ?_
    rintro e w1 ⟨rfl, h1⟩
    have HB1 := Lib.hid h1
    clear h1
    go_wp2_with fail
    refine (HG.out w1 HB1.out).mono ?_
    rintro e w2 ⟨rfl, h2⟩
    have HB2 := Lib.hid (HB1.out.trans (h2.mono HB1.out.size))
    clear h2
    go_wp2_with fail
    refine (HG2.out w2 HB2.out).mono ?_
    rintro e w3 ⟨rfl, h3⟩
    have HB3 := Lib.hid (HB2.out.trans (h3.mono HB2.out.size))
    clear h3
    cases hg2 : greatW l2 with
    | true =>
      clear hg2
      go_wp2
      go_ret
      exact ⟨rfl, HB3.out⟩
    | false =>
      obtain ⟨hn2, hsz2⟩ := greatW_not hg2
      rw [← HN2.out] at hn2
      have HS2 := Lib.hid hsz2
      clear hg2 hsz2
      go_wp2_with fail
      refine (new_own HP.out w3).mono ?_
      rintro e w4 ⟨a, rfl, h4⟩
      have H4 := Lib.hid (own_since h4 HB3.out)
      clear h4
      go_wp2_with fail
      refine (new_two HP.out H4.out).mono ?_
      rintro e w5 ⟨b, rfl, h5⟩
      have H5 := Lib.hid h5
      clear h5
      go_wp2_with fail
      go_loopg [26] N (fun gh s26 wx => ∃ i : Nat, i + gh = N ∧ s26 = .int .i64 (i : Int) ∧ Hid (Two16 D w wx a (afterV [] (l.take i)) b (afterV [] (l.take i))))
      case atStart => exact ⟨0, by omega, by go_num, H5⟩
      case round =>
        obtain ⟨i, hi, rfl, HT⟩ := hrel
        rename World => W5
        have HB5 := Lib.hid HT.out.2
        by_cases hlt : i < N
        · have q1 : decide ((i : Int) < (N : Int)) = true := decide_eq_true (by omega)
          have q1' : decide (i < N) = true := decide_eq_true hlt
          have q0 : (i : Int) < (N : Int) := by omega
          obtain ⟨y, hy⟩ : ∃ y, l[i]? = some y := ⟨_, List.getElem?_eq_getElem (by rw [← HN.out]; exact hlt)⟩
          have HY := Lib.hid (after_one hy)
          have HY1 := Lib.hid hy
          have HS1 := Lib.hid (short_of HS.out (m := l.take i) (fun y hy => List.mem_of_mem_take hy) (by rw [List.length_take]; omega))
          have HIn := Lib.hid (And.intro hi hlt)
          have HL1 := Lib.hid (show (l.take i).length ≤ 80 by rw [List.length_take]; omega)
          obtain ⟨b1, o1, hp, x0, x1, x2, x3, x4, x5, x6, x7, x8, x9⟩ := (HI.out.grown HB5.out).look hy
          subst hp
          clear hi hlt hy
          go_wp2_with fail
          refine (apply_new HP.out HT.out HS1.out.1 (by have := HS1.out.2; have := HL1.out; omega) y y.cells 36 (writes_short (HI.out.grown HB5.out) HS.out HY1.out)).mono ?_
          rintro e W6 ⟨rfl, h6, hl6⟩
          have HT6 := Lib.hid h6
          have HB6 := Lib.hid h6.2
          clear h6 x0 x1 x2 x3 x4 x5 x6 x7 x8 x9
          have x0 := hl6.cell (i := 0) rfl; have x1 := hl6.cell (i := 1) rfl; have x2 := hl6.cell (i := 2) rfl; have x3 := hl6.cell (i := 3) rfl; have x4 := hl6.cell (i := 4) rfl
          have x5 := hl6.cell (i := 5) rfl; have x6 := hl6.cell (i := 6) rfl; have x7 := hl6.cell (i := 7) rfl; have x8 := hl6.cell (i := 8) rfl; have x9 := hl6.cell (i := 9) rfl
          clear hl6
          go_wp2_with fail
          refine (apply_two HP.out HT6.out.swap HS1.out.1 (by have := HS1.out.2; have := HL1.out; omega) y (writes_short (HI.out.grown HB6.out) HS.out HY1.out)).mono ?_
          rintro e W7 ⟨rfl, h7⟩
          have HT7 := Lib.hid h7.swap
          clear h7
          go_wp2
          go_roundg (N - (i + 1))
          case measure => have := HIn.out; omega
          case rel => exact ⟨i + 1, by have := HIn.out; omega, by go_num, by rw [HY.out]; exact HT7⟩
        · have q1 : decide ((i : Int) < (N : Int)) = false := decide_eq_false (by omega)
          have q1' : decide (i < N) = false := decide_eq_false hlt
          have e1 : l.take i = l := List.take_of_length_le (by rw [← HN.out]; omega)
          rw [e1] at HT
          have HSa := Lib.hid (short_of HS.out (m := l) (fun y hy => hy) (by rw [← HN.out]; omega))
          clear hi hlt e1
          go_wp2_with fail
          obtain ⟨X, hX⟩ : ∃ X, X = afterV [] l := ⟨_, rfl⟩
          rw [← hX] at HT HSa
          have HX := Lib.hid HSa.out.1
          have HY := Lib.hid (show Short (sweepV X f) from short_filter HSa.out.1 (keptV f))
          have HSW := Lib.hid (swept_v f HSa.out.1)
          have HXl := Lib.hid (show X.length ≤ 80 by have := HSa.out.2; rw [← HN.out] at this; omega)
          have HKl := Lib.hid (show (sweepV X f).length ≤ X.length from List.length_filter_le _ _)
          clear hX HSa
          refine (rows_own HP.out HT.out.swap.left HX.out).mono ?_
          rintro e W6 ⟨⟨p6, c6, rfl, _, _, _⟩, h6⟩
          have HT6 := Lib.hid (HT.out.below h6)
          clear h6
          go_wp2_with fail
          refine (sweep_two HSw.out HT6.out.swap HX.out f).mono ?_
          rintro e W7 ⟨rfl, h7⟩
          have HT7 := Lib.hid h7.swap
          clear h7
          go_wp2_with fail
          refine (rows_own HP.out HT7.out.swap.left HY.out).mono ?_
          rintro e W8 ⟨⟨p8, c8, rfl, _, _, _⟩, h8⟩
          have HT8 := Lib.hid (HT7.out.below h8)
          clear h8
          obtain ⟨A, hA⟩ : ∃ A, A = X.length := ⟨_, rfl⟩
          obtain ⟨B, hB⟩ : ∃ B, B = (sweepV X f).length := ⟨_, rfl⟩
          have hAB : A ≤ 80 ∧ B ≤ A := by have := HXl.out; have := HKl.out; omega
          rw [← hA, ← hB]
          have m1 : wrap64 ((A : Int) - (B : Int)) = (A : Int) - (B : Int) := by unfold wrap64; omega
          have m2 : IntKind.i64.wrap ((A : Int) - (B : Int)) = (A : Int) - (B : Int) := by rw [IntKind.wrap_i64]; omega
          clear hA hB
          go_wp2_with fail
          refine (shows_own HP.out HT8.out.left HX.out).mono ?_
          rintro e W20 ⟨⟨p20, c20, rfl, hc20, hm20, hr20⟩, h20⟩
          have HT20 := Lib.hid (HT8.out.below h20)
          have HR20 := Lib.hid hr20
          clear h20 hr20 hc20 hm20
          go_wp2_with fail
          refine (plain16 p20 c20 _ W20 HR20.out (by have := (shows_short HX.out).few; omega)).mono ?_
          rintro e W21 ⟨⟨v21, rfl, hv21⟩, h21⟩
          have HT21 := Lib.hid (HT20.out.below h21)
          obtain ⟨p21, c21, rfl, _, _⟩ := hv21.shape
          have HR21 := Lib.hid hv21.rows
          clear h21 hv21
          go_wp2_with fail
          refine (shows_own HP.out HT21.out.swap.left HY.out).mono ?_
          rintro e W22 ⟨⟨p22, c22, rfl, hc22, hm22, hr22⟩, h22⟩
          have HT22 := Lib.hid (HT21.out.below h22)
          have HR22 := Lib.hid hr22
          have HR21b := Lib.hid (HR21.out.grown h22)
          clear h22 hr22 hc22 hm22
          go_wp2_with fail
          refine (plain16 p22 c22 _ W22 HR22.out (by have := (shows_short HY.out).few; omega)).mono ?_
          rintro e W23 ⟨⟨v23, rfl, hv23⟩, h23⟩
          have HT23 := Lib.hid (HT22.out.below h23)
          obtain ⟨p23, c23, rfl, _, _⟩ := hv23.shape
          have HR23 := Lib.hid hv23.rows
          have HR21c := Lib.hid (HR21b.out.grown h23)
          clear h23 hv23
          go_wp2_with fail
          have hq := refSame16 p21 p23 c21 c23 _ _ W23 HR21c.out HR23.out (by have := (shows_short HX.out).few; omega)
          rw [decide_eq_true (swept_v_shows HSW.out)] at hq
          refine hq.mono ?_
          clear hq
          rintro e W24 ⟨rfl, n24, hw⟩
          have HT24 := Lib.hid (show Two16 D w W24 _ _ _ _ by rw [hw]; exact HT23.out.below (below_drewN _ (Below.refl _ _)))
          clear hw
          go_wp2_with fail
          go_loopg [61] N2 (fun gh s61 wx => ∃ (j : Nat) (X2 Y2 : List RowV), j + gh = N2 ∧ s61 = .int .i64 (j : Int) ∧ Hid (Two16 D w wx a X2 b Y2) ∧ Hid (SweptV f X2 Y2) ∧ Hid (Short X2) ∧ Hid (Short Y2) ∧ Hid (X2.length ≤ 80 + j ∧ Y2.length ≤ 80 + j))
          case atStart => exact ⟨0, X, sweepV X f, by omega, by go_num, HT24, HSW, HX, HY, Lib.hid (by have := HXl.out; have := HKl.out; omega)⟩
          case round =>
            obtain ⟨j, X2, Y2, hj, rfl, HQ, HW2, HX2, HY2, HLn⟩ := hrel
            rename World => W30
            have HB30 := Lib.hid HQ.out.2
            by_cases hlt : j < N2
            · have q1 : decide ((j : Int) < (N2 : Int)) = true := decide_eq_true (by omega)
              have q1' : decide (j < N2) = true := decide_eq_true hlt
              have q0 : (j : Int) < (N2 : Int) := by omega
              obtain ⟨y, hy⟩ : ∃ y, l2[j]? = some y := ⟨_, List.getElem?_eq_getElem (by rw [← HN2.out]; exact hlt)⟩
              have HY1 := Lib.hid hy
              have HIn := Lib.hid (And.intro hj (And.intro hlt hn2))
              obtain ⟨b1, o1, hp, x0, x1, x2, x3, x4, x5, x6, x7, x8, x9⟩ := (HI2.out.grown HB30.out).look hy
              subst hp
              clear hj hlt hy
              by_cases hf : y.time ≤ f
              · have g1 : decide (y.time ≤ f) = true := decide_eq_true hf
                have g2 : decide (f < y.time) = false := decide_eq_false (by omega)
                clear hf
                go_wp2
                go_roundg (N2 - (j + 1))
                case measure => have := HIn.out; omega
                case rel => exact ⟨j + 1, X2, Y2, by have := HIn.out; omega, by go_num, Lib.hid (HQ.out.below ((Below.refl _ _).alloc (Nat.le_refl _) _)), HW2, HX2, HY2, Lib.hid (by have := HLn.out; omega)⟩
              · have g1 : decide (y.time ≤ f) = false := decide_eq_false hf
                have g2 : decide (f < y.time) = true := decide_eq_true (by omega)
                have HX3 := Lib.hid (short_apply HX2.out (by have := HLn.out; have := HIn.out; omega) y (HS2.out y (List.mem_of_getElem? HY1.out)))
                have HY3 := Lib.hid (short_apply HY2.out (by have := HLn.out; have := HIn.out; omega) y (HS2.out y (List.mem_of_getElem? HY1.out)))
                have HW3 := Lib.hid (swept_v_apply y HW2.out (show f < y.time by omega))
                clear hf
                go_wp2_with fail
                refine (apply_new HP.out HQ.out HX2.out (by have := HLn.out; have := HIn.out; omega) y y.cells 36 (writes_short (HI2.out.grown HB30.out) HS2.out HY1.out)).mono ?_
                rintro e W31 ⟨rfl, h6, hl6⟩
                have HQ1 := Lib.hid h6
                have HB31 := Lib.hid h6.2
                clear h6 x0 x1 x2 x3 x4 x5 x6 x7 x8 x9
                have x0 := hl6.cell (i := 0) rfl; have x1 := hl6.cell (i := 1) rfl; have x2 := hl6.cell (i := 2) rfl; have x3 := hl6.cell (i := 3) rfl; have x4 := hl6.cell (i := 4) rfl
                have x5 := hl6.cell (i := 5) rfl; have x6 := hl6.cell (i := 6) rfl; have x7 := hl6.cell (i := 7) rfl; have x8 := hl6.cell (i := 8) rfl; have x9 := hl6.cell (i := 9) rfl
                clear hl6
                go_wp2_with fail
                refine (apply_two HP.out HQ1.out.swap HY2.out (by have := HLn.out; have := HIn.out; omega) y (writes_short (HI2.out.grown HB31.out) HS2.out HY1.out)).mono ?_
                rintro e W32 ⟨rfl, h7⟩
                have HQ2 := Lib.hid h7.swap
                clear h7
                go_wp2_with fail
                refine (shows_own HP.out HQ2.out.left HX3.out).mono ?_
                rintro e V20 ⟨⟨p20, c20, rfl, hc20, hm20, hr20⟩, h20⟩
                have HU20 := Lib.hid (HQ2.out.below h20)
                have HR20 := Lib.hid hr20
                clear h20 hr20 hc20 hm20
                go_wp2_with fail
                refine (plain16 p20 c20 _ V20 HR20.out (by have := (shows_short HX3.out).few; omega)).mono ?_
                rintro e V21 ⟨⟨v21, rfl, hv21⟩, h21⟩
                have HU21 := Lib.hid (HU20.out.below h21)
                obtain ⟨p21, c21, rfl, _, _⟩ := hv21.shape
                have HR21 := Lib.hid hv21.rows
                clear h21 hv21
                go_wp2_with fail
                refine (shows_own HP.out HU21.out.swap.left HY3.out).mono ?_
                rintro e V22 ⟨⟨p22, c22, rfl, hc22, hm22, hr22⟩, h22⟩
                have HU22 := Lib.hid (HU21.out.below h22)
                have HR22 := Lib.hid hr22
                have HR21b := Lib.hid (HR21.out.grown h22)
                clear h22 hr22 hc22 hm22
                go_wp2_with fail
                refine (plain16 p22 c22 _ V22 HR22.out (by have := (shows_short HY3.out).few; omega)).mono ?_
                rintro e V23 ⟨⟨v23, rfl, hv23⟩, h23⟩
                have HU23 := Lib.hid (HU22.out.below h23)
                obtain ⟨p23, c23, rfl, _, _⟩ := hv23.shape
                have HR23 := Lib.hid hv23.rows
                have HR21c := Lib.hid (HR21b.out.grown h23)
                clear h23 hv23
                go_wp2_with fail
                have hq := refSame16 p21 p23 c21 c23 _ _ V23 HR21c.out HR23.out (by have := (shows_short HX3.out).few; omega)
                rw [decide_eq_true (swept_v_shows HW3.out)] at hq
                refine hq.mono ?_
                clear hq
                rintro e V24 ⟨rfl, n24, hw⟩
                have HU24 := Lib.hid (show Two16 D w V24 _ _ _ _ by rw [hw]; exact HU23.out.below (below_drewN _ (Below.refl _ _)))
                clear hw
                go_wp2
                go_roundg (N2 - (j + 1))
                case measure => have := HIn.out; omega
                case rel => exact ⟨j + 1, _, _, by have := HIn.out; omega, by go_num, HU24, HW3, HX3, HY3, Lib.hid (by have := HLn.out; have := apply_len X2 y; have := apply_len Y2 y; omega)⟩
            · have q1 : decide ((j : Int) < (N2 : Int)) = false := decide_eq_false (by omega)
              have q1' : decide (j < N2) = false := decide_eq_false hlt
              clear hj hlt
              go_wp2
              go_ret
              exact ⟨rfl, HB30.out⟩
end Go.Proofs.Ytgbhfhnbmgkaoaa
