/-
  StorePlays' contract: it answers true of any writes and texts, out of the program's contracts. The conditions: the writes lie in memory.
-/
import Derived.Test.YtgbhfhnbmgkaoaaStoreBackLaw
import Derived.Test.YtgbhfhnbmgkaoaaPart17
import Derived.Test.YtgbhfhnbmgkaoaaStoreAlike
import Derived.Deep.RegionHeld3
import Derived.BigQuiet
namespace Go.Proofs.Ytgbhfhnbmgkaoaa
open Go.RowKit TextNat RegMath

set_option maxRecDepth 100000 in
set_option maxHeartbeats 16000000 in
theorem plays_true (D : Sto) (hP : Store16 D) (hW : Sweep16 D) (p : Option Addr) (c : Nat) (l : List WriteV) (ses key : ByteArray) (w : World) (h : WritesIn w p l) (hl : l.length ≤ 9223372036854775807) :
    Calls Try.prog 3 #[.slice p l.length c, .string ses, .string key] w fun e w' => e = .returned (.bool true) ∧ Below w.heap.size w w' := by
  have HA := Lib.hid (awake16 D hP)
  have HSw := Lib.hid hW
  have HP := Lib.hid hP
  have HI := Lib.hid h
  have HG := Lib.hid (fun w1 (hw : Below w.heap.size w w1) => great16 p c l w1 (h.grown hw) hl)
  obtain ⟨N, hN⟩ : ∃ N, N = l.length := ⟨_, rfl⟩
  have HN := Lib.hid hN
  rw [← hN] at hl HG ⊢
  clear h hP hW hN
  cases hg : greatW l with
  | true =>
    rw [hg] at HG
    clear hg
    go_enter Try.func3, Try.ntmps3
    go_wp2_with fail
    refine (HA.out _).mono ?_
    rintro e w1 ⟨rfl, h1⟩
    have HB1 := Lib.hid h1
    clear h1
    go_wp2_with fail
    refine (HG.out w1 HB1.out).mono ?_
    rintro e w2 ⟨rfl, h2⟩
    have HB2 := Lib.hid (HB1.out.trans (h2.mono HB1.out.size))
    clear h2
    go_wp2
    go_ret
    exact ⟨rfl, HB2.out⟩
  | false =>
    rw [hg] at HG
    obtain ⟨hn, hsz⟩ := greatW_not hg
    rw [← HN.out] at hn
    have HS := Lib.hid hsz
    clear hg hsz
    go_enter Try.func3, Try.ntmps3
    go_wp2_with fail
    refine (HA.out _).mono ?_
    rintro e w1 ⟨rfl, h1⟩
    have HB1 := Lib.hid h1
    clear h1
    go_wp2_with fail
    refine (HG.out w1 HB1.out).mono ?_
    rintro e w2 ⟨rfl, h2⟩
    have HB2 := Lib.hid (HB1.out.trans (h2.mono HB1.out.size))
    clear h2
    by_cases hbig : 1000 < ses.size ∨ 1000 < key.size
    · by_cases hb1 : 1000 < ses.size
      · have t1 : decide ((1000 : Int) < (ses.size : Int)) = true := decide_eq_true (by omega)
        have t2 : decide (1000 < ses.size) = true := decide_eq_true hb1
        clear hbig hb1
        go_wp2
        go_ret
        exact ⟨rfl, HB2.out⟩
      · have t1 : decide ((1000 : Int) < (ses.size : Int)) = false := decide_eq_false (by omega)
        have t2 : decide (1000 < ses.size) = false := decide_eq_false hb1
        have t3 : decide ((1000 : Int) < (key.size : Int)) = true := decide_eq_true (by omega)
        have t4 : decide (1000 < key.size) = true := decide_eq_true (by omega)
        clear hbig hb1
        go_wp2
        go_ret
        exact ⟨rfl, HB2.out⟩
    · have HSk := Lib.hid (show ses.size ≤ 1000 ∧ key.size ≤ 1000 by omega)
      have t1 : decide ((1000 : Int) < (ses.size : Int)) = false := decide_eq_false (by omega)
      have t2 : decide (1000 < ses.size) = false := decide_eq_false (by omega)
      have t3 : decide ((1000 : Int) < (key.size : Int)) = false := decide_eq_false (by omega)
      have t4 : decide (1000 < key.size) = false := decide_eq_false (by omega)
      clear hbig
      go_wp2_with fail
      refine (new_own HP.out w2).mono ?_
      rintro e w4 ⟨s, rfl, h4⟩
      have H4 := Lib.hid (own_since h4 HB2.out)
      clear h4 t1 t2 t3 t4
      have HN4 := Lib.hid (pair_new H4.out)
      go_wp2_with fail
      obtain ⟨W4, hW4⟩ : ∃ W4, W4 = w4.alloc (.cells #[.slice none 0 0] 30) := ⟨_, rfl⟩
      obtain ⟨x, hx⟩ : ∃ x, x = w4.heap.size := ⟨_, rfl⟩
      rw [← hW4, ← hx] at HN4 ⊢
      clear hW4 hx
      go_loopg [30] N (fun gh s30 wx => ∃ (i : Nat) (X : List RowV), i + gh = N ∧ s30 = .int .i64 (i : Int) ∧ Hid (Short X ∧ X.length ≤ i) ∧ Hid (Pair16 D w wx s x X))
      case atStart => exact ⟨0, [], by omega, by go_num, Lib.hid ⟨ex_short0, Nat.le_refl _⟩, HN4⟩
      clear HN4 H4
      case round =>
        obtain ⟨i, X, hi, rfl, HX, HT⟩ := hrel
        rename World => W8
        have HB8 := Lib.hid HT.out.2
        by_cases hlt : i < N
        · have q1 : decide ((i : Int) < (N : Int)) = true := decide_eq_true (by omega)
          have q1' : decide (i < N) = true := decide_eq_true hlt
          have q0 : (i : Int) < (N : Int) := by omega
          obtain ⟨y, hy⟩ : ∃ y, l[i]? = some y := ⟨_, List.getElem?_eq_getElem (by rw [← HN.out]; exact hlt)⟩
          have HWs := Lib.hid (fun w1 (hw : Below w.heap.size w w1) => writes_short (HI.out.grown hw) HS.out hy)
          have HYt := Lib.hid (HS.out y (List.mem_of_getElem? hy))
          have HIn := Lib.hid (And.intro hi hlt)
          have HXl := Lib.hid (show X.length ≤ 80 by have := HX.out.2; omega)
          obtain ⟨b1, o1, hp, x0, x1, x2, x3, x4, x5, x6, x7, x8, x9⟩ := (HI.out.grown HB8.out).look hy
          subst hp
          obtain ⟨R, hR⟩ : ∃ R, R = (applyV X y).2 := ⟨_, rfl⟩
          obtain ⟨Z, hZ⟩ : ∃ Z, Z = (applyV X y).1 := ⟨_, rfl⟩
          have HZ := Lib.hid (show Short Z ∧ Z.length ≤ i + 1 from ⟨by rw [hZ]; exact short_apply HX.out.1 (by have := HXl.out; omega) y HYt.out, by rw [hZ]; have := apply_len X y; have := HX.out.2; omega⟩)
          have H17 := Lib.hid (half17_new HT.out y.cells 36)
          obtain ⟨W9, hW9⟩ : ∃ W9, W9 = W8.alloc (.cells #[.int .i64 y.region, .int .i64 y.number, .int .i64 y.time, .int .i64 y.sreg, .slice y.dp y.dl.length y.dc, .string y.session, .string y.key, .string y.value, .bool y.gone, .int .i64 y.life] 36) := ⟨_, rfl⟩
          obtain ⟨g, hg⟩ : ∃ g, g = W8.heap.size := ⟨_, rfl⟩
          replace H17 := Lib.hid (show Half17 D w W9 s x X X g y.cells 36 by rw [hW9, hg]; exact H17.out)
          have HC1 := Lib.hid (fun (w1 : World) (h : Half17 D w w1 s x X X g y.cells 36) => show Calls Try.prog 12 #[ptr16 s, y.val] w1 fun e w' => e = .returned (.bool R) ∧ Half17 D w w' s x X Z g y.cells 36 by
            rw [hR, hZ]
            exact half_apply_s HP.out h HX.out.1 (by have := HXl.out; omega) y (HWs.out w1 h.2.1))
          have HC2 := Lib.hid (fun (w1 : World) (h : Half17 D w w1 s x X Z g y.cells 36) => show Calls Try.prog 13 #[ptr16 x, y.val] w1 fun e w' => e = .returned (.bool R) ∧ Half17 D w w' s x Z Z g y.cells 36 by
            have h1 := half_apply_x h (by have := HXl.out; omega) y
            rw [← hR, ← hZ] at h1
            exact h1)
          clear hi hlt hy hR hZ
          go_wp2_with fail
          rw [← hW9, ← hg]
          clear hW9 hg x0 x1 x2 x3 x4 x5 x6 x7 x8 x9
          have hten := ten_of H17.out.lies
          have HD := Lib.hid H17.out.drew
          go_region_held3 (fun w' => Ten g y w') (first | exact ten_of h2c.lies | exact ten_of h1c.lies | exact hten) (first
            | (go_at_call 12
               refine (HC1.out _ (by first | exact H17.out | exact HD.out)).mono ?_
               rintro e wn ⟨rfl, h1c⟩)
            | (go_at_call 13
               refine (HC2.out _ (by first | exact h1c | exact h1c.drew)).mono ?_
               rintro e wn ⟨rfl, h2c⟩))
          have HT9 := Lib.hid h2c
          have hRR : (R != R) = false := by simp
          clear h1c h2c hten HD H17 HC1 HC2
          by_cases hz : y.number = 0
          · have z1 : (y.number == 0) = true := by rw [beq_iff_eq]; exact hz
            obtain ⟨M, hM⟩ : ∃ M, M = (Z.length : Int) - ((sweepV Z y.life).length : Int) := ⟨_, rfl⟩
            obtain ⟨Q, hQ⟩ : ∃ Q, Q = sweepV Z y.life := ⟨_, rfl⟩
            have HQ := Lib.hid (show Short Q ∧ Q.length ≤ i + 1 from ⟨by rw [hQ]; exact short_filter HZ.out.1 _, by rw [hQ]; have h1 : (sweepV Z y.life).length ≤ Z.length := List.length_filter_le _ _; have := HZ.out.2; omega⟩)
            have HC3 := Lib.hid (fun (w1 : World) (h : Half17 D w w1 s x Z Z g y.cells 36) => show Calls Try.prog 14 #[ptr16 s, .int .i64 y.life] w1 fun e w' => e = .returned (.int .i64 M) ∧ Half17 D w w' s x Z Q g y.cells 36 by
              rw [hM, hQ]
              exact half_sweep_s HSw.out h HZ.out.1 y.life)
            have HC4 := Lib.hid (fun (w1 : World) (h : Half17 D w w1 s x Z Q g y.cells 36) => show Calls Try.prog 15 #[ptr16 x, .int .i64 y.life] w1 fun e w' => e = .returned (.int .i64 M) ∧ Half17 D w w' s x Q Q g y.cells 36 by
              have h1 := half_sweep_x h (by have := HZ.out.2; have := HIn.out; omega) y.life
              rw [← hM, ← hQ] at h1
              exact h1)
            clear hz hM hQ
            go_wp2_with fail
            have hten := ten_of HT9.out.lies
            have HD := Lib.hid HT9.out.drew
            go_region_held3 (fun w' => Ten g y w') (first | exact ten_of h2c.lies | exact ten_of h1c.lies | exact hten) (first
              | (go_at_call 14
                 refine (HC3.out _ (by first | exact HT9.out | exact HD.out)).mono ?_
                 rintro e wn ⟨rfl, h1c⟩)
              | (go_at_call 15
                 refine (HC4.out _ (by first | exact h1c | exact h1c.drew)).mono ?_
                 rintro e wn ⟨rfl, h2c⟩))
            have HTe := Lib.hid h2c
            have hMM : (M != M) = false := by simp
            clear h1c h2c hten HD HT9 HC3 HC4
            obtain ⟨r0, r1, r2, r3, r4, r5, r6, r7, r8, r9⟩ := ten_of HTe.out.lies
            go_wp2_with fail
            refine (same16 D HP.out w _ s x Q y.session y.key HTe.out.pair HQ.out.1 HYt.out.1 HYt.out.2.1).mono ?_
            rintro e we ⟨rfl, he⟩
            have HE := Lib.hid he
            clear he r0 r1 r2 r3 r4 r5 r6 r7 r8 r9
            go_wp2
            go_roundg (N - (i + 1))
            case measure => have := HIn.out; omega
            case rel => exact ⟨i + 1, Q, by have := HIn.out; omega, by go_num, HQ, HE⟩
          · have z1 : (y.number == 0) = false := by rw [beq_eq_false_iff_ne]; exact hz
            obtain ⟨Q, hQ⟩ : ∃ Q, Q = Z := ⟨_, rfl⟩
            subst hQ
            have HQ := HZ
            obtain ⟨r0, r1, r2, r3, r4, r5, r6, r7, r8, r9⟩ := ten_of HT9.out.lies
            clear hz
            go_wp2_with fail
            go_quiet (fail)
            have HTe := Lib.hid (HT9.out.drewN nq)
            obtain ⟨We, hWe⟩ : ∃ We, We = wn.drewN nq := ⟨_, rfl⟩
            rw [← hWe] at HTe ⊢
            clear hWe r0 r1 r2 r3 r4 r5 r6 r7 r8 r9 HT9
            obtain ⟨r0, r1, r2, r3, r4, r5, r6, r7, r8, r9⟩ := ten_of HTe.out.lies
            go_wp2_with fail
            refine (same16 D HP.out w _ s x Q y.session y.key HTe.out.pair HQ.out.1 HYt.out.1 HYt.out.2.1).mono ?_
            rintro e we ⟨rfl, he⟩
            have HE := Lib.hid he
            clear he r0 r1 r2 r3 r4 r5 r6 r7 r8 r9
            go_wp2
            go_roundg (N - (i + 1))
            case measure => have := HIn.out; omega
            case rel => exact ⟨i + 1, Q, by have := HIn.out; omega, by go_num, HQ, HE⟩
        · have q1 : decide ((i : Int) < (N : Int)) = false := decide_eq_false (by omega)
          have q1' : decide (i < N) = false := decide_eq_false hlt
          clear hi hlt
          go_wp2_with fail
          refine (same16 D HP.out w _ s x X ses key HT.out HX.out.1 HSk.out.1 HSk.out.2).mono ?_
          rintro e we ⟨rfl, he⟩
          have HE := Lib.hid he.2
          clear he
          go_wp2
          go_ret
          exact ⟨rfl, HE.out⟩
end Go.Proofs.Ytgbhfhnbmgkaoaa
