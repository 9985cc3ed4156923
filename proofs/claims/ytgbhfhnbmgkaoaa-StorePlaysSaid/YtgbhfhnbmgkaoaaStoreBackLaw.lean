/-
  StoreBack's contract: it answers true of any writes, out of the program's contracts. The conditions: the writes lie in memory.
-/
import Derived.Test.YtgbhfhnbmgkaoaaStoreSweepsLaw
import Derived.Test.YtgbhfhnbmgkaoaaStoreTwo17
import Derived.Deep.RegionHeld3
namespace Go.Proofs.Ytgbhfhnbmgkaoaa
open Go.RowKit TextNat RegMath

theorem rises_wrong {xs : List RowV} (h : StoreMath.Rising (xs.map RowV.r)) : wrongV xs = none := by
  unfold wrongV
  rw [List.find?_range_eq_none]
  intro i hi
  unfold risesAt
  unfold StoreMath.Rising at h
  rw [List.pairwise_map] at h
  rw [List.getElem?_eq_getElem hi]
  by_cases h2 : i + 1 < xs.length
  · rw [List.getElem?_eq_getElem h2]
    have := List.pairwise_iff_getElem.1 h i (i + 1) hi h2 (by omega)
    simpa using this
  · rw [List.getElem?_eq_none (by omega)]
    rfl
/-- Apply of one's own store behind a new block. -/
theorem of_two {D : Sto} (hO : Of16 D) {w0 w : World} {a : Nat} {xs : List RowV} (h : OwnSto D w0 w a xs) (hs : Short xs) (p : Option Addr) (c : Nat) (hr : RowsIn w p xs) (hc : xs.length ≤ c) (hm : c ≤ 9223372036854775807) :
    Calls Try.prog 26 #[.slice p xs.length c] w fun e w' => ∃ b, e = .returned (.tuple #[ptr16 b, .nilIface]) ∧ Two16 D w0 w' a xs b xs := by
  have hq := hO p c xs w hr hc hm hs.few hs.texts
  rw [rises_wrong hs.rises] at hq
  refine hq.mono ?_
  rintro e w' ⟨⟨b, T, rfl, h1, h2⟩, h3⟩
  obtain ⟨⟨S, k1, k2⟩, k3⟩ := h
  exact ⟨b, rfl, ⟨S, T, D.stays k1 h3.size fun k hk => h3.block k (D.lt k1 k hk), h1, fun k hk => ⟨k2 k hk, fun t => by have := D.lt k1 k hk; have := h2 k t; omega⟩, fun k hk => Nat.le_trans k3.size (h2 k hk)⟩, k3.trans (h3.mono k3.size)⟩
theorem after_on (X : List RowV) {l : List WriteV} {i : Nat} {y : WriteV} (h : l[i]? = some y) : afterV X (l.take (i + 1)) = (applyV (afterV X (l.take i)) y).1 := by
  rw [List.take_add_one, h]
  unfold afterV
  rw [List.foldl_append]
  rfl
/-- A write's copy in a block, cell by cell. -/
abbrev Ten (g : Nat) (y : WriteV) (w : World) : Prop := w.cell? ⟨g, 0, none⟩ = some (.int .i64 y.region) ∧ w.cell? ⟨g, 1, none⟩ = some (.int .i64 y.number) ∧ w.cell? ⟨g, 2, none⟩ = some (.int .i64 y.time) ∧ w.cell? ⟨g, 3, none⟩ = some (.int .i64 y.sreg) ∧ w.cell? ⟨g, 4, none⟩ = some (.slice y.dp y.dl.length y.dc) ∧ w.cell? ⟨g, 5, none⟩ = some (.string y.session) ∧ w.cell? ⟨g, 6, none⟩ = some (.string y.key) ∧ w.cell? ⟨g, 7, none⟩ = some (.string y.value) ∧ w.cell? ⟨g, 8, none⟩ = some (.bool y.gone) ∧ w.cell? ⟨g, 9, none⟩ = some (.int .i64 y.life)
theorem ten_of {w : World} {g : Nat} {y : WriteV} {T : TypeId} (h : Lies w g y.cells T) : Ten g y w := ⟨h.cell (i := 0) rfl, h.cell (i := 1) rfl, h.cell (i := 2) rfl, h.cell (i := 3) rfl, h.cell (i := 4) rfl, h.cell (i := 5) rfl, h.cell (i := 6) rfl, h.cell (i := 7) rfl, h.cell (i := 8) rfl, h.cell (i := 9) rfl⟩
set_option maxRecDepth 100000 in
set_option maxHeartbeats 8000000 in
theorem back_true (D : Sto) (hP : Store16 D) (hO : Of16 D) (p p2 : Option Addr) (c c2 : Nat) (l l2 : List WriteV) (w : World) (h : WritesIn w p l) (hl : l.length ≤ 9223372036854775807) (h' : WritesIn w p2 l2) (hl' : l2.length ≤ 9223372036854775807) :
    Calls Try.prog 8 #[.slice p l.length c, .slice p2 l2.length c2] w fun e w' => e = .returned (.bool true) ∧ Below w.heap.size w w' := by
  have HA := Lib.hid (awake16 D hP)
  have HP := Lib.hid hP
  have HO := Lib.hid hO
  have HI := Lib.hid h
  have HI2 := Lib.hid h'
  have HG := Lib.hid (fun w1 (hw : Below w.heap.size w w1) => great16 p c l w1 (h.grown hw) hl)
  have HG2 := Lib.hid (fun w1 (hw : Below w.heap.size w w1) => great16 p2 c2 l2 w1 (h'.grown hw) hl')
  obtain ⟨N, hN⟩ : ∃ N, N = l.length := ⟨_, rfl⟩
  obtain ⟨N2, hN2⟩ : ∃ N2, N2 = l2.length := ⟨_, rfl⟩
  have HN := Lib.hid hN
  have HN2 := Lib.hid hN2
  rw [← hN] at hl HG ⊢
  rw [← hN2] at hl' HG2 ⊢
  clear h h' hP hO hN hN2
  cases hg : greatW l with
  | true =>
    rw [hg] at HG
    clear hg
    go_enter Try.func8, Try.ntmps8
    go_wp2_with fail
    refine (HA.out _).mono ?_
    rintro e w1 ⟨rfl, h1⟩
    have HB1 := Lib.hid h1
    clear h1
    go_wp2_with fail
    refine (HG.out w1 HB1.out).mono ?_
    rintro e w2 ⟨rfl, h2⟩
    have HB2 := Lib.hid (HB1.out.trans (h2.mono HB1.out.size))
    clear h2
    go_wp2
    go_ret
    exact ⟨rfl, HB2.out⟩
  | false =>
    rw [hg] at HG
    obtain ⟨hn, hsz⟩ := greatW_not hg
    rw [← HN.out] at hn
    have HS := Lib.hid hsz
    clear hg hsz
    go_enter Try.func8, Try.ntmps8
    go_wp2_with fail
    refine (HA.out _).mono ?_
    rintro e w1 ⟨rfl, h1⟩
    have HB1 := Lib.hid h1
    clear h1
    go_wp2_with fail
    refine (HG.out w1 HB1.out).mono ?_
    rintro e w2 ⟨rfl, h2⟩
    have HB2 := Lib.hid (HB1.out.trans (h2.mono HB1.out.size))
    clear h2
    go_wp2_with fail
    refine (HG2.out w2 HB2.out).mono ?_
    rintro e w3 ⟨rfl, h3⟩
    have HB3 := Lib.hid (HB2.out.trans (h3.mono HB2.out.size))
    clear h3
    cases hg2 : greatW l2 with
    | true =>
      clear hg2
      go_wp2
      go_ret
      exact ⟨rfl, HB3.out⟩
    | false =>
      obtain ⟨hn2, hsz2⟩ := greatW_not hg2
      rw [← HN2.out] at hn2
      have HS2 := Lib.hid hsz2
      clear hg2 hsz2
      go_wp2_with fail
      refine (new_own HP.out w3).mono ?_
      rintro e w4 ⟨a, rfl, h4⟩
      have H4 := Lib.hid (own_since h4 HB3.out)
      clear h4
      go_wp2_with fail
      go_loopg [23] N (fun gh s23 wx => ∃ i : Nat, i + gh = N ∧ s23 = .int .i64 (i : Int) ∧ Hid (OwnSto D w wx a (afterV [] (l.take i))))
      case atStart => exact ⟨0, by omega, by go_num, H4⟩
      case round =>
        obtain ⟨i, hi, rfl, HT⟩ := hrel
        rename World => W5
        have HB5 := Lib.hid HT.out.2
        by_cases hlt : i < N
        · have q1 : decide ((i : Int) < (N : Int)) = true := decide_eq_true (by omega)
          have q1' : decide (i < N) = true := decide_eq_true hlt
          have q0 : (i : Int) < (N : Int) := by omega
          obtain ⟨y, hy⟩ : ∃ y, l[i]? = some y := ⟨_, List.getElem?_eq_getElem (by rw [← HN.out]; exact hlt)⟩
          have HY := Lib.hid (after_one hy)
          have HY1 := Lib.hid hy
          have HS1 := Lib.hid (short_of HS.out (m := l.take i) (fun y hy => List.mem_of_mem_take hy) (by rw [List.length_take]; omega))
          have HIn := Lib.hid (And.intro hi hlt)
          have HL1 := Lib.hid (show (l.take i).length ≤ 80 by rw [List.length_take]; omega)
          have hal : Below W5.heap.size W5 (W5.alloc (.cells y.cells.toArray 36)) := (Below.refl _ _).alloc (Nat.le_refl _) _
          have HT5 := Lib.hid (HT.out.below hal)
          have HSh := Lib.hid (writes_short (HI.out.grown (HB5.out.trans (hal.mono HB5.out.size))) HS.out hy)
          obtain ⟨b1, o1, hp, x0, x1, x2, x3, x4, x5, x6, x7, x8, x9⟩ := (HI.out.grown HB5.out).look hy
          subst hp
          clear hi hlt hy hal
          go_wp2_with fail
          refine (apply_own HP.out HT5.out HS1.out.1 (by have := HS1.out.2; have := HL1.out; omega) y HSh.out).mono ?_
          rintro e W7 ⟨rfl, h7⟩
          have HT7 := Lib.hid h7
          clear h7
          go_wp2
          go_roundg (N - (i + 1))
          case measure => have := HIn.out; omega
          case rel => exact ⟨i + 1, by have := HIn.out; omega, by go_num, by rw [HY.out]; exact HT7⟩
        · have q1 : decide ((i : Int) < (N : Int)) = false := decide_eq_false (by omega)
          have q1' : decide (i < N) = false := decide_eq_false hlt
          have e1 : l.take i = l := List.take_of_length_le (by rw [← HN.out]; omega)
          rw [e1] at HT
          have HSa := Lib.hid (short_of HS.out (m := l) (fun y hy => hy) (by rw [← HN.out]; omega))
          clear hi hlt e1
          obtain ⟨X, hX⟩ : ∃ X, X = afterV [] l := ⟨_, rfl⟩
          rw [← hX] at HT HSa
          have HX := Lib.hid HSa.out.1
          have HXl := Lib.hid (show X.length ≤ 80 by have := HSa.out.2; rw [← HN.out] at this; omega)
          clear hX HSa
          go_wp2_with fail
          refine (rows_own HP.out HT.out HX.out).mono ?_
          rintro e W6 ⟨⟨p6, c6, rfl, hc6, hm6, hr6⟩, h6⟩
          have HT6 := Lib.hid (HT.out.below h6)
          have HOf := Lib.hid (of_two HO.out HT6.out HX.out p6 c6 hr6 hc6 hm6)
          clear h6 hr6 hc6 hm6
          go_wp2_with fail
          refine HOf.out.mono ?_
          rintro e W7 ⟨b, rfl, h7⟩
          have HT7 := Lib.hid h7
          clear h7
          go_wp2_with fail
          go_loopg [41] N2 (fun gh s41 wx => ∃ j : Nat, j + gh = N2 ∧ s41 = .int .i64 (j : Int) ∧ Hid (Two16 D w wx a (afterV X (l2.take j)) b (afterV X (l2.take j))))
          case atStart => exact ⟨0, by omega, by go_num, HT7⟩
          clear HT7 HT6 HOf HT
          case round =>
            obtain ⟨j, hj, rfl, HT2⟩ := hrel
            rename World => W8
            have HB8 := Lib.hid HT2.out.2
            by_cases hlt : j < N2
            · have q1 : decide ((j : Int) < (N2 : Int)) = true := decide_eq_true (by omega)
              have q1' : decide (j < N2) = true := decide_eq_true hlt
              have q2 : (j : Int) < (N2 : Int) := by omega
              obtain ⟨y, hy⟩ : ∃ y, l2[j]? = some y := ⟨_, List.getElem?_eq_getElem (by rw [← HN2.out]; exact hlt)⟩
              have HY := Lib.hid (after_on X hy)
              have HSj := Lib.hid (short_after (ys := l2.take j) (fun y hy => HS2.out y (List.mem_of_mem_take hy)) HX.out (by have := HXl.out; rw [List.length_take]; omega))
              have HIn := Lib.hid (And.intro hj hlt)
              have HLj := Lib.hid (show (afterV X (l2.take j)).length ≤ 160 by have h1 := HSj.out.2; have := HXl.out; rw [List.length_take] at h1; omega)
              have HWs := Lib.hid (fun w1 (hw : Below w.heap.size w w1) => writes_short (HI2.out.grown hw) HS2.out hy)
              obtain ⟨b1, o1, hp, x0, x1, x2, x3, x4, x5, x6, x7, x8, x9⟩ := (HI2.out.grown HB8.out).look hy
              subst hp
              obtain ⟨Z, hZ⟩ : ∃ Z, Z = afterV X (l2.take j) := ⟨_, rfl⟩
              rw [← hZ] at HT2 HSj HLj HY
              obtain ⟨R, hR⟩ : ∃ R, R = (applyV Z y).2 := ⟨_, rfl⟩
              obtain ⟨Z2, hZ2⟩ : ∃ Z2, Z2 = (applyV Z y).1 := ⟨_, rfl⟩
              rw [← hZ2] at HY
              have H17 := Lib.hid (two17_new HT2.out y.cells 36)
              have HC1 := Lib.hid (fun (u : Nat) (w1 : World) (h : u = a ∧ Two17 D w w1 a Z b Z W8.heap.size y.cells 36) => show Calls Try.prog 12 #[ptr16 u, y.val] w1 fun e w' => e = .returned (.bool R) ∧ Two17 D w w' a Z2 b Z W8.heap.size y.cells 36 by
                rw [h.1, hR, hZ2]
                exact apply_17 HP.out h.2 HSj.out.1 (by have := HLj.out; omega) y (HWs.out w1 h.2.2.1))
              have HC2 := Lib.hid (fun (u : Nat) (w1 : World) (h : u = b ∧ Two17 D w w1 a Z2 b Z W8.heap.size y.cells 36) => show Calls Try.prog 12 #[ptr16 u, y.val] w1 fun e w' => e = .returned (.bool R) ∧ Two17 D w w' a Z2 b Z2 W8.heap.size y.cells 36 by
                rw [h.1, hR]
                refine (apply_17 HP.out h.2.swap HSj.out.1 (by have := HLj.out; omega) y (HWs.out w1 h.2.2.1)).mono ?_
                rintro e w' ⟨rfl, h9⟩
                rw [← hZ2] at h9
                exact ⟨rfl, h9.swap⟩)
              clear hj hlt hy hZ hR hZ2
              go_wp2_with fail
              obtain ⟨W9, hW9⟩ : ∃ W9, W9 = W8.alloc (.cells #[.int .i64 y.region, .int .i64 y.number, .int .i64 y.time, .int .i64 y.sreg, .slice y.dp y.dl.length y.dc, .string y.session, .string y.key, .string y.value, .bool y.gone, .int .i64 y.life] 36) := ⟨_, rfl⟩
              obtain ⟨g, hg⟩ : ∃ g, g = W8.heap.size := ⟨_, rfl⟩
              replace H17 := Lib.hid (show Two17 D w W9 a Z b Z g y.cells 36 by rw [hW9, hg]; exact H17.out)
              rw [← hg] at HC1 HC2
              rw [← hW9, ← hg]
              have h17 := H17.out
              have hten := ten_of h17.lies
              have HD := Lib.hid h17.drew
              clear hW9 hg x0 x1 x2 x3 x4 x5 x6 x7 x8 x9 h17
              go_region_held3 (fun w' => Ten g y w') (first | exact ten_of h2c.lies | exact ten_of h1c.lies | exact hten) (first
                | (go_at_call 12
                   refine (HC1.out _ _ (by first | exact ⟨rfl, H17.out⟩ | exact ⟨rfl, HD.out⟩)).mono ?_
                   rintro e wn ⟨rfl, h1c⟩)
                | (go_at_call 12
                   refine (HC2.out _ _ (by first | exact ⟨rfl, h1c⟩ | exact ⟨rfl, h1c.drew⟩)).mono ?_
                   rintro e wn ⟨rfl, h2c⟩))
              have HT9 := Lib.hid h2c.two
              have hRR : (R != R) = false := by simp
              clear h1c h2c hten
              go_wp2
              go_roundg (N2 - (j + 1))
              case measure => have := HIn.out; omega
              case rel => exact ⟨j + 1, by have := HIn.out; omega, by go_num, by rw [HY.out]; exact HT9⟩
            · have q1 : decide ((j : Int) < (N2 : Int)) = false := decide_eq_false (by omega)
              have q1' : decide (j < N2) = false := decide_eq_false hlt
              have e2 : l2.take j = l2 := List.take_of_length_le (by rw [← HN2.out]; omega)
              rw [e2] at HT2
              have HSj := Lib.hid (short_after (ys := l2) HS2.out HX.out (by have := HXl.out; rw [← HN2.out]; omega))
              clear hj hlt e2
              obtain ⟨Z, hZ⟩ : ∃ Z, Z = afterV X l2 := ⟨_, rfl⟩
              rw [← hZ] at HT2 HSj
              clear hZ
              go_wp2_with fail
              refine (rows_own HP.out HT2.out.left HSj.out.1).mono ?_
              rintro e W9 ⟨⟨p9, c9, rfl, hc9, hm9, hr9⟩, h9⟩
              have HT9 := Lib.hid (HT2.out.below h9)
              have HR9 := Lib.hid hr9
              clear h9 hr9 hc9 hm9
              go_wp2_with fail
              refine (plain16 p9 c9 _ W9 HR9.out (by have := HSj.out.1.few; omega)).mono ?_
              rintro e W10 ⟨⟨v10, rfl, hv10⟩, h10⟩
              have HT10 := Lib.hid (HT9.out.below h10)
              obtain ⟨p10, c10, rfl, _, _⟩ := hv10.shape
              have HR10 := Lib.hid hv10.rows
              clear h10 hv10
              go_wp2_with fail
              refine (rows_own HP.out HT10.out.swap.left HSj.out.1).mono ?_
              rintro e W11 ⟨⟨p11, c11, rfl, hc11, hm11, hr11⟩, h11⟩
              have HT11 := Lib.hid (HT10.out.below h11)
              have HR11 := Lib.hid hr11
              have HR10b := Lib.hid (HR10.out.grown h11)
              clear h11 hr11 hc11 hm11
              go_wp2_with fail
              refine (plain16 p11 c11 _ W11 HR11.out (by have := HSj.out.1.few; omega)).mono ?_
              rintro e W12 ⟨⟨v12, rfl, hv12⟩, h12⟩
              have HT12 := Lib.hid (HT11.out.below h12)
              obtain ⟨p12, c12, rfl, _, _⟩ := hv12.shape
              have HR12 := Lib.hid hv12.rows
              have HR10c := Lib.hid (HR10b.out.grown h12)
              clear h12 hv12
              go_wp2_with fail
              have hq := refSame16 p10 p12 c10 c12 Z Z W12 HR10c.out HR12.out (by have := HSj.out.1.few; omega)
              rw [decide_eq_true rfl] at hq
              refine hq.mono ?_
              clear hq
              rintro e W13 ⟨rfl, n13, hw⟩
              rw [hw]
              clear hw
              go_wp2
              go_ret
              exact ⟨rfl, below_drewN _ HT12.out.2⟩
end Go.Proofs.Ytgbhfhnbmgkaoaa
