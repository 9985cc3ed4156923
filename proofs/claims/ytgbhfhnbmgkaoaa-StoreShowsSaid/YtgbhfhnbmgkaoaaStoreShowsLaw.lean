/-
  StoreShows' contract: it answers true of any writes, out of the program's contracts. The conditions: the writes lie in memory.
-/
import Derived.Test.YtgbhfhnbmgkaoaaStoreSweepsLaw
import Derived.Test.YtgbhfhnbmgkaoaaStoreShowMath
import Derived.Deep.RegionHeld3
import Derived.Deep.Cut
namespace Go.Proofs.Ytgbhfhnbmgkaoaa
open Go.RowKit TextNat RegMath

theorem head_own {D : Sto} (hP : Store16 D) {w0 w : World} {b : Nat} {xs : List RowV} (h : OwnSto D w0 w b xs) (hs : Short xs) (s : ByteArray) (h1 : s.size ≤ 1000) :
    Calls Try.prog 21 #[ptr16 b, .string s] w fun e w' => e = .returned (headV xs s).val ∧ Below w.heap.size w w' := by
  obtain ⟨⟨S, h2, _⟩, _⟩ := h
  exact hP.head b S xs s w h2 hs h1
theorem keys_own {D : Sto} (hP : Store16 D) {w0 w : World} {b : Nat} {xs : List RowV} (h : OwnSto D w0 w b xs) (hs : Short xs) (s : ByteArray) (h1 : s.size ≤ 1000) :
    Calls Try.prog 24 #[ptr16 b, .string s] w fun e w' => (∃ p c, e = .returned (.slice p (keysV xs s).length c) ∧ (keysV xs s).length ≤ c ∧ c ≤ 9223372036854775807 ∧ TextsAt w' p (keysV xs s)) ∧ Below w.heap.size w w' := by
  obtain ⟨⟨S, h2, _⟩, _⟩ := h
  exact hP.keys b S xs s w h2 hs h1
theorem lives_own {D : Sto} (hP : Store16 D) {w0 w : World} {b : Nat} {xs : List RowV} (h : OwnSto D w0 w b xs) (hs : Short xs) :
    Calls Try.prog 23 #[ptr16 b] w fun e w' => (∃ p c, e = .returned (.slice p (livesV xs).length c) ∧ (livesV xs).length ≤ c ∧ c ≤ 9223372036854775807 ∧ TextsAt w' p (livesV xs)) ∧ Below w.heap.size w w' := by
  obtain ⟨⟨S, h2, _⟩, _⟩ := h
  exact hP.lives b S xs w h2 hs
theorem neq_cell16 (a : RegV) (w : World) : (binOp .neq 48 a.val a.val).run Try.prog w = .ok (.bool false) w := by
  obtain ⟨a1, a2, a3, a4, a5⟩ := a
  unfold RegV.val
  go_simp
theorem nil_of_size {s : ByteArray} (h : s.size = 0) : s = ⟨#[]⟩ := by
  rw [← txt_nats s, show nats s = [] from List.length_eq_zero_iff.1 (by rw [nats_len, h])]
  rfl
/-- A row's copy in a block, cell by cell. -/
abbrev Seven (g : Nat) (x : RowV) (w : World) : Prop := w.cell? ⟨g, 0, none⟩ = some (.string x.session) ∧ w.cell? ⟨g, 1, none⟩ = some (.string x.key) ∧ w.cell? ⟨g, 2, none⟩ = some (.int .i64 x.cell.time) ∧ w.cell? ⟨g, 3, none⟩ = some (.int .i64 x.cell.region) ∧ w.cell? ⟨g, 4, none⟩ = some (.string x.cell.value) ∧ w.cell? ⟨g, 5, none⟩ = some (.bool x.cell.gone) ∧ w.cell? ⟨g, 6, none⟩ = some (.int .i64 x.cell.life)
theorem seven_of {w : World} {g : Nat} {x : RowV} {T : TypeId} (h : Lies w g x.cells T) : Seven g x w := ⟨h.cell (i := 0) rfl, h.cell (i := 1) rfl, h.cell (i := 2) rfl, h.cell (i := 3) rfl, h.cell (i := 4) rfl, h.cell (i := 5) rfl, h.cell (i := 6) rfl⟩
theorem undrew16 {w w' : World} (h : Below w.drew.heap.size w.drew w') : Below w.heap.size w w' := ⟨h.os, h.tape, h.output, h.size, h.block⟩
set_option maxRecDepth 100000 in
set_option maxHeartbeats 8000000 in
theorem shows_true (D : Sto) (hP : Store16 D) (p : Option Addr) (c : Nat) (l : List WriteV) (w : World) (h : WritesIn w p l) (hl : l.length ≤ 9223372036854775807) :
    Calls Try.prog 6 #[.slice p l.length c] w fun e w' => e = .returned (.bool true) ∧ Below w.heap.size w w' := by
  have HA := Lib.hid (awake16 D hP)
  have HP := Lib.hid hP
  have HI := Lib.hid h
  have HG := Lib.hid (fun w1 (hw : Below w.heap.size w w1) => great16 p c l w1 (h.grown hw) hl)
  obtain ⟨N, hN⟩ : ∃ N, N = l.length := ⟨_, rfl⟩
  have HN := Lib.hid hN
  rw [← hN] at hl HG ⊢
  clear h hP hN
  cases hg : greatW l with
  | true =>
    rw [hg] at HG
    clear hg
    go_enter Try.func6, Try.ntmps6
    go_wp2_with fail
    refine (HA.out _).mono ?_
    rintro e w1 ⟨rfl, h1⟩
    have HB1 := Lib.hid h1
    clear h1
    go_wp2_with fail
    refine (HG.out w1 HB1.out).mono ?_
    rintro e w2 ⟨rfl, h2⟩
    have HB2 := Lib.hid (HB1.out.trans (h2.mono HB1.out.size))
    clear h2
    go_wp2
    go_ret
    exact ⟨rfl, HB2.out⟩
  | false =>
    rw [hg] at HG
    obtain ⟨hn, hsz⟩ := greatW_not hg
    rw [← HN.out] at hn
    have HS := Lib.hid hsz
    clear hg hsz
    go_enter Try.func6, Try.ntmps6
    go_wp2_with fail
    refine (HA.out _).mono ?_
    rintro e w1 ⟨rfl, h1⟩
    have HB1 := Lib.hid h1
    clear h1
    go_wp2_with fail
    refine (HG.out w1 HB1.out).mono ?_
    rintro e w2 ⟨rfl, h2⟩
    have HB2 := Lib.hid (HB1.out.trans (h2.mono HB1.out.size))
    clear h2
    go_wp2_with fail
    refine (new_own HP.out w2).mono ?_
    rintro e w4 ⟨a, rfl, h4⟩
    have H4 := Lib.hid (own_since h4 HB2.out)
    clear h4
    go_wp2_with fail
    go_loopg [20] N (fun gh s20 wx => ∃ i : Nat, i + gh = N ∧ s20 = .int .i64 (i : Int) ∧ Hid (OwnSto D w wx a (afterV [] (l.take i))))
    case atStart => exact ⟨0, by omega, by go_num, H4⟩
    case round =>
      obtain ⟨i, hi, rfl, HT⟩ := hrel
      rename World => W5
      have HB5 := Lib.hid HT.out.2
      by_cases hlt : i < N
      · have q1 : decide ((i : Int) < (N : Int)) = true := decide_eq_true (by omega)
        have q1' : decide (i < N) = true := decide_eq_true hlt
        have q0 : (i : Int) < (N : Int) := by omega
        obtain ⟨y, hy⟩ : ∃ y, l[i]? = some y := ⟨_, List.getElem?_eq_getElem (by rw [← HN.out]; exact hlt)⟩
        have HY := Lib.hid (after_one hy)
        have HS1 := Lib.hid (short_of HS.out (m := l.take i) (fun y hy => List.mem_of_mem_take hy) (by rw [List.length_take]; omega))
        have HIn := Lib.hid (And.intro hi hlt)
        have HL1 := Lib.hid (show (l.take i).length ≤ 80 by rw [List.length_take]; omega)
        have hal : Below W5.heap.size W5 (W5.alloc (.cells y.cells.toArray 36)) := (Below.refl _ _).alloc (Nat.le_refl _) _
        have HT5 := Lib.hid (HT.out.below hal)
        have HSh := Lib.hid (writes_short (HI.out.grown (HB5.out.trans (hal.mono HB5.out.size))) HS.out hy)
        obtain ⟨b1, o1, hp, x0, x1, x2, x3, x4, x5, x6, x7, x8, x9⟩ := (HI.out.grown HB5.out).look hy
        subst hp
        clear hi hlt hy hal
        go_wp2_with fail
        refine (apply_own HP.out HT5.out HS1.out.1 (by have := HS1.out.2; have := HL1.out; omega) y HSh.out).mono ?_
        rintro e W7 ⟨rfl, h7⟩
        have HT7 := Lib.hid h7
        clear h7
        go_wp2
        go_roundg (N - (i + 1))
        case measure => have := HIn.out; omega
        case rel => exact ⟨i + 1, by have := HIn.out; omega, by go_num, by rw [HY.out]; exact HT7⟩
      · have q1 : decide ((i : Int) < (N : Int)) = false := decide_eq_false (by omega)
        have q1' : decide (i < N) = false := decide_eq_false hlt
        have e1 : l.take i = l := List.take_of_length_le (by rw [← HN.out]; omega)
        rw [e1] at HT
        have HSa := Lib.hid (short_of HS.out (m := l) (fun y hy => hy) (by rw [← HN.out]; omega))
        clear hi hlt e1
        obtain ⟨X, hX⟩ : ∃ X, X = afterV [] l := ⟨_, rfl⟩
        rw [← hX] at HT HSa
        have HX := Lib.hid HSa.out.1
        have HXl := Lib.hid (show X.length ≤ 80 by have := HSa.out.2; rw [← HN.out] at this; omega)
        clear hX HSa
        go_wp2_with fail
        refine (shows_own HP.out HT.out HX.out).mono ?_
        rintro e W6 ⟨⟨p6, c6, rfl, hc6, hm6, hr6⟩, h6⟩
        have HT6 := Lib.hid (HT.out.below h6)
        have HR6 := Lib.hid hr6
        obtain ⟨K, hK⟩ : ∃ K, K = (showsV X).length := ⟨_, rfl⟩
        have HK := Lib.hid hK
        have hK80 : K ≤ 80 := by rw [hK]; have h1 := HXl.out; have h2 : (showsV X).length ≤ X.length := List.length_filter_le _ _; omega
        rw [← hK]
        clear h6 hr6 hc6 hm6 hK
        go_wp2_with fail
        go_loopg [31] K (fun gh s31 wx => ∃ i : Nat, i + gh = K ∧ s31 = .int .i64 (i : Int) ∧ Hid (Below W6.heap.size W6 wx))
        case atStart => exact ⟨0, by omega, by go_num, Lib.hid (Below.refl _ _)⟩
        case round =>
          obtain ⟨i, hi, rfl, HB⟩ := hrel
          rename World => W
          by_cases hlt : i < K
          · have q1 : decide ((i : Int) < (K : Int)) = true := decide_eq_true (by omega)
            have q1' : decide (i < K) = true := decide_eq_true hlt
            have q0 : (i : Int) < (K : Int) := by omega
            obtain ⟨x, hx⟩ : ∃ x, (showsV X)[i]? = some x := ⟨_, List.getElem?_eq_getElem (by rw [← HK.out]; exact hlt)⟩
            have hm := List.mem_of_getElem? hx
            have hmX := (List.mem_filter.1 hm).1
            have htx := HX.out.texts x hmX
            have hRW := HR6.out.grown HB.out
            obtain ⟨b1, o1, hp⟩ := hRW.addr (by rw [← HK.out]; omega)
            subst hp
            obtain ⟨x0, x1, x2, x3, x4, x5, x6⟩ := hRW.look hx
            have HIn := Lib.hid (And.intro hi hlt)
            obtain ⟨W9, hW9⟩ : ∃ W9, W9 = W.alloc (.cells #[.string x.session, .string x.key, .int .i64 x.cell.time, .int .i64 x.cell.region, .string x.cell.value, .bool x.cell.gone, .int .i64 x.cell.life] 50) := ⟨_, rfl⟩
            obtain ⟨g, hg⟩ : ∃ g, g = W.heap.size := ⟨_, rfl⟩
            have hb9 : Below W.heap.size W W9 := by rw [hW9]; exact (Below.refl _ _).alloc (Nat.le_refl _) _
            have HL9 := Lib.hid (show Lies W9 g x.cells 50 by rw [hW9, hg]; exact Lies.new W x.cells _)
            have HB9 := Lib.hid (HB.out.trans (hb9.mono HB.out.size))
            by_cases hk : x.key = ⟨#[]⟩
            · have hh := shows_head_v HX.out.rises hm (by rw [hk]; rfl)
              have HH := Lib.hid (fun w1 (hw : Below W6.heap.size W6 w1) => show Calls Try.prog 21 #[ptr16 a, .string x.session] w1 fun e w' => e = .returned (.agg #[.int .i64 x.cell.time, .int .i64 x.cell.region, .string x.cell.value, .bool x.cell.gone, .int .i64 x.cell.life]) ∧ Below w1.heap.size w1 w' by
                have h1 := head_own HP.out (HT6.out.below hw) HX.out x.session htx.1
                rw [hh] at h1
                exact h1)
              have e0 := none_list hk
              have hq := fun w => neq_cell16 x.cell w
              simp only [RegV.val] at hq
              clear hm hmX htx hRW hi hlt hx hh hb9 hk
              go_upto_region 14 with fail
              rw [← hW9, ← hg]
              clear hW9 hg x0 x1 x2 x3 x4 x5 x6
              have hs7 := seven_of HL9.out
              obtain ⟨r0, r1, r2, r3, r4, r5, r6⟩ := hs7
              go_wp2_with fail
              have hs7 := seven_of HL9.out
              clear r0 r1 r2 r3 r4 r5 r6
              go_region_held3 (fun w' => Seven g x w') (first | exact seven_of (HL9.out.below hb) | exact seven_of (HL9.out.below (undrew16 hb)) | exact hs7) (first
                | (go_at_call 21
                   refine (HH.out _ (by first | exact HB9.out | exact HB9.out.drew)).mono ?_
                   rintro e wn ⟨rfl, hb⟩))
              have HBn := Lib.hid (show Below W6.heap.size W6 wn from by first | exact HB9.out.trans (hb.mono HB9.out.size) | exact HB9.out.trans ((undrew16 hb).mono HB9.out.size))
              clear hb hs7 hq
              go_wp2
              go_roundg (K - (i + 1))
              case measure => have := HIn.out; omega
              case rel => exact ⟨i + 1, by have := HIn.out; omega, by go_num, HBn⟩
            · have hgot := shows_got_v HX.out.rises hm (fun e => hk (nil_of_size e))
              have HGt := Lib.hid (fun w1 (hw : Below W6.heap.size W6 w1) => show Calls Try.prog 22 #[ptr16 a, .string x.session, .string x.key] w1 fun e w' => e = .returned (.tuple #[.string x.cell.value, .nilIface]) ∧ Below w1.heap.size w1 w' by
                obtain ⟨⟨S, h3, _⟩, _⟩ := HT6.out.below hw
                have h1 := HP.out.get a S X x.session x.key w1 h3 HX.out htx.1 htx.2.1
                rw [hgot] at h1
                exact h1)
              have e0 := some_list hk
              clear hm hmX htx hRW hi hlt hx hgot hk
              go_upto_region 14 with fail
              rw [← hW9, ← hg]
              clear hW9 hg x0 x1 x2 x3 x4 x5 x6
              obtain ⟨r0, r1, r2, r3, r4, r5, r6⟩ := seven_of HL9.out
              go_wp2_with fail
              refine (HGt.out _ HB9.out).mono ?_
              rintro e wn ⟨rfl, hb⟩
              have HBn := Lib.hid (HB9.out.trans (hb.mono HB9.out.size))
              have HLn := Lib.hid (HL9.out.below hb)
              clear hb r0 r1 r2 r3 r4 r5 r6 hb9
              obtain ⟨r0, r1, r2, r3, r4, r5, r6⟩ := seven_of HLn.out
              go_wp2
              go_roundg (K - (i + 1))
              case measure => have := HIn.out; omega
              case rel => exact ⟨i + 1, by have := HIn.out; omega, by go_num, HBn⟩
          · have q1 : decide ((i : Int) < (K : Int)) = false := decide_eq_false (by omega)
            have q1' : decide (i < K) = false := decide_eq_false hlt
            have HT7 := Lib.hid (HT6.out.below HB.out)
            clear hi hlt HB HR6
            go_wp2_with fail
            refine (lives_own HP.out HT7.out HX.out).mono ?_
            rintro e W7 ⟨⟨p7, c7, rfl, hc7, hm7, hr7⟩, h7⟩
            have HT8 := Lib.hid (HT7.out.below h7)
            have HR7 := Lib.hid hr7
            obtain ⟨M, hM⟩ : ∃ M, M = (livesV X).length := ⟨_, rfl⟩
            have HM := Lib.hid hM
            have hM80 : M ≤ 80 := by rw [hM]; have h1 := HXl.out; unfold livesV; rw [List.length_map]; have h2 := List.length_filter_le liveV X; omega
            rw [← hM]
            clear h7 hr7 hc7 hm7 hM
            go_wp2_with fail
            go_loopg [67, 10] M (fun gh s67 s10 wx => ∃ j n : Nat, j + gh = M ∧ s67 = .int .i64 (j : Int) ∧ s10 = .int .i64 (n : Int) ∧ Hid (n = countV X j) ∧ Hid (Below W7.heap.size W7 wx))
            case atStart => exact ⟨0, 0, by omega, by go_num, by go_num, Lib.hid rfl, Lib.hid (Below.refl _ _)⟩
            case round =>
              obtain ⟨j, n, hj, rfl, rfl, HC, HB⟩ := hrel
              rename World => W
              by_cases hlt : j < M
              · have q1 : decide ((j : Int) < (M : Int)) = true := decide_eq_true (by omega)
                have q1' : decide (j < M) = true := decide_eq_true hlt
                have q0 : (j : Int) < (M : Int) := by omega
                obtain ⟨s, hs⟩ : ∃ s, (livesV X)[j]? = some s := ⟨_, List.getElem?_eq_getElem (by rw [← HM.out]; exact hlt)⟩
                have HCn := Lib.hid (count_next hs)
                obtain ⟨b1, o1, hp, x0⟩ := (HR7.out.grown HB.out) j s hs
                subst hp
                have hss : s.size ≤ 1000 := by
                  obtain ⟨r, hr, he⟩ := List.mem_map.1 (List.mem_of_getElem? hs)
                  rw [← he]
                  exact (HX.out.texts r (List.mem_filter.1 hr).1).1
                have HKs := Lib.hid (keys_own HP.out (HT8.out.below HB.out) HX.out s hss)
                obtain ⟨k, hk⟩ : ∃ k, k = (keysV X s).length := ⟨_, rfl⟩
                have hkl : k ≤ 80 := by rw [hk]; have h1 := HXl.out; unfold keysV; rw [List.length_map]; have h2 := List.length_filter_le (keyV s) X; omega
                have hnl : n ≤ 80 * 81 := by
                  rw [HC.out]
                  refine Nat.le_trans (count_le X j) (Nat.mul_le_mul (by omega) ?_)
                  have h1 := HXl.out
                  omega
                rw [← hk] at HCn HKs
                have HIn := Lib.hid (And.intro hj hlt)
                obtain ⟨m, hm⟩ : ∃ m, m = n + (1 + k) := ⟨_, rfl⟩
                have k1 : IntKind.i64.wrap (1 + (k : Int)) = 1 + (k : Int) := by rw [IntKind.wrap_i64]; omega
                have k2 : IntKind.i64.wrap ((n : Int) + (1 + (k : Int))) = (m : Int) := by rw [IntKind.wrap_i64]; omega
                have k3 : (n : Int) + (1 + (k : Int)) = (m : Int) := by omega
                have k4 : IntKind.i64.wrap (m : Int) = (m : Int) := by rw [IntKind.wrap_i64]; omega
                have HMn := Lib.hid (show m = countV X (j + 1) by rw [HCn.out, ← HC.out]; exact hm)
                clear hs hk hkl hnl hm hj hlt hss HC HCn
                go_wp2_with fail
                refine HKs.out.mono ?_
                rintro e wn ⟨⟨p8, c8, rfl, _, _, _⟩, hb⟩
                have HBn := Lib.hid (HB.out.trans (hb.mono HB.out.size))
                clear hb
                go_wp2
                go_roundg (M - (j + 1))
                case measure => have := HIn.out; omega
                case rel => exact ⟨j + 1, m, by have := HIn.out; omega, by go_num, rfl, HMn, HBn⟩
              · have q1 : decide ((j : Int) < (M : Int)) = false := decide_eq_false (by omega)
                have q1' : decide (j < M) = false := decide_eq_false hlt
                have HT9 := Lib.hid (HT8.out.below HB.out)
                have HE := Lib.hid (show n = K by
                  rw [HC.out, HK.out, show j = (livesV X).length by rw [← HM.out]; omega]
                  exact count_all HX.out.rises)
                clear hj hlt HC HB HR7
                go_wp2_with fail
                refine (shows_own HP.out HT9.out HX.out).mono ?_
                rintro e W10 ⟨⟨p10, c10, rfl, _, _, _⟩, h10⟩
                have HT10 := Lib.hid (HT9.out.below h10)
                clear h10
                rw [← HK.out, HE.out]
                have t1 : ((K : Int) == (K : Int)) = true := by simp
                go_wp2
                go_ret
                exact ⟨rfl, HT10.out.2⟩
end Go.Proofs.Ytgbhfhnbmgkaoaa
