/-
  StoreSame's contract: it answers true of any writes and turn, out of the program's contracts. The conditions: the writes lie in memory.
-/
import Derived.Test.YtgbhfhnbmgkaoaaPart16
namespace Go.Proofs.Ytgbhfhnbmgkaoaa
open Go.RowKit TextNat RegMath

theorem own_since {D : Sto} {w0 w w' : World} {b : Nat} {xs : List RowV} (h : OwnSto D w w' b xs) (hb : Below w0.heap.size w0 w) : OwnSto D w0 w' b xs := by
  obtain ⟨⟨S, h1, h2⟩, h3⟩ := h
  exact ⟨⟨S, h1, fun k hk => Nat.le_trans hb.size (h2 k hk)⟩, hb.trans (h3.mono hb.size)⟩
theorem after_one {l : List WriteV} {i : Nat} {y : WriteV} (h : l[i]? = some y) : afterV [] (l.take (i + 1)) = (applyV (afterV [] (l.take i)) y).1 := by
  rw [List.take_add_one, h]
  unfold afterV
  rw [List.foldl_append]
  rfl
theorem after_end (l : List WriteV) (y : WriteV) : afterV [] (l ++ [y]) = (applyV (afterV [] l) y).1 := by
  unfold afterV
  rw [List.foldl_append]
  rfl
theorem short_of {l m : List WriteV} (hS : ∀ y ∈ l, y.session.size ≤ 1000 ∧ y.key.size ≤ 1000 ∧ y.value.size ≤ 1000) (hm : ∀ y ∈ m, y ∈ l) (hn : m.length ≤ 900) : Short (afterV [] m) ∧ (afterV [] m).length ≤ m.length := by
  have := short_after (ys := m) (fun y hy => hS y (hm y hy)) ex_short0 (by simpa using Nat.le_trans hn (by omega))
  exact ⟨this.1, by simpa using this.2⟩
theorem writes_short {w : World} {p : Option Addr} {l : List WriteV} (h : WritesIn w p l) (hS : ∀ y ∈ l, y.session.size ≤ 1000 ∧ y.key.size ≤ 1000 ∧ y.value.size ≤ 1000) {i : Nat} {y : WriteV} (hy : l[i]? = some y) : y.short w := by
  obtain ⟨_, _, _, _, hv⟩ := h i y hy
  exact ⟨hv, hS y (List.mem_of_getElem? hy)⟩
theorem after_all {l m : List WriteV} (h : ∀ y, y ∈ l ↔ y ∈ m) : afterV [] l = afterV [] m := by
  have h1 := after_v l (xs := []) StoreMath.rising_nil
  have h2 := after_v m (xs := []) StoreMath.rising_nil
  have h3 : (afterV [] l).map RowV.r = (afterV [] m).map RowV.r := by
    rw [h1, h2]
    refine StoreMath.after_same fun x => ?_
    rw [List.mem_map, List.mem_map]
    exact ⟨fun ⟨y, hy, e⟩ => ⟨y, (h y).1 hy, e⟩, fun ⟨y, hy, e⟩ => ⟨y, (h y).2 hy, e⟩⟩
  rw [← rows_back (afterV [] l), h3, rows_back]
theorem rows_own {D : Sto} (hP : Store16 D) {w0 w : World} {b : Nat} {xs : List RowV} (h : OwnSto D w0 w b xs) (hs : Short xs) :
    Calls Try.prog 19 #[ptr16 b] w fun e w' => (∃ p c, e = .returned (.slice p xs.length c) ∧ xs.length ≤ c ∧ c ≤ 9223372036854775807 ∧ RowsIn w' p xs) ∧ Below w.heap.size w w' := by
  obtain ⟨⟨S, h1, h2⟩, h3⟩ := h
  exact hP.rows b S xs w h1 hs
theorem turn_k (t : Int) (N : Nat) (h : 0 < N) (hn : N ≤ 80) : ∃ K : Nat, (wrap64 (t.tmod N + N)).tmod N = (K : Int) ∧ K < N := by
  have h1 : -(N : Int) < t.tmod N := Int.lt_tmod_of_pos t (by omega)
  have h2 : t.tmod N < N := Int.tmod_lt_of_pos t (by omega)
  have h3 : wrap64 (t.tmod N + N) = t.tmod N + N := by have := IntKind.wrap_i64 (t.tmod N + N); first | (rw [show wrap64 (t.tmod N + N) = IntKind.i64.wrap (t.tmod N + N) from rfl, this]; omega) | (unfold wrap64; omega)
  rw [h3, Int.tmod_eq_emod_of_nonneg (by omega)]
  have h4 := Int.emod_nonneg (t.tmod N + N) (show (N : Int) ≠ 0 by omega)
  have h5 := Int.emod_lt_of_pos (t.tmod N + N) (show (0 : Int) < N by omega)
  exact ⟨((t.tmod N + N) % N).toNat, by omega, by omega⟩
set_option maxRecDepth 100000 in
set_option maxHeartbeats 8000000 in
theorem same_true (D : Sto) (hP : Store16 D) (p : Option Addr) (c : Nat) (l : List WriteV) (t : Int) (w : World) (h : WritesIn w p l) (hl : l.length ≤ 9223372036854775807) :
    Calls Try.prog 4 #[.slice p l.length c, .int .i64 t] w fun e w' => e = .returned (.bool true) ∧ Below w.heap.size w w' := by
  have HA := Lib.hid (awake16 D hP)
  have HP := Lib.hid hP
  have HI := Lib.hid h
  have HG := Lib.hid (fun w1 (hw : Below w.heap.size w w1) => great16 p c l w1 (h.grown hw) hl)
  obtain ⟨N, hN⟩ : ∃ N, N = l.length := ⟨_, rfl⟩
  have HN := Lib.hid hN
  rw [← hN] at hl HG ⊢
  clear h hP hN
  cases hg : greatW l with
  | true =>
    rw [hg] at HG
    clear hg
    go_enter Try.func4, Try.ntmps4
    go_wp2_with fail
    refine (HA.out _).mono ?_
    rintro e w1 ⟨rfl, h1⟩
    have HB1 := Lib.hid h1
    clear h1
    go_wp2_with fail
    refine (HG.out w1 HB1.out).mono ?_
    rintro e w2 ⟨rfl, h2⟩
    have HB2 := Lib.hid (HB1.out.trans (h2.mono HB1.out.size))
    clear h2
    go_wp2
    go_ret
    exact ⟨rfl, HB2.out⟩
  | false =>
    rw [hg] at HG
    obtain ⟨hn, hsz⟩ := greatW_not hg
    rw [← HN.out] at hn
    have HS := Lib.hid hsz
    clear hg hsz
    by_cases h0 : N = 0
    · have t0 : ((N : Int) == 0) = true := by rw [beq_iff_eq]; omega
      have t0' : (N == 0) = true := by rw [beq_iff_eq]; exact h0
      clear h0
      go_enter Try.func4, Try.ntmps4
      go_wp2_with fail
      refine (HA.out _).mono ?_
      rintro e w1 ⟨rfl, h1⟩
      have HB1 := Lib.hid h1
      clear h1
      go_wp2_with fail
      refine (HG.out w1 HB1.out).mono ?_
      rintro e w2 ⟨rfl, h2⟩
      have HB2 := Lib.hid (HB1.out.trans (h2.mono HB1.out.size))
      clear h2
      go_wp2
      go_ret
      exact ⟨rfl, HB2.out⟩
    have t0 : ((N : Int) == 0) = false := by rw [beq_eq_false_iff_ne]; omega
    have t0' : (N == 0) = false := by rw [beq_eq_false_iff_ne]; exact h0
    have HN0 := Lib.hid (Nat.pos_of_ne_zero h0)
    have r0 : (N : Int) ≠ 0 := by omega
    go_enter Try.func4, Try.ntmps4
    go_wp2_with fail
    refine (HA.out _).mono ?_
    rintro e w1 ⟨rfl, h1⟩
    have HB1 := Lib.hid h1
    clear h1
    go_wp2_with fail
    refine (HG.out w1 HB1.out).mono ?_
    rintro e w2 ⟨rfl, h2⟩
    have HB2 := Lib.hid (HB1.out.trans (h2.mono HB1.out.size))
    clear h2
    go_wp2_with fail
    obtain ⟨K, hK, hK2⟩ := turn_k t N HN0.out hn
    rw [hK]
    have HK := Lib.hid hK2
    have H0 := Lib.hid (new_own HP.out w2)
    clear hK hK2
    refine H0.out.mono ?_
    rintro e w3 ⟨a, rfl, h3⟩
    have H3 := Lib.hid (show OwnSto D w w3 a [] from own_since h3 HB2.out)
    clear h3
    go_wp2_with fail
    refine (new_two HP.out H3.out).mono ?_
    rintro e w4 ⟨b, rfl, h4⟩
    have H4 := Lib.hid h4
    clear h4
    go_wp2_with fail
    go_loopg [33] N (fun gh s33 wx => ∃ i : Nat, i + gh = N ∧ s33 = .int .i64 (i : Int) ∧ Hid (Two16 D w wx a (afterV [] (l.take i)) b (afterV [] (l.reverse.take i))))
    case atStart => exact ⟨0, by omega, by go_num, H4⟩
    case round =>
      obtain ⟨i, hi, rfl, HT⟩ := hrel
      rename World => W5
      have HB5 := Lib.hid HT.out.2
      by_cases hlt : i < N
      · have q1 : decide ((i : Int) < (N : Int)) = true := decide_eq_true (by omega)
        have q1' : decide (i < N) = true := decide_eq_true hlt
        have q0 : (i : Int) < (N : Int) := by omega
        obtain ⟨M, hM⟩ : ∃ M, M + i + 1 = N := ⟨N - i - 1, by omega⟩
        have m0 : (M : Int) < (N : Int) := by omega
        have m1 : wrap64 ((N : Int) - 1 - (i : Int)) = (M : Int) := by unfold wrap64; omega
        have m2 : wrap64 ((N : Int) - 1) = (N : Int) - 1 := by unfold wrap64; omega
        have m3 : IntKind.i64.wrap ((N : Int) - 1 - (i : Int)) = (M : Int) := by rw [IntKind.wrap_i64]; omega
        have m4 : IntKind.i64.wrap ((N : Int) - 1) = (N : Int) - 1 := by rw [IntKind.wrap_i64]; omega
        have m5 : (N : Int) - 1 - (i : Int) = (M : Int) := by omega
        obtain ⟨y, hy⟩ : ∃ y, l[i]? = some y := ⟨_, List.getElem?_eq_getElem (by rw [← HN.out]; exact hlt)⟩
        obtain ⟨z, hz⟩ : ∃ z, l[M]? = some z := ⟨_, List.getElem?_eq_getElem (by rw [← HN.out]; omega)⟩
        have hz2 : l.reverse[i]? = some z := by rw [List.getElem?_reverse (by rw [← HN.out]; exact hlt), ← HN.out, show N - 1 - i = M by omega, hz]
        have HY := Lib.hid (after_one hy)
        have HZ := Lib.hid (after_one hz2)
        have HY1 := Lib.hid hy
        have HZ1 := Lib.hid hz
        have HS1 := Lib.hid (short_of HS.out (m := l.take i) (fun y hy => List.mem_of_mem_take hy) (by rw [List.length_take]; omega))
        have HS2 := Lib.hid (short_of HS.out (m := l.reverse.take i) (fun y hy => List.mem_reverse.1 (List.mem_of_mem_take hy)) (by rw [List.length_take]; omega))
        have HIn := Lib.hid (And.intro hi hlt)
        have HL1 := Lib.hid (show (l.take i).length ≤ 80 by rw [List.length_take]; omega)
        have HL2 := Lib.hid (show (l.reverse.take i).length ≤ 80 by rw [List.length_take]; omega)
        obtain ⟨b1, o1, hp, x0, x1, x2, x3, x4, x5, x6, x7, x8, x9⟩ := (HI.out.grown HB5.out).look hy
        subst hp
        clear hi hlt hy hz hz2 hM
        go_wp2_with fail
        refine (apply_two HP.out HT.out HS1.out.1 (by have := HS1.out.2; have := HL1.out; omega) y (writes_short (HI.out.grown HB5.out) HS.out HY1.out)).mono ?_
        rintro e W6 ⟨rfl, h6⟩
        have HT6 := Lib.hid h6
        have HB6 := Lib.hid h6.2
        clear h6 x0 x1 x2 x3 x4 x5 x6 x7 x8 x9
        obtain ⟨_, _, hp, x0, x1, x2, x3, x4, x5, x6, x7, x8, x9⟩ := (HI.out.grown HB6.out).look HZ1.out
        obtain ⟨rfl, rfl⟩ : b1 = _ ∧ o1 = _ := by simpa using hp
        clear hp
        go_wp2_with fail
        refine (apply_two HP.out HT6.out.swap HS2.out.1 (by have := HS2.out.2; have := HL2.out; omega) z (writes_short (HI.out.grown HB6.out) HS.out HZ1.out)).mono ?_
        rintro e W7 ⟨rfl, h7⟩
        have HT7 := Lib.hid h7.swap
        clear h7
        go_wp2
        go_roundg (N - (i + 1))
        case measure => have := HIn.out; omega
        case rel => exact ⟨i + 1, by have := HIn.out; omega, by go_num, by rw [HY.out, HZ.out]; exact HT7⟩
      · have q1 : decide ((i : Int) < (N : Int)) = false := decide_eq_false (by omega)
        have q1' : decide (i < N) = false := decide_eq_false hlt
        have e1 : l.take i = l := List.take_of_length_le (by rw [← HN.out]; omega)
        have e2 : l.reverse.take i = l.reverse := List.take_of_length_le (by rw [List.length_reverse, ← HN.out]; omega)
        rw [e1, e2] at HT
        clear hi hlt e1 e2
        go_wp2_with fail
        go_loopg [54] N (fun gh s54 wx => ∃ (i : Nat) (m : List WriteV), i + gh = N ∧ s54 = .int .i64 (i : Int) ∧ Hid (m.length = i ∧ ∀ y ∈ m, y ∈ l) ∧ Hid (Two16 D w wx a (afterV [] l) b (afterV [] (l.reverse ++ m))))
        case atStart => exact ⟨0, [], by omega, by go_num, Lib.hid ⟨rfl, fun y hy => by simp at hy⟩, by rw [List.append_nil]; exact HT⟩
        case round =>
          obtain ⟨j, m, hj, rfl, HM, HT2⟩ := hrel
          rename World => W8
          have HB8 := Lib.hid HT2.out.2
          by_cases hlt : j < N
          · have q1 : decide ((j : Int) < (N : Int)) = true := decide_eq_true (by omega)
            have q1' : decide (j < N) = true := decide_eq_true hlt
            have q2 : (j : Int) < (N : Int) := by omega
            have hKl := HK.out
            obtain ⟨R, hR⟩ : ∃ R, R = (j + K) % N := ⟨_, rfl⟩
            have hRl : R < N := by rw [hR]; exact Nat.mod_lt _ HN0.out
            have m0 : (R : Int) < (N : Int) := by omega
            have m1 : ((j : Int) + (K : Int)).tmod (N : Int) = (R : Int) := by rw [Int.tmod_eq_emod_of_nonneg (by omega), hR]; push_cast; rfl
            have m2 : wrap64 ((j : Int) + (K : Int)) = (j : Int) + (K : Int) := by unfold wrap64; omega
            have m3 : IntKind.i64.wrap ((j : Int) + (K : Int)) = (j : Int) + (K : Int) := by rw [IntKind.wrap_i64]; omega
            obtain ⟨z, hz⟩ : ∃ z, l[R]? = some z := ⟨_, List.getElem?_eq_getElem (by rw [← HN.out]; exact hRl)⟩
            have HZ1 := Lib.hid hz
            have HZ := Lib.hid (after_end (l.reverse ++ m) z)
            have HS2 := Lib.hid (short_of HS.out (m := l.reverse ++ m) (fun y hy => by
              rcases List.mem_append.1 hy with e | e
              · exact List.mem_reverse.1 e
              · exact HM.out.2 y e) (by rw [List.length_append, List.length_reverse, HM.out.1, ← HN.out]; omega))
            have HL2 := Lib.hid (show (l.reverse ++ m).length ≤ 160 by rw [List.length_append, List.length_reverse, HM.out.1, ← HN.out]; omega)
            have HIn := Lib.hid (And.intro hj hlt)
            obtain ⟨b1, o1, hp, x0, x1, x2, x3, x4, x5, x6, x7, x8, x9⟩ := (HI.out.grown HB8.out).look hz
            subst hp
            clear hj hlt hz hR hRl hKl
            go_wp2_with fail
            refine (apply_two HP.out HT2.out.swap HS2.out.1 (by have := HS2.out.2; have := HL2.out; omega) z (writes_short (HI.out.grown HB8.out) HS.out HZ1.out)).mono ?_
            rintro e W9 ⟨rfl, h9⟩
            have HT9 := Lib.hid h9.swap
            clear h9
            go_wp2
            go_roundg (N - (j + 1))
            case measure => have := HIn.out; omega
            case rel => exact ⟨j + 1, m ++ [z], by have := HIn.out; omega, by go_num, Lib.hid ⟨by rw [List.length_append, HM.out.1]; rfl, fun y hy => by
              rcases List.mem_append.1 hy with e | e
              · exact HM.out.2 y e
              · rw [List.mem_singleton.1 e]; exact List.mem_of_getElem? HZ1.out⟩, by rw [← List.append_assoc, HZ.out]; exact HT9⟩
          · have q1 : decide ((j : Int) < (N : Int)) = false := decide_eq_false (by omega)
            have q1' : decide (j < N) = false := decide_eq_false hlt
            have HJ := Lib.hid (show j ≤ N by omega)
            clear hj hlt
            go_wp2_with fail
            have HSa := Lib.hid (short_of HS.out (m := l) (fun y hy => hy) (by rw [← HN.out]; omega))
            have HSb := Lib.hid (short_of HS.out (m := l.reverse ++ m) (fun y hy => by
              rcases List.mem_append.1 hy with e | e
              · exact List.mem_reverse.1 e
              · exact HM.out.2 y e) (by have := HJ.out; rw [List.length_append, List.length_reverse, HM.out.1, ← HN.out]; omega))
            have HE := Lib.hid (after_all (l := l) (m := l.reverse ++ m) (fun y => ⟨fun h => List.mem_append.2 (.inl (List.mem_reverse.2 h)), fun h => by
              rcases List.mem_append.1 h with e | e
              · exact List.mem_reverse.1 e
              · exact HM.out.2 y e⟩))
            refine (rows_own HP.out HT2.out.left HSa.out.1).mono ?_
            rintro e W9 ⟨⟨p9, c9, rfl, hc9, hm9, hr9⟩, h9⟩
            have HT9 := Lib.hid (HT2.out.below h9)
            have HR9 := Lib.hid hr9
            clear h9 hr9 hc9 hm9
            go_wp2_with fail
            refine (plain16 p9 c9 _ W9 HR9.out (by have := HSa.out.1.few; omega)).mono ?_
            rintro e W10 ⟨⟨v10, rfl, hv10⟩, h10⟩
            have HT10 := Lib.hid (HT9.out.below h10)
            obtain ⟨p10, c10, rfl, _, _⟩ := hv10.shape
            have HR10 := Lib.hid hv10.rows
            clear h10 hv10
            go_wp2_with fail
            refine (rows_own HP.out HT10.out.swap.left HSb.out.1).mono ?_
            rintro e W11 ⟨⟨p11, c11, rfl, hc11, hm11, hr11⟩, h11⟩
            have HT11 := Lib.hid (HT10.out.below h11)
            have HR11 := Lib.hid hr11
            have HR10b := Lib.hid (HR10.out.grown h11)
            clear h11 hr11 hc11 hm11
            go_wp2_with fail
            refine (plain16 p11 c11 _ W11 HR11.out (by have := HSb.out.1.few; omega)).mono ?_
            rintro e W12 ⟨⟨v12, rfl, hv12⟩, h12⟩
            have HT12 := Lib.hid (HT11.out.below h12)
            obtain ⟨p12, c12, rfl, _, _⟩ := hv12.shape
            have HR12 := Lib.hid hv12.rows
            have HR10c := Lib.hid (HR10b.out.grown h12)
            clear h12 hv12
            go_wp2_with fail
            have hq := refSame16 p10 p12 c10 c12 (afterV [] l) (afterV [] (l.reverse ++ m)) W12 HR10c.out HR12.out (by have := HSa.out.1.few; omega)
            rw [decide_eq_true HE.out] at hq
            refine hq.mono ?_
            clear hq
            rintro e W13 ⟨rfl, n13, hw⟩
            rw [hw]
            clear hw
            go_wp2
            go_ret
            exact ⟨rfl, below_drewN _ HT12.out.2⟩
end Go.Proofs.Ytgbhfhnbmgkaoaa
