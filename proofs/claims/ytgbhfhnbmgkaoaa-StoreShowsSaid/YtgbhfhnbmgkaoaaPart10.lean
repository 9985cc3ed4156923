/-
  Texts of one claim, merged.
  StoreRef7: The document's own Same of chapters 1 (texts) and 16 (rows). The conditions: what is compared lies in memory.
  RegMerge: The document's own Merge of chapter 15. The condition: at most 1000 cells.
  RegTwo: Two cells in a new block. No program is run here.
-/
import Derived.Test.YtgbhfhnbmgkaoaaPart09
import Derived.BigQuiet
import Derived.Test.YtgbhfhnbmgkaoaaPart07
import Derived.Test.YtgbhfhnbmgkaoaaPart06
import Derived.Test.YtgbhfhnbmgkaoaaPart05
namespace Go.Proofs.Ytgbhfhnbmgkaoaa
open Go.RowKit TextNat RegMath

/-- '!=' of two rows. -/
theorem neq_row (a b : RowV) (w : World) : (binOp .neq 78 a.val b.val).run Try.prog w = .ok (.bool (!decide (a = b))) w := by
  obtain ⟨a6, a7, ⟨a1, a2, a3, a4, a5⟩⟩ := a
  obtain ⟨b6, b7, ⟨b1, b2, b3, b4, b5⟩⟩ := b
  unfold RowV.val
  simp only
  by_cases h6 : a6 = b6
  · by_cases h7 : a7 = b7
    · by_cases h1 : a1 = b1
      · by_cases h2 : a2 = b2
        · by_cases h3 : a3 = b3
          · by_cases h4 : a4 = b4
            · by_cases h5 : a5 = b5
              · subst h1; subst h2; subst h3; subst h4; subst h5; subst h6; subst h7
                rw [decide_eq_true rfl]
                go_simp
              · rw [decide_eq_false (by simp [h5])]
                subst h1; subst h2; subst h3; subst h4; subst h6; subst h7
                go_simp
            · rw [decide_eq_false (by simp [h4])]
              subst h1; subst h2; subst h3; subst h6; subst h7
              go_simp
          · rw [decide_eq_false (by simp [h3])]
            have k := text_list h3
            subst h1; subst h2; subst h6; subst h7
            go_simp
        · rw [decide_eq_false (by simp [h2])]
          subst h1; subst h6; subst h7
          go_simp
      · rw [decide_eq_false (by simp [h1])]
        subst h6; subst h7
        go_simp
    · rw [decide_eq_false (by simp [h7])]
      have k := text_list h7
      subst h6
      go_simp
  · rw [decide_eq_false (by simp [h6])]
    have k := text_list h6
    go_simp
theorem neq_text16 (a b : ByteArray) (w : World) : (binOp .neq 9 (.string a) (.string b)).run Try.prog w = .ok (.bool (!decide (a = b))) w := by
  by_cases h : a = b
  · subst h
    rw [decide_eq_true rfl]
    go_simp
  · rw [decide_eq_false h]
    have k := text_list h
    go_simp
theorem same_take {α : Type} {xs ys : List α} {i : Nat} {x y : α} (h : xs.take i = ys.take i) (hx : xs[i]? = some x) (hy : ys[i]? = some y) (e : x = y) : xs.take (i + 1) = ys.take (i + 1) := by
  rw [List.take_add_one, List.take_add_one, h, hx, hy, e]
set_option maxRecDepth 100000 in
set_option maxHeartbeats 4000000 in
theorem refSame01 (p q : Option Addr) (c d : Nat) (xs ys : List ByteArray) (w : World) (hx : TextsAt w p xs) (hy : TextsAt w q ys) (hl : xs.length ≤ 9223372036854775807) :
    Calls Try.prog 39 #[.slice p xs.length c, .slice q ys.length d] w fun e w' => e = .returned (.bool (decide (xs = ys))) ∧ ∃ n, w' = w.drewN n := by
  obtain ⟨N, hN⟩ : ∃ N, N = xs.length := ⟨_, rfl⟩
  obtain ⟨M, hM⟩ : ∃ M, M = ys.length := ⟨_, rfl⟩
  have HN := Lib.hid hN
  have HM := Lib.hid hM
  have HX := Lib.hid hx
  have HY := Lib.hid hy
  rw [← hN] at hl ⊢
  rw [← hM]
  clear hx hy hN hM
  by_cases hNM : N = M
  · subst hNM
    have z1 : ((N : Int) == (N : Int)) = true := by rw [beq_iff_eq]
    go_enter Try.func39, Try.ntmps39
    go_wp2
    go_loopg [5] N (fun gh s5 wx => ∃ i : Nat, i + gh = N ∧ s5 = .int .i64 (i : Int) ∧ Hid (xs.take i = ys.take i) ∧ ∃ n, wx = w.drewN n)
    case atStart => exact ⟨0, by omega, by go_num, Lib.hid rfl, 0, rfl⟩
    case round =>
      obtain ⟨i, hi, rfl, HT, n, hw⟩ := hrel
      rename World => W1
      have HW := Lib.hid hw
      clear hw
      by_cases hlt : i < N
      · have t1 : decide ((i : Int) < (N : Int)) = true := decide_eq_true (by omega)
        have t1' : decide (i < N) = true := decide_eq_true hlt
        have q0 : (i : Int) < (N : Int) := by omega
        have q1 : (0 : Int) ≤ (i : Int) := by omega
        obtain ⟨x, hx⟩ : ∃ x, xs[i]? = some x := ⟨_, List.getElem?_eq_getElem (by rw [← HN.out]; exact hlt)⟩
        obtain ⟨y, hy⟩ : ∃ y, ys[i]? = some y := ⟨_, List.getElem?_eq_getElem (by rw [← HM.out]; exact hlt)⟩
        obtain ⟨b1, o1, rfl, c0⟩ := (show TextsAt W1 p xs by rw [HW.out]; exact HX.out) i x hx
        obtain ⟨b2, o2, rfl, c1⟩ := (show TextsAt W1 q ys by rw [HW.out]; exact HY.out) i y hy
        have HX1 := Lib.hid hx
        have HY1 := Lib.hid hy
        have HIn := Lib.hid (And.intro hi hlt)
        have neq := fun w => neq_text16 x y w
        have HE := Lib.hid (fun e => same_take HT.out hx hy e)
        have HF := Lib.hid (show ¬ x = y → decide (xs = ys) = false from fun e => decide_eq_false (fun e2 => e (by rw [e2, hy] at hx; exact (Option.some.inj hx).symm)))
        clear hx hy hi hlt
        by_cases e : x = y
        · rw [decide_eq_true e] at neq
          have HE2 := Lib.hid (HE.out e)
          subst e
          clear HF
          go_wp2_with fail
          go_quiet (fail)
          go_wp2
          go_roundg (N - (i + 1))
          case measure => have := HIn.out; omega
          case rel => exact ⟨i + 1, by have := HIn.out; omega, by go_num, HE2, n + nq, by rw [HW.out, World.drewN_drewN]⟩
        · rw [decide_eq_false e] at neq
          have HF2 := Lib.hid (HF.out e)
          have k := text_list e
          have k' : (x.toList == y.toList) = false := beq_eq_false_iff_ne.2 k
          clear e HE HF
          go_wp2_with fail
          go_quiet (fail)
          go_wp2
          go_ret
          exact ⟨by rw [HF2.out]; rfl, n + nq, by rw [HW.out, World.drewN_drewN]⟩
      · have t1 : decide ((i : Int) < (N : Int)) = false := decide_eq_false (by omega)
        have t1' : decide (i < N) = false := decide_eq_false hlt
        have HF := Lib.hid (show decide (xs = ys) = true by
          have := HT.out
          rw [List.take_of_length_le (by rw [← HN.out]; omega), List.take_of_length_le (by rw [← HM.out]; omega)] at this
          exact decide_eq_true this)
        clear hi hlt
        go_wp2
        go_ret
        exact ⟨by rw [HF.out]; rfl, n, HW.out⟩
  · have z1 : ((N : Int) == (M : Int)) = false := by rw [beq_eq_false_iff_ne]; omega
    have z1' : (N == M) = false := by rw [beq_eq_false_iff_ne]; exact hNM
    have HF := Lib.hid (show decide (xs = ys) = false from decide_eq_false (fun e => hNM (by rw [HN.out, HM.out, e])))
    go_enter Try.func39, Try.ntmps39
    go_wp2
    go_ret
    exact ⟨by rw [HF.out]; rfl, 0, rfl⟩
set_option maxRecDepth 100000 in
set_option maxHeartbeats 4000000 in
theorem refSame16 (p q : Option Addr) (c d : Nat) (xs ys : List RowV) (w : World) (hx : RowsIn w p xs) (hy : RowsIn w q ys) (hl : xs.length ≤ 9223372036854775807) :
    Calls Try.prog 17 #[.slice p xs.length c, .slice q ys.length d] w fun e w' => e = .returned (.bool (decide (xs = ys))) ∧ ∃ n, w' = w.drewN n := by
  obtain ⟨N, hN⟩ : ∃ N, N = xs.length := ⟨_, rfl⟩
  obtain ⟨M, hM⟩ : ∃ M, M = ys.length := ⟨_, rfl⟩
  have HN := Lib.hid hN
  have HM := Lib.hid hM
  have HX := Lib.hid hx
  have HY := Lib.hid hy
  rw [← hN] at hl ⊢
  rw [← hM]
  clear hx hy hN hM
  by_cases hNM : N = M
  · subst hNM
    have z1 : ((N : Int) == (N : Int)) = true := by rw [beq_iff_eq]
    go_enter Try.func17, Try.ntmps17
    go_wp2
    go_loopg [5] N (fun gh s5 wx => ∃ i : Nat, i + gh = N ∧ s5 = .int .i64 (i : Int) ∧ Hid (xs.take i = ys.take i) ∧ ∃ n, wx = w.drewN n)
    case atStart => exact ⟨0, by omega, by go_num, Lib.hid rfl, 0, rfl⟩
    case round =>
      obtain ⟨i, hi, rfl, HT, n, hw⟩ := hrel
      rename World => W1
      have HW := Lib.hid hw
      clear hw
      by_cases hlt : i < N
      · have t1 : decide ((i : Int) < (N : Int)) = true := decide_eq_true (by omega)
        have t1' : decide (i < N) = true := decide_eq_true hlt
        have q0 : (i : Int) < (N : Int) := by omega
        have q1 : (0 : Int) ≤ (i : Int) := by omega
        obtain ⟨x, hx⟩ : ∃ x, xs[i]? = some x := ⟨_, List.getElem?_eq_getElem (by rw [← HN.out]; exact hlt)⟩
        obtain ⟨y, hy⟩ : ∃ y, ys[i]? = some y := ⟨_, List.getElem?_eq_getElem (by rw [← HM.out]; exact hlt)⟩
        obtain ⟨b1, o1, rfl⟩ := HX.out.addr (by rw [← HN.out]; omega)
        obtain ⟨b2, o2, rfl⟩ := HY.out.addr (by rw [← HM.out]; omega)
        obtain ⟨c0, c1, c2, c3, c4, c5, c6⟩ := (show RowsIn W1 _ xs by rw [HW.out]; exact HX.out).look hx
        obtain ⟨d0, d1, d2, d3, d4, d5, d6⟩ := (show RowsIn W1 _ ys by rw [HW.out]; exact HY.out).look hy
        have HX1 := Lib.hid hx
        have HY1 := Lib.hid hy
        have HIn := Lib.hid (And.intro hi hlt)
        have neq := fun w => neq_row x y w
        have HE := Lib.hid (fun e => same_take HT.out hx hy e)
        have HF := Lib.hid (show ¬ x = y → decide (xs = ys) = false from fun e => decide_eq_false (fun e2 => e (by rw [e2, hy] at hx; exact (Option.some.inj hx).symm)))
        obtain ⟨x1, x2, ⟨x3, x4, x5, x6, x7⟩⟩ := x
        obtain ⟨y1, y2, ⟨y3, y4, y5, y6, y7⟩⟩ := y
        simp only [RowV.val] at c0 c1 c2 c3 c4 c5 c6 d0 d1 d2 d3 d4 d5 d6 neq
        clear hx hy hi hlt
        by_cases e : (⟨x1, x2, ⟨x3, x4, x5, x6, x7⟩⟩ : RowV) = ⟨y1, y2, ⟨y3, y4, y5, y6, y7⟩⟩
        · rw [decide_eq_true e] at neq
          have HE2 := Lib.hid (HE.out e)
          clear e
          clear HF
          go_wp2_with fail
          go_quiet (fail)
          go_wp2
          go_roundg (N - (i + 1))
          case measure => have := HIn.out; omega
          case rel => exact ⟨i + 1, by have := HIn.out; omega, by go_num, HE2, n + nq, by rw [HW.out, World.drewN_drewN]⟩
        · rw [decide_eq_false e] at neq
          have HF2 := Lib.hid (HF.out e)
          clear e HE HF
          go_wp2_with fail
          go_quiet (fail)
          go_wp2
          go_ret
          exact ⟨by rw [HF2.out]; rfl, n + nq, by rw [HW.out, World.drewN_drewN]⟩
      · have t1 : decide ((i : Int) < (N : Int)) = false := decide_eq_false (by omega)
        have t1' : decide (i < N) = false := decide_eq_false hlt
        have HF := Lib.hid (show decide (xs = ys) = true by
          have := HT.out
          rw [List.take_of_length_le (by rw [← HN.out]; omega), List.take_of_length_le (by rw [← HM.out]; omega)] at this
          exact decide_eq_true this)
        clear hi hlt
        go_wp2
        go_ret
        exact ⟨by rw [HF.out]; rfl, n, HW.out⟩
  · have z1 : ((N : Int) == (M : Int)) = false := by rw [beq_eq_false_iff_ne]; omega
    have z1' : (N == M) = false := by rw [beq_eq_false_iff_ne]; exact hNM
    have HF := Lib.hid (show decide (xs = ys) = false from decide_eq_false (fun e => hNM (by rw [HN.out, HM.out, e])))
    go_enter Try.func17, Try.ntmps17
    go_wp2
    go_ret
    exact ⟨by rw [HF.out]; rfl, 0, rfl⟩
end Go.Proofs.Ytgbhfhnbmgkaoaa
namespace Go.Proofs.Ytgbhfhnbmgkaoaa
open Go.RowKit TextNat RegMath

theorem results_cell_one {P : Program} {fn : Func} {p : Tmp} {ty : TypeId} (h : fn.results = #[.cell p ty]) (tmps : Array Value) (w : World) (g : Nat) (T : TypeId) (cs : Array Value) (fr : Nat × Nat) (d : TypeDesc)
    (hp : tmps.getD p undef = .pointer (some ⟨g, 0, none⟩)) (hg : w.heap[g]? = some (.cells cs T fr))
    (hu : P.underlying ty = some d) (hd : (match d with | .struct _ | .array _ _ => true | _ => false) = true) (hi : (P.info? ty).map (·.size) = some cs.size) :
    (results fn tmps).run P w = .ok (.agg cs) w := by
  have hp' : tmps[p]?.getD undef = .pointer (some ⟨g, 0, none⟩) := by simpa using hp
  simp [results, h, hp', asAddr, run_loadVar_row w g T ty cs fr d hg hu hd hi]
def bestTo (xs : List RegV) (c : RegV) (k : Nat) : Bool := (xs.take k).all fun x => !above x.c c.c
theorem bestTo_zero (xs : List RegV) (c : RegV) : bestTo xs c 0 = true := rfl
theorem bestTo_step {xs : List RegV} {c x : RegV} {k : Nat} (h : xs[k]? = some x) : bestTo xs c (k + 1) = (bestTo xs c k && !above x.c c.c) := by
  unfold bestTo
  rw [List.take_add_one, h, List.all_append]
  simp
theorem bestTo_all {xs : List RegV} {c : RegV} {k : Nat} (h : xs.length ≤ k) : bestTo xs c k = best (xs.map RegV.c) c.c := by
  unfold bestTo best
  rw [List.take_of_length_le h, List.all_map]
  rfl
theorem mergeV_best {xs : List RegV} {i : Nat} {x : RegV} (h : xs[i]? = some x) (hb : best (xs.map RegV.c) x.c = true) : mergeV xs = x := by
  unfold mergeV
  rw [merge_is (m := x.c) ⟨List.mem_map_of_mem (List.mem_of_getElem? h), best_iff.1 hb⟩, RegV.of_c]
theorem mergeV_none {xs : List RegV} (h : ∀ (j : Nat) (x : RegV), xs[j]? = some x → best (xs.map RegV.c) x.c = false) : mergeV xs = zeroR := by
  cases xs with
  | nil => rfl
  | cons a r =>
    exfalso
    have hw := merge_wins (l := (a :: r).map RegV.c) (by simp)
    obtain ⟨x, hx, he⟩ := List.mem_map.1 hw.mem
    obtain ⟨j, hj⟩ := List.getElem?_of_mem hx
    have h1 := h j x hj
    rw [he, best_iff.2 hw.top] at h1
    cases h1
theorem put_five {w : World} {b : Nat} {T : TypeId} {l : List Value} (h : Lies w b l T) (hl : l.length = 5) (u0 u1 u2 u3 u4 : Value) : Lies (((((w.setCell ⟨b, 0, none⟩ u0).setCell ⟨b, 1, none⟩ u1).setCell ⟨b, 2, none⟩ u2).setCell ⟨b, 3, none⟩ u3).setCell ⟨b, 4, none⟩ u4) b [u0, u1, u2, u3, u4] T ∧ But b w (((((w.setCell ⟨b, 0, none⟩ u0).setCell ⟨b, 1, none⟩ u1).setCell ⟨b, 2, none⟩ u2).setCell ⟨b, 3, none⟩ u3).setCell ⟨b, 4, none⟩ u4) := by
  match l, hl with
  | [_, _, _, _, _], _ => exact ⟨((((h.set 0 u0).set 1 u1).set 2 u2).set 3 u3).set 4 u4, ((((But.set b 0 w u0).trans (But.set b 1 _ u1)).trans (But.set b 2 _ u2)).trans (But.set b 3 _ u3)).trans (But.set b 4 _ u4)⟩
set_option maxRecDepth 100000 in
set_option maxHeartbeats 8000000 in
theorem refMerge15 (p : Option Addr) (c : Nat) (xs : List RegV) (w : World) (h : RegsIn w p xs) (hl : xs.length ≤ 1000) :
    Calls Try.prog 32 #[.slice p xs.length c] w fun e w' => e = .returned (mergeV xs).val ∧ Below w.heap.size w w' := by
  obtain ⟨N, hN⟩ : ∃ N, N = xs.length := ⟨_, rfl⟩
  obtain ⟨W0, hW0⟩ : ∃ W0, W0 = w.alloc (.cells #[.int .i64 0, .int .i64 0, .string ⟨#[]⟩, .bool false, .int .i64 0] 74) := ⟨_, rfl⟩
  have hB0 : Below w.heap.size w W0 := by rw [hW0]; exact (Below.refl _ _).alloc (Nat.le_refl _) _
  have HI := Lib.hid (h.grown hB0)
  have HB0 := Lib.hid hB0
  have HR0 := Lib.hid (show Lies W0 w.heap.size [.int .i64 0, .int .i64 0, .string ⟨#[]⟩, .bool false, .int .i64 0] 74 by rw [hW0]; exact Lies.new w _ _)
  have HN := Lib.hid hN
  have HW := Lib.hid hW0
  rw [← hN] at hl ⊢
  clear h hN hB0 hW0
  go_enter Try.func32, Try.ntmps32
  go_wp2_with fail
  rw [← HW.out]
  go_loopg [3] N (fun gh s3 wx => ∃ i : Nat, i + gh = N ∧ s3 = .int .i64 (i : Int) ∧ Hid (∀ (j : Nat) (a : RegV), j < i → xs[j]? = some a → best (xs.map RegV.c) a.c = false) ∧ Below W0.heap.size W0 wx)
  case atStart => exact ⟨0, by omega, by go_num, Lib.hid (fun j a hj => by omega), Below.refl _ _⟩
  case round =>
    obtain ⟨i, hi, rfl, HJ, hb⟩ := hrel
    rename World => W1
    have HB1 := Lib.hid hb
    clear hb
    by_cases hiN : i < N
    · have t1 : decide ((i : Int) < (N : Int)) = true := decide_eq_true (by omega)
      have t1' : decide (i < N) = true := decide_eq_true hiN
      obtain ⟨a, ha⟩ : ∃ a, xs[i]? = some a := ⟨_, List.getElem?_eq_getElem (by rw [← HN.out]; exact hiN)⟩
      have HA := Lib.hid ha
      clear ha
      go_wp2_with fail
      go_loopg [4, 5] N (fun gh s4 s5 wx => ∃ k : Nat, k + gh = N ∧ s5 = .int .i64 (k : Int) ∧ s4 = .bool (bestTo xs a k) ∧ Below W0.heap.size W0 wx)
      case atStart => exact ⟨0, by omega, by go_num, by rw [bestTo_zero], HB1.out⟩
      case round =>
        obtain ⟨k, hk, rfl, rfl, hb2⟩ := hrel
        rename World => W2
        have HB2 := Lib.hid hb2
        obtain ⟨b, off, hp, x0, x1, x2, x3, x4⟩ := (HI.out.grown hb2) i _ HA.out
        clear hb2
        obtain ⟨m, hm⟩ : ∃ m, m = bestTo xs a k := ⟨_, rfl⟩
        rw [← hm]
        have HM := Lib.hid hm
        clear hm
        by_cases hkN : k < N
        · have q1 : decide ((k : Int) < (N : Int)) = true := decide_eq_true (by omega)
          have q1' : decide (k < N) = true := decide_eq_true hkN
          obtain ⟨d, hbb⟩ : ∃ a, xs[k]? = some a := ⟨_, List.getElem?_eq_getElem (by rw [← HN.out]; exact hkN)⟩
          obtain ⟨b', off', hp', y0, y1, y2, y3, y4⟩ := (HI.out.grown HB2.out) k _ hbb
          obtain rfl : p = some ⟨b, off, none⟩ := hp
          obtain ⟨rfl, rfl⟩ : b' = b ∧ off' = off := by simpa using hp'.symm
          have HS := Lib.hid (bestTo_step (c := a) hbb)
          have HLs := Lib.hid (fun w => refAbove15 d a w)
          simp only [RegV.val] at HLs
          clear hbb hp'
          cases m with
          | false =>
            go_wp2_with fail
            go_quiet (fail)
            go_wp2
            go_roundg (N - (k + 1))
            case measure => omega
            case rel => exact ⟨k + 1, by omega, by go_num, by rw [HS.out, ← HM.out]; rfl, below_drewN _ HB2.out⟩
          | true =>
            have HB3 := Lib.hid (Below.trans HB2.out (Below.drew (Below.refl W2.heap.size W2) |>.mono HB2.out.size))
            go_wp2_with fail
            go_still_tail 10, (by kernel_rfl)
            change wpList _ _ _ _ _ W2.drew
            go_wp2_with (go_at_call 59; refine (HLs.out _).mono ?_; rintro e w3 ⟨rfl, hb3⟩; have HB4 := Lib.hid (HB3.out.trans (hb3.mono HB3.out.size)); clear hb3)
            go_roundg (N - (k + 1))
            case measure => omega
            case rel => exact ⟨k + 1, by omega, by go_num, by rw [HS.out, ← HM.out]; rfl, HB4.out⟩
        · have q1 : decide ((k : Int) < (N : Int)) = false := decide_eq_false (by omega)
          have q1' : decide (k < N) = false := decide_eq_false hkN
          have hT : m = best (xs.map RegV.c) a.c := by rw [HM.out]; exact bestTo_all (by rw [← HN.out]; omega)
          have HL0 := Lib.hid (HR0.out.below HB2.out)
          cases m with
          | false =>
            have HJ2 := Lib.hid (show ∀ (j : Nat) (z : RegV), j < i + 1 → xs[j]? = some z → best (xs.map RegV.c) z.c = false from fun j z hj hja => by
              by_cases e : j < i
              · exact HJ.out j z e hja
              · obtain rfl : j = i := by omega
                obtain rfl : z = a := Option.some.inj (hja.symm.trans HA.out)
                exact hT.symm)
            clear hT hp x0 x1 x2 x3 x4
            go_wp2
            go_roundg (N - (i + 1))
            case measure => omega
            case rel => exact ⟨i + 1, by omega, by go_num, HJ2, HB2.out⟩
          | true =>
            have HG := Lib.hid (mergeV_best HA.out hT.symm)
            clear hT
            subst hp
            have c0 := HL0.out.cell (i := 0) rfl; have c1 := HL0.out.cell (i := 1) rfl; have c2 := HL0.out.cell (i := 2) rfl; have c3 := HL0.out.cell (i := 3) rfl; have c4 := HL0.out.cell (i := 4) rfl
            have f0 := HL0.out.free 0; have f1 := HL0.out.free 1; have f2 := HL0.out.free 2; have f3 := HL0.out.free 3; have f4 := HL0.out.free 4
            go_wp2
            obtain ⟨q2, q3⟩ := put_five HL0.out rfl (.int .i64 a.time) (.int .i64 a.region) (.string a.value) (.bool a.gone) (.int .i64 a.life)
            refine bodyPost_ret (results_cell_one Try.results32 _ _ w.heap.size 74 _ (0, 0) _ rfl q2 Try.underlying74 rfl (by kernel_rfl)) rfl ?_
            exact ⟨by rw [HG.out]; rfl, (HB0.out.trans (HB2.out.mono HB0.out.size)).trans (q3.below (HB0.out.trans (HB2.out.mono HB0.out.size)).size)⟩
    · have t1 : decide ((i : Int) < (N : Int)) = false := decide_eq_false (by omega)
      have t1' : decide (i < N) = false := decide_eq_false hiN
      have HG := Lib.hid (mergeV_none (xs := xs) fun j a hja => HJ.out j a (by have := (List.getElem?_eq_some_iff.1 hja).1; rw [← HN.out] at this; omega) hja)
      have HL0 := Lib.hid (HR0.out.below HB1.out)
      have c0 := HL0.out.cell (i := 0) rfl; have c1 := HL0.out.cell (i := 1) rfl; have c2 := HL0.out.cell (i := 2) rfl; have c3 := HL0.out.cell (i := 3) rfl; have c4 := HL0.out.cell (i := 4) rfl
      have f0 := HL0.out.free 0; have f1 := HL0.out.free 1; have f2 := HL0.out.free 2; have f3 := HL0.out.free 3; have f4 := HL0.out.free 4
      go_wp2
      obtain ⟨q2, q3⟩ := put_five HL0.out rfl (.int .i64 0) (.int .i64 0) (.string ⟨#[]⟩) (.bool false) (.int .i64 0)
      refine bodyPost_ret (results_cell_one Try.results32 _ _ w.heap.size 74 _ (0, 0) _ rfl q2 Try.underlying74 rfl (by kernel_rfl)) rfl ?_
      exact ⟨by rw [HG.out]; rfl, (HB0.out.trans (HB1.out.mono HB0.out.size)).trans (q3.below (HB0.out.trans (HB1.out.mono HB0.out.size)).size)⟩
end Go.Proofs.Ytgbhfhnbmgkaoaa
namespace Go.Proofs.Ytgbhfhnbmgkaoaa
open Go.RowKit TextNat RegMath

/-- Two cells in a new block. -/
def cells10 (a b : RegV) : List Value := a.cells ++ b.cells
theorem regs_two {w : World} {g : Nat} {T : TypeId} {a b : RegV} (h : Lies w g (cells10 a b) T) : RegsIn w (some ⟨g, 0, none⟩) [a, b] := fun i x hx => by
  have hi := (List.getElem?_eq_some_iff.1 hx).1
  match i, hi with
  | 0, _ =>
    obtain rfl : a = x := by simpa using hx
    exact ⟨g, 0, rfl, h.cell (i := 0) rfl, h.cell (i := 1) rfl, h.cell (i := 2) rfl, h.cell (i := 3) rfl, h.cell (i := 4) rfl⟩
  | 1, _ =>
    obtain rfl : b = x := by simpa using hx
    exact ⟨g, 0, rfl, h.cell (i := 5) rfl, h.cell (i := 6) rfl, h.cell (i := 7) rfl, h.cell (i := 8) rfl, h.cell (i := 9) rfl⟩
end Go.Proofs.Ytgbhfhnbmgkaoaa
