/-
  RegAboves' contract: it answers true of any cells, out of the program's contracts and the example. The conditions: the cells lie in memory.
-/
import Derived.Test.YtkoojfpafgkgiaaRegRef
import Derived.Test.YtkoojfpafgkgiaaRegGreat
import Derived.Deep.RegionHeld3
namespace Go.Proofs.Ytkoojfpafgkgiaa
open Go.RowKit TextNat RegMath

theorem one_above (a b : RegV) : (decide (a = b) == !(above a.c b.c == above b.c a.c)) = false := by
  have h := RegMath.above_one a.c b.c
  have e : decide (a.c = b.c) = decide (a = b) := decide_eq_decide.2 (RegV.c_iff a b)
  rw [e] at h
  exact h
theorem keepFive {W w w' : World} {A : Nat} {uA0 uA1 uA2 uA3 uA4 : Value} (h : Below W.heap.size W w ∧ w.cell? ⟨A, 0, none⟩ = some uA0 ∧ w.cell? ⟨A, 1, none⟩ = some uA1 ∧ w.cell? ⟨A, 2, none⟩ = some uA2 ∧ w.cell? ⟨A, 3, none⟩ = some uA3 ∧ w.cell? ⟨A, 4, none⟩ = some uA4) (hb : Below w.heap.size w w') :
    Below W.heap.size W w' ∧ w'.cell? ⟨A, 0, none⟩ = some uA0 ∧ w'.cell? ⟨A, 1, none⟩ = some uA1 ∧ w'.cell? ⟨A, 2, none⟩ = some uA2 ∧ w'.cell? ⟨A, 3, none⟩ = some uA3 ∧ w'.cell? ⟨A, 4, none⟩ = some uA4 := by
  obtain ⟨h0, hA0, hA1, hA2, hA3, hA4⟩ := h
  exact ⟨h0.trans (hb.mono h0.size), (hb.cell (p := ⟨A, 0, none⟩) (World.block_lt_of_cell? w _ hA0)).trans hA0, (hb.cell (p := ⟨A, 1, none⟩) (World.block_lt_of_cell? w _ hA1)).trans hA1, (hb.cell (p := ⟨A, 2, none⟩) (World.block_lt_of_cell? w _ hA2)).trans hA2, (hb.cell (p := ⟨A, 3, none⟩) (World.block_lt_of_cell? w _ hA3)).trans hA3, (hb.cell (p := ⟨A, 4, none⟩) (World.block_lt_of_cell? w _ hA4)).trans hA4⟩
theorem keepTen {W w w' : World} {A B : Nat} {uA0 uA1 uA2 uA3 uA4 uB0 uB1 uB2 uB3 uB4 : Value} (h : Below W.heap.size W w ∧ w.cell? ⟨A, 0, none⟩ = some uA0 ∧ w.cell? ⟨A, 1, none⟩ = some uA1 ∧ w.cell? ⟨A, 2, none⟩ = some uA2 ∧ w.cell? ⟨A, 3, none⟩ = some uA3 ∧ w.cell? ⟨A, 4, none⟩ = some uA4 ∧ w.cell? ⟨B, 0, none⟩ = some uB0 ∧ w.cell? ⟨B, 1, none⟩ = some uB1 ∧ w.cell? ⟨B, 2, none⟩ = some uB2 ∧ w.cell? ⟨B, 3, none⟩ = some uB3 ∧ w.cell? ⟨B, 4, none⟩ = some uB4) (hb : Below w.heap.size w w') :
    Below W.heap.size W w' ∧ w'.cell? ⟨A, 0, none⟩ = some uA0 ∧ w'.cell? ⟨A, 1, none⟩ = some uA1 ∧ w'.cell? ⟨A, 2, none⟩ = some uA2 ∧ w'.cell? ⟨A, 3, none⟩ = some uA3 ∧ w'.cell? ⟨A, 4, none⟩ = some uA4 ∧ w'.cell? ⟨B, 0, none⟩ = some uB0 ∧ w'.cell? ⟨B, 1, none⟩ = some uB1 ∧ w'.cell? ⟨B, 2, none⟩ = some uB2 ∧ w'.cell? ⟨B, 3, none⟩ = some uB3 ∧ w'.cell? ⟨B, 4, none⟩ = some uB4 := by
  obtain ⟨h0, hA0, hA1, hA2, hA3, hA4, hB0, hB1, hB2, hB3, hB4⟩ := h
  exact ⟨h0.trans (hb.mono h0.size), (hb.cell (p := ⟨A, 0, none⟩) (World.block_lt_of_cell? w _ hA0)).trans hA0, (hb.cell (p := ⟨A, 1, none⟩) (World.block_lt_of_cell? w _ hA1)).trans hA1, (hb.cell (p := ⟨A, 2, none⟩) (World.block_lt_of_cell? w _ hA2)).trans hA2, (hb.cell (p := ⟨A, 3, none⟩) (World.block_lt_of_cell? w _ hA3)).trans hA3, (hb.cell (p := ⟨A, 4, none⟩) (World.block_lt_of_cell? w _ hA4)).trans hA4, (hb.cell (p := ⟨B, 0, none⟩) (World.block_lt_of_cell? w _ hB0)).trans hB0, (hb.cell (p := ⟨B, 1, none⟩) (World.block_lt_of_cell? w _ hB1)).trans hB1, (hb.cell (p := ⟨B, 2, none⟩) (World.block_lt_of_cell? w _ hB2)).trans hB2, (hb.cell (p := ⟨B, 3, none⟩) (World.block_lt_of_cell? w _ hB3)).trans hB3, (hb.cell (p := ⟨B, 4, none⟩) (World.block_lt_of_cell? w _ hB4)).trans hB4⟩
set_option maxRecDepth 100000 in
set_option maxHeartbeats 8000000 in
theorem aboves_true (hA : AwakeOk) (hV : VisibleOk) (hAb : AboveOk) (p : Option Addr) (c : Nat) (xs : List RegV) (w : World) (h : RegsIn w p xs) (hl : xs.length ≤ 9223372036854775807) :
    Calls Try.prog 3 #[.slice p xs.length c] w fun e w' => e = .returned (.bool true) ∧ Below w.heap.size w w' := by
  have HA := Lib.hid hA
  have HV := Lib.hid hV
  have HAb := Lib.hid hAb
  have HGt := Lib.hid (fun w1 (hw : Below w.heap.size w w1) => great_ok p c xs w1 (h.grown hw) hl)
  have HGn := Lib.hid (fun (h : greatR xs = false) => greatR_not h)
  obtain ⟨N, hNl⟩ : ∃ N, N = xs.length := ⟨_, rfl⟩
  have HI := Lib.hid h
  have HN := Lib.hid hNl
  rw [← hNl] at hl HGt ⊢
  clear h hNl hA hV hAb
  go_enter Try.func3, Try.ntmps3
  go_wp2_with fail
  refine (HA.out w).mono ?_
  rintro e w1 ⟨rfl, hb1⟩
  have HB1 := Lib.hid hb1
  clear hb1
  go_wp2_with fail
  refine (HGt.out w1 HB1.out).mono ?_
  rintro e w2 ⟨rfl, hb1⟩
  replace HB1 := Lib.hid (HB1.out.trans (hb1.mono HB1.out.size))
  clear hb1
  cases hgr : greatR xs with
  | true =>
    clear hgr
    go_wp2
    go_ret
    exact ⟨rfl, HB1.out⟩
  | false =>
    have hN60 : N ≤ 60 := by rw [HN.out]; exact (HGn.out hgr).1
    clear hgr
    go_wp2_with fail
    go_loopg [13] N (fun gh s13 wx => ∃ i : Nat, i + gh = N ∧ s13 = .int .i64 (i : Int) ∧ Below w.heap.size w wx)
    case atStart => exact ⟨0, by omega, by go_num, HB1.out⟩
    case round =>
      obtain ⟨i, hi, rfl, hb⟩ := hrel
      rename World => W1
      have HW1 := Lib.hid hb
      clear hb HB1
      by_cases hiN : i < N
      · have q1 : decide ((i : Int) < (N : Int)) = true := decide_eq_true (by omega)
        have q1' : decide (i < N) = true := decide_eq_true hiN
        obtain ⟨a, ha⟩ : ∃ a, xs[i]? = some a := ⟨_, List.getElem?_eq_getElem (by rw [← HN.out]; exact hiN)⟩
        obtain ⟨b, off, rfl, x0, x1, x2, x3, x4⟩ := (HI.out.grown HW1.out) i _ ha
        obtain ⟨W4, hW4⟩ : ∃ W4, W4 = W1.alloc (.cells #[.int .i64 a.time, .int .i64 a.region, .string a.value, .bool a.gone, .int .i64 a.life] 28) := ⟨_, rfl⟩
        have HWe := Lib.hid hW4
        have HW2 := Lib.hid (show Below w.heap.size w W4 by rw [hW4]; exact HW1.out.alloc HW1.out.size _)
        have hla : Lies W4 W1.heap.size [.int .i64 a.time, .int .i64 a.region, .string a.value, .bool a.gone, .int .i64 a.life] 28 := by rw [hW4]; exact Lies.new W1 _ _
        have HLa := Lib.hid hla
        have hz0 : Below W4.heap.size W4 W4 ∧ W4.cell? ⟨W1.heap.size, 0, none⟩ = some (.int .i64 a.time) ∧ W4.cell? ⟨W1.heap.size, 1, none⟩ = some (.int .i64 a.region) ∧ W4.cell? ⟨W1.heap.size, 2, none⟩ = some (.string a.value) ∧ W4.cell? ⟨W1.heap.size, 3, none⟩ = some (.bool a.gone) ∧ W4.cell? ⟨W1.heap.size, 4, none⟩ = some (.int .i64 a.life) := ⟨Below.refl _ _, hla.cell (i := 0) rfl, hla.cell (i := 1) rfl, hla.cell (i := 2) rfl, hla.cell (i := 3) rfl, hla.cell (i := 4) rfl⟩
        obtain ⟨A, hA⟩ : ∃ A, A = W1.heap.size := ⟨_, rfl⟩
        have HZ0 := Lib.hid hz0
        rw [← hA] at HZ0 HLa
        have HAq := Lib.hid hA
        clear ha hW4 hla hz0 hA
        go_wp2_with fail
        rw [← HWe.out, ← HAq.out]
        have hz1 := HZ0.out
        have HVa := Lib.hid (fun w => HV.out a w)
        have HRa := Lib.hid (fun w => refVisible15 a w)
        simp only [RegV.val] at HVa HRa
        go_region_held3 (fun w' => Below W4.heap.size W4 w' ∧ w'.cell? ⟨A, 0, none⟩ = some (.int .i64 a.time) ∧ w'.cell? ⟨A, 1, none⟩ = some (.int .i64 a.region) ∧ w'.cell? ⟨A, 2, none⟩ = some (.string a.value) ∧ w'.cell? ⟨A, 3, none⟩ = some (.bool a.gone) ∧ w'.cell? ⟨A, 4, none⟩ = some (.int .i64 a.life))
          (first | (refine keepFive ?_ hbb; assumption) | exact keepFive (by assumption) (Below.refl _ _).drew | exact keepFive hz1 (Below.refl _ _).drew)
          (first
            | (go_at_call 9; refine (HVa.out _).mono ?_; rintro e wn ⟨rfl, hbb⟩)
            | (go_at_call 10; refine (HRa.out _).mono ?_; rintro e wn ⟨rfl, hbb⟩))
        have hz2 : Below W4.heap.size W4 wn ∧ wn.cell? ⟨A, 0, none⟩ = some (.int .i64 a.time) ∧ wn.cell? ⟨A, 1, none⟩ = some (.int .i64 a.region) ∧ wn.cell? ⟨A, 2, none⟩ = some (.string a.value) ∧ wn.cell? ⟨A, 3, none⟩ = some (.bool a.gone) ∧ wn.cell? ⟨A, 4, none⟩ = some (.int .i64 a.life) := by assumption
        have HWn := Lib.hid (HW2.out.trans (hz2.1.mono HW2.out.size))
        have HLn := Lib.hid (show Lies wn A [.int .i64 a.time, .int .i64 a.region, .string a.value, .bool a.gone, .int .i64 a.life] 28 from HLa.out.below hz2.1)
        clear hz1 hz2 x0 x1 x2 x3 x4
        go_wp2
        go_loopg [24] N (fun gh s24 wx => ∃ k : Nat, k + gh = N ∧ s24 = .int .i64 (k : Int) ∧ Below wn.heap.size wn wx)
        case atStart => exact ⟨0, by omega, by go_num, Below.refl _ _⟩
        case round =>
          obtain ⟨k, hk, rfl, hb2⟩ := hrel
          rename World => W3
          have HW3 := Lib.hid hb2
          clear hb2
          by_cases hkN : k < N
          · have q2 : decide ((k : Int) < (N : Int)) = true := decide_eq_true (by omega)
            have q2' : decide (k < N) = true := decide_eq_true hkN
            obtain ⟨d, hbb⟩ : ∃ a, xs[k]? = some a := ⟨_, List.getElem?_eq_getElem (by rw [← HN.out]; exact hkN)⟩
            have hst := HI.out.grown (HWn.out.trans (HW3.out.mono HWn.out.size))
            obtain ⟨b', off', hp', y0, y1, y2, y3, y4⟩ := hst k _ hbb
            obtain ⟨rfl, rfl⟩ : b' = b ∧ off' = off := by simpa using hp'.symm
            obtain ⟨W5, hW5⟩ : ∃ W5, W5 = W3.alloc (.cells #[.int .i64 d.time, .int .i64 d.region, .string d.value, .bool d.gone, .int .i64 d.life] 28) := ⟨_, rfl⟩
            have HWf := Lib.hid hW5
            have hA5 : Below W3.heap.size W3 W5 := by rw [hW5]; exact (Below.refl _ _).alloc (Nat.le_refl _) _
            have HW5 := Lib.hid (HW3.out.trans (hA5.mono HW3.out.size))
            have hla := (HLn.out.below HW3.out).below hA5
            have hlb : Lies W5 W3.heap.size [.int .i64 d.time, .int .i64 d.region, .string d.value, .bool d.gone, .int .i64 d.life] 28 := by rw [hW5]; exact Lies.new W3 _ _
            obtain ⟨B, hB⟩ : ∃ B, B = W3.heap.size := ⟨_, rfl⟩
            have hlb2 : Lies W5 B [.int .i64 d.time, .int .i64 d.region, .string d.value, .bool d.gone, .int .i64 d.life] 28 := by rw [hB]; exact hlb
            have HBq := Lib.hid hB
            have HZ0 := Lib.hid (show Below W5.heap.size W5 W5 ∧ W5.cell? ⟨A, 0, none⟩ = some (.int .i64 a.time) ∧ W5.cell? ⟨A, 1, none⟩ = some (.int .i64 a.region) ∧ W5.cell? ⟨A, 2, none⟩ = some (.string a.value) ∧ W5.cell? ⟨A, 3, none⟩ = some (.bool a.gone) ∧ W5.cell? ⟨A, 4, none⟩ = some (.int .i64 a.life) ∧ W5.cell? ⟨B, 0, none⟩ = some (.int .i64 d.time) ∧ W5.cell? ⟨B, 1, none⟩ = some (.int .i64 d.region) ∧ W5.cell? ⟨B, 2, none⟩ = some (.string d.value) ∧ W5.cell? ⟨B, 3, none⟩ = some (.bool d.gone) ∧ W5.cell? ⟨B, 4, none⟩ = some (.int .i64 d.life) from ⟨Below.refl _ _, hla.cell (i := 0) rfl, hla.cell (i := 1) rfl, hla.cell (i := 2) rfl, hla.cell (i := 3) rfl, hla.cell (i := 4) rfl, hlb2.cell (i := 0) rfl, hlb2.cell (i := 1) rfl, hlb2.cell (i := 2) rfl, hlb2.cell (i := 3) rfl, hlb2.cell (i := 4) rfl⟩)
            clear hbb hst hp' hW5 hA5 hla hlb hlb2 hB
            go_wp2_with fail
            rw [← HWf.out, ← HBq.out]
            have hz1 := HZ0.out
            have HP1 := Lib.hid (fun w => HAb.out a d w)
            have HP2 := Lib.hid (fun w => HAb.out d a w)
            have HR1 := Lib.hid (fun w => refAbove15 a d w)
            simp only [RegV.val] at HP1 HP2 HR1
            have heq := fun w => eql_reg a d w
            simp only [RegV.val] at heq
            have HPb := Lib.hid (fun (u v : Value) (r : Bool) (w : World) (h : (u = (.agg #[.int .i64 a.time, .int .i64 a.region, .string a.value, .bool a.gone, .int .i64 a.life] : Value) ∧ v = (.agg #[.int .i64 d.time, .int .i64 d.region, .string d.value, .bool d.gone, .int .i64 d.life] : Value) ∧ r = above a.c d.c) ∨ (u = (.agg #[.int .i64 d.time, .int .i64 d.region, .string d.value, .bool d.gone, .int .i64 d.life] : Value) ∧ v = (.agg #[.int .i64 a.time, .int .i64 a.region, .string a.value, .bool a.gone, .int .i64 a.life] : Value) ∧ r = above d.c a.c)) => show Calls Try.prog 11 #[u, v] w (fun e w' => e = .returned (.bool r) ∧ Below w.heap.size w w') by
              rcases h with ⟨rfl, rfl, rfl⟩ | ⟨rfl, rfl, rfl⟩
              · exact HP1.out w
              · exact HP2.out w)
            clear HP1 HP2
            go_region_held3 (fun w' => Below W5.heap.size W5 w' ∧ w'.cell? ⟨A, 0, none⟩ = some (.int .i64 a.time) ∧ w'.cell? ⟨A, 1, none⟩ = some (.int .i64 a.region) ∧ w'.cell? ⟨A, 2, none⟩ = some (.string a.value) ∧ w'.cell? ⟨A, 3, none⟩ = some (.bool a.gone) ∧ w'.cell? ⟨A, 4, none⟩ = some (.int .i64 a.life) ∧ w'.cell? ⟨B, 0, none⟩ = some (.int .i64 d.time) ∧ w'.cell? ⟨B, 1, none⟩ = some (.int .i64 d.region) ∧ w'.cell? ⟨B, 2, none⟩ = some (.string d.value) ∧ w'.cell? ⟨B, 3, none⟩ = some (.bool d.gone) ∧ w'.cell? ⟨B, 4, none⟩ = some (.int .i64 d.life))
              (first | (refine keepTen ?_ hbb; assumption) | exact keepTen (by assumption) (Below.refl _ _).drew | exact keepTen hz1 (Below.refl _ _).drew)
              (first
                | (go_at_call 11; refine (HPb.out _ _ _ _ (by first | exact .inl ⟨rfl, rfl, rfl⟩ | exact .inr ⟨rfl, rfl, rfl⟩)).mono ?_; rintro e wn2 ⟨rfl, hbb⟩)
                | (go_at_call 12; refine (HR1.out _).mono ?_; rintro e wn2 ⟨rfl, hbb⟩))
            have hz2 : Below W5.heap.size W5 wn2 ∧ wn2.cell? ⟨A, 0, none⟩ = some (.int .i64 a.time) ∧ wn2.cell? ⟨A, 1, none⟩ = some (.int .i64 a.region) ∧ wn2.cell? ⟨A, 2, none⟩ = some (.string a.value) ∧ wn2.cell? ⟨A, 3, none⟩ = some (.bool a.gone) ∧ wn2.cell? ⟨A, 4, none⟩ = some (.int .i64 a.life) ∧ wn2.cell? ⟨B, 0, none⟩ = some (.int .i64 d.time) ∧ wn2.cell? ⟨B, 1, none⟩ = some (.int .i64 d.region) ∧ wn2.cell? ⟨B, 2, none⟩ = some (.string d.value) ∧ wn2.cell? ⟨B, 3, none⟩ = some (.bool d.gone) ∧ wn2.cell? ⟨B, 4, none⟩ = some (.int .i64 d.life) := by assumption
            have HZ2 := Lib.hid (HW5.out.trans (hz2.1.mono HW5.out.size))
            clear hz1 hz2
            rw [one_above a d]
            go_wp2
            rw [HBq.out]
            go_roundg (N - (k + 1))
            case measure => omega
            case rel => exact ⟨k + 1, by omega, by go_num, HZ2.out⟩
          · have q2 : decide ((k : Int) < (N : Int)) = false := decide_eq_false (by omega)
            have q2' : decide (k < N) = false := decide_eq_false hkN
            go_wp2
            go_roundg (N - (i + 1))
            case measure => omega
            case rel => exact ⟨i + 1, by omega, by go_num, HWn.out.trans (HW3.out.mono HWn.out.size)⟩
      · have q1 : decide ((i : Int) < (N : Int)) = false := decide_eq_false (by omega)
        have q1' : decide (i < N) = false := decide_eq_false hiN
        go_wp2
        go_ret
        exact ⟨rfl, HW1.out⟩
end Go.Proofs.Ytkoojfpafgkgiaa
