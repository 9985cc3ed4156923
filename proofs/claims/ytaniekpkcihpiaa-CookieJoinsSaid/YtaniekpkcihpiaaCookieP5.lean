/-
  The contract of the program's Write of chapter 13. The conditions: those typed.
-/
import Derived.Test.YtaniekpkcihpiaaCookieP3
import Derived.Test.YtaniekpkcihpiaaCookieRefWrite
import Derived.Test.YtaniekpkcihpiaaHoldsQ
import Derived.Deep.Cut
import Derived.Deep.CutRange
namespace Go.Proofs.Ytaniekpkcihpiaa
open Go.RowKit TextNat CookieMath

/-- The header of the first i pairs, as numbers. -/
def headN (xs : List PairV) (i : Nat) : List Nat := header ((xs.take i).map PairV.n)
theorem headN_len (xs : List PairV) (i : Nat) : (headN xs i).length ≤ total (xs.map PairV.n) := by
  have := headTo_size xs i
  unfold headTo at this
  rw [txt_len] at this
  exact this
theorem headN_all {xs : List PairV} {i : Nat} (h : xs.length ≤ i) : headN xs i = header (xs.map PairV.n) := by
  unfold headN
  rw [List.take_of_length_le h]
set_option maxRecDepth 100000 in
set_option maxHeartbeats 16000000 in
theorem writeOk : WriteOk := by
  intro pp cap xs w hx hl hcap ht hs
  obtain ⟨N, hN⟩ : ∃ N, N = xs.length := ⟨_, rfl⟩
  rw [← hN] at hl ⊢
  have hN9 : N ≤ 9223372036854775807 := Nat.le_trans hl hcap
  have HN := Lib.hid hN
  have HX := Lib.hid hx
  have HS := Lib.hid hs
  have HT := Lib.hid ht
  have HZ := Lib.hid (headN_len xs)
  obtain ⟨B, hB⟩ : ∃ B, B = w.heap.size := ⟨_, rfl⟩
  obtain ⟨W0, hW0⟩ : ∃ W0, W0 = w.alloc (.cells #[.pointer none, .slice none 0 0] 41) := ⟨_, rfl⟩
  have HH0 := Lib.hid (show HoldsS W0 B [] by rw [hW0, hB]; exact HoldsS.new w)
  have HB0 := Lib.hid (show Below B w W0 by rw [hW0, hB]; exact (Below.refl _ _).alloc (Nat.le_refl _) _)
  have HB := Lib.hid hB
  have HW0 := Lib.hid hW0
  clear hN hx hl hcap hs ht hW0 hB
  go_enter Try.func6, Try.ntmps6
  go_wp2_with fail
  rw [← HW0.out, ← HB.out]
  go_loopg [9] N (fun gh s9 wx => ∃ i : Nat, i + gh = N ∧ s9 = .int .i64 (i : Int) ∧ Hid (∀ j b, j < i → xs[j]? = some b → rightV b = true) ∧ Hid (HoldsS wx B (headN xs i)) ∧ Hid (Below B w wx))
  case atStart => exact ⟨0, by omega, by go_num, Lib.hid (fun j b hj => absurd hj (Nat.not_lt_zero j)), Lib.hid HH0.out, Lib.hid HB0.out⟩
  case round =>
    obtain ⟨i, hi, rfl, HR, HH, HB1⟩ := hrel
    rename World => W
    by_cases hlt : i < N
    case neg =>
      have t1 : decide ((i : Int) < (N : Int)) = false := decide_eq_false (by omega)
      have t1' : decide (i < N) = false := decide_eq_false hlt
      have HBn := Lib.hid (bad_no HR.out (show xs.length ≤ i by rw [← HN.out]; omega))
      have HAll := Lib.hid (headN_all (show xs.length ≤ i by rw [← HN.out]; omega))
      clear hlt hi
      go_wp2_with fail
      refine (builder_told _ B W HH.out (by rw [HB.out]; exact HB1.out.size)).mono ?_
      rintro e w2 ⟨rfl, hb⟩
      have HB2 := Lib.hid (HB1.out.trans hb)
      clear hb
      go_wp2
      go_ret2
      refine ⟨?_, by rw [← HB.out]; exact HB2.out⟩
      unfold WriteIs
      rw [HBn.out, ← HAll.out]
      rfl
    case pos =>
      have t1 : decide ((i : Int) < (N : Int)) = true := decide_eq_true (by omega)
      have t1' : decide (i < N) = true := decide_eq_true hlt
      obtain ⟨x, hx⟩ : ∃ x, xs[i]? = some x := ⟨_, List.getElem?_eq_getElem (by rw [← HN.out]; exact hlt)⟩
      obtain ⟨b1, o1, rfl⟩ := HX.out.addr (by rw [← HN.out]; omega)
      obtain ⟨c0, c1⟩ := (HX.out.grown (show Below w.heap.size w W by rw [← HB.out]; exact HB1.out)).look hx
      have hsz := HS.out x (List.mem_of_getElem? hx)
      have HBd := Lib.hid (fun h => bad_at HR.out hx h)
      have HRt := Lib.hid (show rightV x = (TextMath.token (nats x.1) && (nats x.2).all TextMath.octet) from rfl)
      have H1 := Lib.hid (fun w1 => token_same x.1 w1 hsz.1)
      have H2 := Lib.hid (fun w1 => octets_same x.2 w1 hsz.2)
      have HSn := Lib.hid (fun h => show ∀ j b, j < i + 1 → xs[j]? = some b → rightV b = true from fun j b hj hb => by
        by_cases e : j < i
        · exact HR.out j b e hb
        · obtain rfl : j = i := by omega
          obtain rfl := Option.some.inj (hx.symm.trans hb)
          exact h)
      have HF0 := Lib.hid (fun (h : i = 0) => show headTo xs i ++ x.1 ++ ⟨#[61]⟩ ++ x.2 = headTo xs (i + 1) by subst h; exact headTo_one hx)
      have HF1 := Lib.hid (fun (h : 0 < i) => headTo_step h hx)
      have HLn := Lib.hid (show (headTo xs i).size ≤ 1000000 from Nat.le_trans (headTo_size xs i) HT.out)
      have HI := Lib.hid hi
      have HLt := Lib.hid hlt
      obtain ⟨x1, x2⟩ := x
      simp only at c0 c1 hsz H1 H2 HRt HF0 HF1
      have HSz := Lib.hid hsz
      have HL1 := Lib.hid (Lies.new W [.string x1, .string x2] 24)
      have HB2 := Lib.hid (show Below B w (W.alloc (.cells #[.string x1, .string x2] 24)) from HB1.out.alloc (by rw [HB.out]; exact HB1.out.size) _)
      have HH2 := Lib.hid ((show HoldsQ W B W.heap.size (headTo xs i) from HoldsQ.of HH.out (Nat.le_refl _)).below ((Below.refl _ W).alloc (Nat.le_refl _) (.cells #[.string x1, .string x2] 24)))
      obtain ⟨W2, hW2⟩ : ∃ W2, W2 = W.alloc (.cells #[.string x1, .string x2] 24) := ⟨_, rfl⟩
      obtain ⟨qb, hqb⟩ : ∃ qb, qb = W.heap.size := ⟨_, rfl⟩
      have HW2 := Lib.hid hW2
      have HQ := Lib.hid hqb
      clear hx hsz hi hW2 hqb
      go_upto_region 5 with fail
      rw [← HW2.out, ← HQ.out]
      replace HL1 := Lib.hid (show Lies W2 qb [.string x1, .string x2] 24 by rw [HW2.out, HQ.out]; exact HL1.out)
      rw [← HW2.out] at HB2 HH2
      rw [← HQ.out] at HH2
      have HQB := Lib.hid (show qb ≠ B by rw [HQ.out, HB.out]; exact fun e => by have := holdsS_lt HH.out; have := HB.out; omega)
      clear c0 c1
      have c0 := HL1.out.cell (i := 0) rfl
      have c1 := HL1.out.cell (i := 1) rfl
      cases b1t : TextMath.token (nats x1) with
      | false =>
        have HBn := Lib.hid (HBd.out (by rw [HRt.out, b1t]; rfl))
        rw [b1t] at H1
        have HE := Lib.hid (ck_err (i : Int) 1 W2)
        clear b1t
        go_wp2_with (first
          | (go_at_call 11; refine (H1.out _).mono ?_; rintro e w2 ⟨rfl, hw⟩; rw [hw]; clear hw)
          | (go_at_call 13; refine HE.out.mono ?_; rintro e w3 ⟨⟨y, rfl, hy⟩, hb⟩; have HY := Lib.hid hy; have HB3 := Lib.hid (HB2.out.trans (hb.mono (Nat.le_trans (Nat.le_of_eq HB.out) HB2.out.size))); clear hy hb))
        go_ret2
        refine ⟨?_, by rw [← HB.out]; exact HB3.out⟩
        unfold WriteIs
        rw [HBn.out]
        exact ⟨_, rfl, HY.out⟩
      | true =>
        cases b2t : (nats x2).all TextMath.octet with
        | false =>
          have HBn := Lib.hid (HBd.out (by rw [HRt.out, b1t, b2t]; rfl))
          rw [b1t] at H1
          rw [b2t] at H2
          have HE := Lib.hid (ck_err (i : Int) 1 W2)
          clear b1t b2t
          go_wp2_with (first
            | (go_at_call 11; refine (H1.out _).mono ?_; rintro e w2 ⟨rfl, hw⟩; rw [hw]; clear hw)
            | (go_at_call 12; refine (H2.out _).mono ?_; rintro e w2 ⟨rfl, hw⟩; rw [hw]; clear hw)
            | (go_at_call 13; refine HE.out.mono ?_; rintro e w3 ⟨⟨y, rfl, hy⟩, hb⟩; have HY := Lib.hid hy; have HB3 := Lib.hid (HB2.out.trans (hb.mono (Nat.le_trans (Nat.le_of_eq HB.out) HB2.out.size))); clear hy hb))
          go_ret2
          refine ⟨?_, by rw [← HB.out]; exact HB3.out⟩
          unfold WriteIs
          rw [HBn.out]
          exact ⟨_, rfl, HY.out⟩
        | true =>
          have HSn2 := Lib.hid (HSn.out (by rw [HRt.out, b1t, b2t]; rfl))
          rw [b1t] at H1
          rw [b2t] at H2
          clear b1t b2t
          obtain ⟨A, hA⟩ : ∃ A, A = headTo xs i := ⟨_, rfl⟩
          rw [← hA] at HF0 HF1 HLn HH2
          clear hA
          by_cases h0 : i = 0
          · have g1 : decide ((0 : Int) < (i : Int)) = false := decide_eq_false (by omega)
            have g1' : decide (0 < i) = false := decide_eq_false (by omega)
            have HN1 := Lib.hid (HF0.out h0)
            obtain ⟨A1, hA1⟩ : ∃ A1, A1 = A := ⟨_, rfl⟩
            rw [← hA1] at HN1 HH2
            have HA1 := Lib.hid (show A1.size ≤ 1000002 by rw [hA1]; have := HLn.out; omega)
            have HQ1 := HH2
            have HB3 := HB2
            obtain ⟨w3, hw3⟩ : ∃ w3, w3 = W2 := ⟨_, rfl⟩
            clear h0 hA1 HF0 HF1
            go_wp2_with (first
              | (go_at_call 11; refine (H1.out _).mono ?_; rintro e w2 ⟨rfl, hw⟩; rw [hw]; clear hw)
              | (go_at_call 12; refine (H2.out _).mono ?_; rintro e w2 ⟨rfl, hw⟩; rw [hw]; clear hw)
              | fail)
            rw [← hw3]
            rw [← hw3] at HQ1 HB3 HL1 c0 c1
            clear hw3
            refine (put_q A1 x1 B qb w3 HQ1.out (by have := HA1.out; have := HSz.out.1; omega) (Lies.lt HL1.out) HQB.out).mono ?_
            rintro e w4 ⟨⟨v, rfl⟩, hh, hq, hb⟩
            have HQ2 := Lib.hid hh
            replace HL1 := Lib.hid (show Lies w4 qb [.string x1, .string x2] 24 from hq.trans HL1.out)
            have HB4 := Lib.hid (HB3.out.trans hb)
            obtain ⟨A2, hA2⟩ : ∃ A2, A2 = A1 ++ x1 := ⟨_, rfl⟩
            rw [← hA2] at HN1 HQ2
            have HA2 := Lib.hid (show A2.size ≤ 1020002 by rw [hA2, ByteArray.size_append]; have := HA1.out; have := HSz.out.1; omega)
            clear hh hq hb hA2 c0 c1
            have c0 := HL1.out.cell (i := 0) rfl
            have c1 := HL1.out.cell (i := 1) rfl
            go_wp2_with fail
            refine (put_q A2 ⟨#[61]⟩ B qb w4 HQ2.out (by have := HA2.out; show A2.size + 1 ≤ 9000000; omega) (Lies.lt HL1.out) HQB.out).mono ?_
            rintro e w5 ⟨⟨v, rfl⟩, hh, hq, hb⟩
            have HQ3 := Lib.hid hh
            replace HL1 := Lib.hid (show Lies w5 qb [.string x1, .string x2] 24 from hq.trans HL1.out)
            have HB5 := Lib.hid (HB4.out.trans hb)
            obtain ⟨A3, hA3⟩ : ∃ A3, A3 = A2 ++ ⟨#[61]⟩ := ⟨_, rfl⟩
            rw [← hA3] at HN1 HQ3
            have HA3 := Lib.hid (show A3.size ≤ 1020003 by rw [hA3, ByteArray.size_append]; have := HA2.out; show A2.size + 1 ≤ _; omega)
            clear hh hq hb hA3 c0 c1
            have c0 := HL1.out.cell (i := 0) rfl
            have c1 := HL1.out.cell (i := 1) rfl
            go_wp2_with fail
            refine (put_q A3 x2 B qb w5 HQ3.out (by have := HA3.out; have := HSz.out.2; omega) (Lies.lt HL1.out) HQB.out).mono ?_
            rintro e w6 ⟨⟨v, rfl⟩, hh, hq, hb⟩
            have HH6 := Lib.hid (show HoldsS w6 B (headN xs (i + 1)) by rw [HN1.out] at hh; exact hh.holds)
            have HB6 := Lib.hid (HB5.out.trans hb)
            clear hh hq hb c0 c1
            go_wp2_with fail
            go_roundg (N - (i + 1))
            case measure => have := HLt.out; have := HI.out; omega
            case rel => exact ⟨i + 1, by have := HLt.out; have := HI.out; omega, by go_num, Lib.hid HSn2.out, HH6, HB6⟩
          · have g1 : decide ((0 : Int) < (i : Int)) = true := decide_eq_true (by omega)
            have g1' : decide (0 < i) = true := decide_eq_true (by omega)
            have HN1 := Lib.hid (HF1.out (by omega))
            clear h0 HF0 HF1
            go_wp2_with (first
              | (go_at_call 11; refine (H1.out _).mono ?_; rintro e w2 ⟨rfl, hw⟩; rw [hw]; clear hw)
              | (go_at_call 12; refine (H2.out _).mono ?_; rintro e w2 ⟨rfl, hw⟩; rw [hw]; clear hw)
              | fail)
            refine (put_q A ⟨#[59, 32]⟩ B qb W2 HH2.out (by have := HLn.out; show A.size + 2 ≤ 9000000; omega) (Lies.lt HL1.out) HQB.out).mono ?_
            rintro e w3 ⟨⟨v, rfl⟩, hh, hq, hb⟩
            have HQ1 := Lib.hid hh
            replace HL1 := Lib.hid (show Lies w3 qb [.string x1, .string x2] 24 from hq.trans HL1.out)
            have HB3 := Lib.hid (HB2.out.trans hb)
            obtain ⟨A1, hA1⟩ : ∃ A1, A1 = A ++ ⟨#[59, 32]⟩ := ⟨_, rfl⟩
            rw [← hA1] at HN1 HQ1
            have HA1 := Lib.hid (show A1.size ≤ 1000002 by rw [hA1, ByteArray.size_append]; have := HLn.out; show A.size + 2 ≤ _; omega)
            clear hh hq hb hA1 c0 c1
            have c0 := HL1.out.cell (i := 0) rfl
            have c1 := HL1.out.cell (i := 1) rfl
            go_wp2_with fail
            refine (put_q A1 x1 B qb w3 HQ1.out (by have := HA1.out; have := HSz.out.1; omega) (Lies.lt HL1.out) HQB.out).mono ?_
            rintro e w4 ⟨⟨v, rfl⟩, hh, hq, hb⟩
            have HQ2 := Lib.hid hh
            replace HL1 := Lib.hid (show Lies w4 qb [.string x1, .string x2] 24 from hq.trans HL1.out)
            have HB4 := Lib.hid (HB3.out.trans hb)
            obtain ⟨A2, hA2⟩ : ∃ A2, A2 = A1 ++ x1 := ⟨_, rfl⟩
            rw [← hA2] at HN1 HQ2
            have HA2 := Lib.hid (show A2.size ≤ 1020002 by rw [hA2, ByteArray.size_append]; have := HA1.out; have := HSz.out.1; omega)
            clear hh hq hb hA2 c0 c1
            have c0 := HL1.out.cell (i := 0) rfl
            have c1 := HL1.out.cell (i := 1) rfl
            go_wp2_with fail
            refine (put_q A2 ⟨#[61]⟩ B qb w4 HQ2.out (by have := HA2.out; show A2.size + 1 ≤ 9000000; omega) (Lies.lt HL1.out) HQB.out).mono ?_
            rintro e w5 ⟨⟨v, rfl⟩, hh, hq, hb⟩
            have HQ3 := Lib.hid hh
            replace HL1 := Lib.hid (show Lies w5 qb [.string x1, .string x2] 24 from hq.trans HL1.out)
            have HB5 := Lib.hid (HB4.out.trans hb)
            obtain ⟨A3, hA3⟩ : ∃ A3, A3 = A2 ++ ⟨#[61]⟩ := ⟨_, rfl⟩
            rw [← hA3] at HN1 HQ3
            have HA3 := Lib.hid (show A3.size ≤ 1020003 by rw [hA3, ByteArray.size_append]; have := HA2.out; show A2.size + 1 ≤ _; omega)
            clear hh hq hb hA3 c0 c1
            have c0 := HL1.out.cell (i := 0) rfl
            have c1 := HL1.out.cell (i := 1) rfl
            go_wp2_with fail
            refine (put_q A3 x2 B qb w5 HQ3.out (by have := HA3.out; have := HSz.out.2; omega) (Lies.lt HL1.out) HQB.out).mono ?_
            rintro e w6 ⟨⟨v, rfl⟩, hh, hq, hb⟩
            have HH6 := Lib.hid (show HoldsS w6 B (headN xs (i + 1)) by rw [HN1.out] at hh; exact hh.holds)
            have HB6 := Lib.hid (HB5.out.trans hb)
            clear hh hq hb c0 c1
            go_wp2_with fail
            go_roundg (N - (i + 1))
            case measure => have := HLt.out; have := HI.out; omega
            case rel => exact ⟨i + 1, by have := HLt.out; have := HI.out; omega, by go_num, Lib.hid HSn2.out, HH6, HB6⟩
end Go.Proofs.Ytaniekpkcihpiaa
