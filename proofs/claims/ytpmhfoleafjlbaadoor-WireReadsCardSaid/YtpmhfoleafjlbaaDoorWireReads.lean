/-
  The contract of chapter 5's law WireReads: of any bytes and any asks it answers true; old memory is as it was. The conditions: the asks' cells; the variable errors.errorType reads as the type error's own handle.
-/
import Derived.Test.YtpmhfoleafjlbaaDoorAsksOpen
import Derived.Test.YtpmhfoleafjlbaaDoorSameVec
import Derived.Test.YtpmhfoleafjlbaaDoorWireAwake
import Derived.Test.YtpmhfoleafjlbaaDoorWireTold
import Derived.Test.YtpmhfoleafjlbaaDoorRefInText
import Derived.Test.YtpmhfoleafjlbaaDoorRefVec
namespace Go.Proofs.YtpmhfoleafjlbaaDoor
open Go.RowKit TextNat

theorem readVec_len16 (l : List Nat) (st : WireMath.At) : (WireMath.readVec l st).1.length ≤ 16 := by
  obtain ⟨a, bad⟩ := st
  cases bad with
  | some b => exact Nat.zero_le _
  | none =>
    unfold WireMath.readVec
    simp only
    split
    · exact Nat.zero_le _
    · split
      · rename_i h
        exact (WireMath.trimmed_counts h).1
      · exact Nat.zero_le _
set_option maxRecDepth 100000 in
set_option maxHeartbeats 4000000 in
theorem reads_true (s : ByteArray) (xs : List (Int × Int)) (pp : Option Addr) (cap : Nat) (w : World) (hI : AsksIn w pp xs) (hc : xs.length ≤ cap) (hm : cap ≤ 9223372036854775807) (hsm : s.size ≤ 9223372036854775807) (hg : Handle w) :
    Calls Tryd.prog 4 #[.string s, .slice pp xs.length cap] w fun e w' => e = .returned (.bool true) ∧ Below w.heap.size w w' := by
  have HA := Lib.hid (fun w1 => awake_true w1)
  have HI := Lib.hid hI
  have HG := Lib.hid hg
  obtain ⟨N, hN⟩ : ∃ N, N = xs.length := ⟨_, rfl⟩
  rw [← hN]
  have HN := Lib.hid hN
  have hNm : N ≤ 9223372036854775807 := by omega
  clear hI hg hN
  by_cases h : 100000 < s.size
  · have t1 : decide (100000 < s.size) = true := decide_eq_true h
    have t2 : decide ((100000 : Int) < (s.size : Int)) = true := decide_eq_true (by omega)
    go_enter Tryd.func4, Tryd.ntmps4
    go_wp2_with (go_at_call 5; refine (HA.out _).mono ?_; rintro e w2 ⟨rfl, hb2⟩)
    go_ret
    exact ⟨rfl, hb2⟩
  · have t1 : decide (100000 < s.size) = false := decide_eq_false h
    have t2 : decide ((100000 : Int) < (s.size : Int)) = false := decide_eq_false (by omega)
    have hs2 : s.size ≤ 200000 := by omega
    have HS := Lib.hid hs2
    have HR1 := Lib.hid (fun w1 => inRead_ok s w1)
    have HR2 := Lib.hid (fun w1 => refRead s w1)
    go_enter Tryd.func4, Tryd.ntmps4
    go_wp2_with fail
    refine (HA.out _).mono ?_
    rintro e w2 ⟨rfl, hb2⟩
    have HB2 := Lib.hid hb2
    clear hb2
    go_wp2_with fail
    refine (HR1.out _).mono ?_
    rintro e w3 ⟨rfl, hi3, hb3, hz3⟩
    have HB3 := Lib.hid (HB2.out.trans (hb3.mono HB2.out.size))
    have HI3 := Lib.hid hi3
    obtain ⟨ib, hib⟩ : ∃ ib, ib = w2.heap.size := ⟨_, rfl⟩
    rw [← hib] at HI3 ⊢
    have hib1 : w.heap.size ≤ ib := by rw [hib]; exact HB2.out.size
    have hib2 : ib < w3.heap.size := by omega
    clear hi3 hb3 hz3 hib
    go_wp2_with fail
    refine (HR2.out _).mono ?_
    rintro e w4 ⟨rfl, hi4, hb4, hz4⟩
    have HB4 := Lib.hid (HB3.out.trans (hb4.mono HB3.out.size))
    have HJ4 := Lib.hid hi4
    have HI4 := Lib.hid (HI3.out.below hb4)
    obtain ⟨rb, hrb⟩ : ∃ rb, rb = w3.heap.size := ⟨_, rfl⟩
    rw [← hrb] at HJ4 ⊢
    have hrb1 : w.heap.size ≤ rb := by omega
    have hne : ib ≠ rb := by omega
    clear hi4 hb4 hz4 hrb hib2 HB2 HB3 HI3
    go_wp2_with fail
    go_loopg [8] N (fun gh s8 wx => ∃ i : Nat, i + gh = N ∧ s8 = .int .i64 (i : Int) ∧ (∃ st, InAt wx ib s st ∧ RefAt wx rb s st ∧ st.at_ ≤ s.size) ∧ Below w.heap.size w wx)
    case atStart => exact ⟨0, by omega, by go_num, ⟨⟨0, none⟩, HI4.out, HJ4.out, Nat.zero_le _⟩, HB4.out⟩
    case round =>
      obtain ⟨i, hi, rfl, ⟨st, hin, hrf, hat⟩, hb⟩ := hrel
      have HIr := Lib.hid hin
      have HJr := Lib.hid hrf
      have HBr := Lib.hid hb
      clear hin hrf hb HI4 HJ4 HB4
      by_cases hiN : i < N ∧ i < 300
      · have t3 : decide ((i : Int) < (N : Int)) = true := decide_eq_true (by omega)
        have t3' : decide (i < N) = true := decide_eq_true hiN.1
        have t4 : decide ((i : Int) < 300) = true := decide_eq_true (by omega)
        have t4' : decide (i < 300) = true := decide_eq_true hiN.2
        obtain ⟨x, hx⟩ : ∃ x, xs[i]? = some x := ⟨_, List.getElem?_eq_getElem (by rw [← HN.out]; exact hiN.1)⟩
        obtain ⟨b, off, rfl, c0, c1⟩ := HI.out.grown HBr.out i x hx
        obtain ⟨xk, xm⟩ := x
        replace c0 : wr.cell? ⟨b, off + i * 2, none⟩ = some (.int .i64 xk) := c0
        replace c1 : wr.cell? ⟨b, off + i * 2 + 1, none⟩ = some (.int .i64 xm) := c1
        clear hx
        by_cases k1 : xk = 1
        · obtain ⟨v, st1, hst⟩ : ∃ v st1, WireMath.readText (nats s) st xm = (v, st1) := ⟨_, _, rfl⟩
          have hle : st1.at_ ≤ s.size := by have := readText_le (nats s) st xm (nats_lt s) (by rw [nats_len]; exact hat); rw [hst, nats_len] at this; exact this
          have HP := Lib.hid (fun w1 (h : InAt w1 ib s st) => (show Calls Tryd.prog 18 #[.pointer (some ⟨ib, 0, none⟩), .int .i64 xm] w1 fun e w' => e = .returned (.string (txt v)) ∧ InAt w' ib s st1 ∧ But ib w1 w' by have := inText_ok ib s st xm w1 h HS.out hat; rw [hst] at this; exact this))
          have HQ := Lib.hid (fun w1 (h : RefAt w1 rb s st) => (show Calls Tryd.prog 19 #[.pointer (some ⟨rb, 0, none⟩), .int .i64 xm] w1 fun e w' => e = .returned (.string (txt v)) ∧ RefAt w' rb s st1 ∧ But rb w1 w' by have := refText rb s st xm w1 h HS.out hat; rw [hst] at this; exact this))
          obtain ⟨T, hT⟩ : ∃ T, T = txt v := ⟨_, rfl⟩
          rw [← hT] at HP HQ
          clear hst hat hT
          obtain ⟨a1, bad1⟩ := st1
          have ha1 : a1 ≤ s.size := hle
          clear hle
          have HL := Lib.hid (fun w1 (h : InAt w1 ib s ⟨a1, bad1⟩) => inLeft_ok ib s ⟨a1, bad1⟩ w1 h HS.out ha1)
          have HE := Lib.hid (fun w1 (h : InAt w1 ib s ⟨a1, bad1⟩) => inEnd_ok ib s ⟨a1, bad1⟩ w1 h)
          have HF := Lib.hid (fun w1 (h : RefAt w1 rb s ⟨a1, bad1⟩) => refFault rb s ⟨a1, bad1⟩ w1 h)
          subst k1
          cases bad1 with
          | some b1 =>
            have hfa : WireMath.faultAt (nats s) ⟨a1, some b1⟩ = some b1 := rfl
            have HF2 := Lib.hid (fun w1 (h : RefAt w1 rb s ⟨a1, some b1⟩) => (show Calls Tryd.prog 27 #[.pointer (some ⟨rb, 0, none⟩)] w1 fun e w' => e = .returned (.int .i64 ((b1 : Int))) ∧ ∃ n, w' = w1.drewN n by have := HF.out w1 h; rw [hfa] at this; exact this))
            have HL2 := Lib.hid (fun w1 (h : InAt w1 ib s ⟨a1, some b1⟩) => (show Calls Tryd.prog 28 #[.pointer (some ⟨ib, 0, none⟩)] w1 fun e w' => e = .returned (.int .i64 (0 : Int)) ∧ ∃ n, w' = w1.drewN n from HL.out w1 h))
            have HE2 := Lib.hid (fun w1 (h : InAt w1 ib s ⟨a1, some b1⟩) => (HE.out w1 h).mono (R' := fun e w' => (∃ T v, e = .returned (.iface T v) ∧ Chain w'.heap.size w' [(⟨#[119, 105, 114, 101]⟩, ((b1 : Int)))] (.iface 40 (.int .i64 (2 : Int))) (.iface T v)) ∧ Below w1.heap.size w1 w') (by
              rintro e w' ⟨he, hb⟩
              refine ⟨?_, hb⟩
              unfold EndIs at he
              rw [hfa] at he
              obtain ⟨r, h1, h2⟩ := he
              obtain ⟨T, v, rfl⟩ := h2.some
              exact ⟨T, v, h1, h2⟩))
            clear hfa
            go_wp2_with fail
            refine (HP.out _ HIr.out).mono ?_
            rintro e w5 ⟨rfl, hi5, hb5⟩
            have HBc := Lib.hid (HBr.out.trans ((hb5.below (Nat.le_of_lt HIr.out.lt)).mono hib1))
            have HJc := Lib.hid (HJr.out.keep hb5 hne.symm)
            have HId := Lib.hid hi5
            clear hi5 hb5 c0 c1
            go_wp2_with fail
            refine (HQ.out _ HJc.out).mono ?_
            rintro e w7 ⟨rfl, hj7, hb7⟩
            replace HBc := Lib.hid (HBc.out.trans ((hb7.below (Nat.le_of_lt HJc.out.lt)).mono hrb1))
            replace HId := Lib.hid (HId.out.keep hb7 hne)
            have HJd := Lib.hid hj7
            clear hj7 hb7
            go_wp2_with fail
            refine (inTextNil_ok _ _).mono ?_
            rintro e w6 ⟨rfl, rfl⟩
            have e0 := HJd.out.text
            have e1 : w6.cell? ⟨rb, 1, none⟩ = some (.int .i64 (a1 : Int)) := HJd.out.at_
            have e2 : w6.cell? ⟨rb, 2, none⟩ = some (.int .i64 ((b1 : Int))) := HJd.out.bad
            have t5 : decide ((0 : Int) ≤ (b1 : Int)) = true := decide_eq_true (by omega)
            have t6 : decide ((b1 : Int) < 0) = false := decide_eq_false (by omega)
            go_wp2_with fail
            go_quiet (fail)
            go_wp2_with (first
              | (go_at_call 27; refine (HF2.out _ (HJd.out.drewN _)).mono ?_; rintro e w8 ⟨rfl, n8, rfl⟩)
              | (go_at_call 28; refine (HL2.out _ (HId.out.drewN _)).mono ?_; rintro e w9 ⟨rfl, n9, rfl⟩)
              | (go_at_call 29; refine (HE2.out _ (HId.out.drewN _)).mono ?_; rintro e w11 ⟨⟨T9, v9, rfl, hc⟩, hb⟩; have HC := Lib.hid hc; have HBe := Lib.hid ((HBc.out.trans (below_drewN _ _ _)).trans (Below.mono hb HBc.out.size)); have HIe := Lib.hid (InAt.below (HId.out.drewN _) hb); have HJe := Lib.hid (RefAt.below (HJd.out.drewN _) hb); clear hc hb)
              | (go_at_call 14; refine (told_some _ 2 _ _ HC.out (by omega) (HG.out.below HBe.out HG.out.lt)).mono ?_; rintro e w12 ⟨rfl, hb12⟩; replace HIe := Lib.hid (HIe.out.below hb12); replace HJe := Lib.hid (HJe.out.below hb12); replace HBe := Lib.hid (HBe.out.trans (Below.mono hb12 HBe.out.size)); clear hb12))
            go_roundg (N - (i + 1))
            case measure => omega
            case rel => exact ⟨i + 1, by omega, by go_num, ⟨⟨a1, some b1⟩, HIe.out, HJe.out, ha1⟩, HBe.out⟩
          | none =>
            by_cases hlt : a1 < s.size
            · obtain ⟨lf, hlf⟩ : ∃ lf, lf = s.size - a1 := ⟨_, rfl⟩
              have hlo : leftOf s ⟨a1, none⟩ = lf := by rw [hlf]; rfl
              rw [hlo] at HL
              have f3 : (s.size : Int) - (a1 : Int) = (lf : Int) := by omega
              have hlf2 : lf < 9223372036854775808 := by omega
              have f4 : wrap64 ((s.size : Int) - (a1 : Int)) = (lf : Int) := by rw [f3]; exact wrap64_nat lf hlf2
              clear hlo hlf hlf2
              have hfa : WireMath.faultAt (nats s) ⟨a1, none⟩ = some a1 := by unfold WireMath.faultAt; simp only; rw [nats_len, if_pos hlt]
              have HF2 := Lib.hid (fun w1 (h : RefAt w1 rb s ⟨a1, none⟩) => (show Calls Tryd.prog 27 #[.pointer (some ⟨rb, 0, none⟩)] w1 fun e w' => e = .returned (.int .i64 ((a1 : Int))) ∧ ∃ n, w' = w1.drewN n by have := HF.out w1 h; rw [hfa] at this; exact this))
              have HL2 := Lib.hid (fun w1 (h : InAt w1 ib s ⟨a1, none⟩) => (show Calls Tryd.prog 28 #[.pointer (some ⟨ib, 0, none⟩)] w1 fun e w' => e = .returned (.int .i64 ((lf : Nat) : Int)) ∧ ∃ n, w' = w1.drewN n from HL.out w1 h))
              have HE2 := Lib.hid (fun w1 (h : InAt w1 ib s ⟨a1, none⟩) => (HE.out w1 h).mono (R' := fun e w' => (∃ T v, e = .returned (.iface T v) ∧ Chain w'.heap.size w' [(⟨#[119, 105, 114, 101]⟩, ((a1 : Int)))] (.iface 40 (.int .i64 (2 : Int))) (.iface T v)) ∧ Below w1.heap.size w1 w') (by
                rintro e w' ⟨he, hb⟩
                refine ⟨?_, hb⟩
                unfold EndIs at he
                rw [hfa] at he
                obtain ⟨r, h1, h2⟩ := he
                obtain ⟨T, v, rfl⟩ := h2.some
                exact ⟨T, v, h1, h2⟩))
              clear hfa
              go_wp2_with fail
              refine (HP.out _ HIr.out).mono ?_
              rintro e w5 ⟨rfl, hi5, hb5⟩
              have HBc := Lib.hid (HBr.out.trans ((hb5.below (Nat.le_of_lt HIr.out.lt)).mono hib1))
              have HJc := Lib.hid (HJr.out.keep hb5 hne.symm)
              have HId := Lib.hid hi5
              clear hi5 hb5 c0 c1
              go_wp2_with fail
              refine (HQ.out _ HJc.out).mono ?_
              rintro e w7 ⟨rfl, hj7, hb7⟩
              replace HBc := Lib.hid (HBc.out.trans ((hb7.below (Nat.le_of_lt HJc.out.lt)).mono hrb1))
              replace HId := Lib.hid (HId.out.keep hb7 hne)
              have HJd := Lib.hid hj7
              clear hj7 hb7
              go_wp2_with fail
              refine (inTextNil_ok _ _).mono ?_
              rintro e w6 ⟨rfl, rfl⟩
              have e0 := HJd.out.text
              have e1 : w6.cell? ⟨rb, 1, none⟩ = some (.int .i64 (a1 : Int)) := HJd.out.at_
              have e2 : w6.cell? ⟨rb, 2, none⟩ = some (.int .i64 (-1)) := HJd.out.bad
              have t5 : decide ((0 : Int) ≤ (a1 : Int)) = true := decide_eq_true (by omega)
              have t6 : decide ((a1 : Int) < 0) = false := decide_eq_false (by omega)
              go_wp2_with fail
              go_quiet (fail)
              go_wp2_with (first
                | (go_at_call 27; refine (HF2.out _ (HJd.out.drewN _)).mono ?_; rintro e w8 ⟨rfl, n8, rfl⟩)
                | (go_at_call 28; refine (HL2.out _ (HId.out.drewN _)).mono ?_; rintro e w9 ⟨rfl, n9, rfl⟩)
                | (go_at_call 29; refine (HE2.out _ (HId.out.drewN _)).mono ?_; rintro e w11 ⟨⟨T9, v9, rfl, hc⟩, hb⟩; have HC := Lib.hid hc; have HBe := Lib.hid ((HBc.out.trans (below_drewN _ _ _)).trans (Below.mono hb HBc.out.size)); have HIe := Lib.hid (InAt.below (HId.out.drewN _) hb); have HJe := Lib.hid (RefAt.below (HJd.out.drewN _) hb); clear hc hb)
                | (go_at_call 14; refine (told_some _ 2 _ _ HC.out (by omega) (HG.out.below HBe.out HG.out.lt)).mono ?_; rintro e w12 ⟨rfl, hb12⟩; replace HIe := Lib.hid (HIe.out.below hb12); replace HJe := Lib.hid (HJe.out.below hb12); replace HBe := Lib.hid (HBe.out.trans (Below.mono hb12 HBe.out.size)); clear hb12))
              go_roundg (N - (i + 1))
              case measure => omega
              case rel => exact ⟨i + 1, by omega, by go_num, ⟨⟨a1, none⟩, HIe.out, HJe.out, ha1⟩, HBe.out⟩
            · obtain ⟨lf, hlf⟩ : ∃ lf, lf = s.size - a1 := ⟨_, rfl⟩
              have hlo : leftOf s ⟨a1, none⟩ = lf := by rw [hlf]; rfl
              rw [hlo] at HL
              have f3 : (s.size : Int) - (a1 : Int) = (lf : Int) := by omega
              have hlf2 : lf < 9223372036854775808 := by omega
              have f4 : wrap64 ((s.size : Int) - (a1 : Int)) = (lf : Int) := by rw [f3]; exact wrap64_nat lf hlf2
              clear hlo hlf hlf2
              have hfa : WireMath.faultAt (nats s) ⟨a1, none⟩ = none := by unfold WireMath.faultAt; simp only; rw [nats_len, if_neg hlt]
              have HF2 := Lib.hid (fun w1 (h : RefAt w1 rb s ⟨a1, none⟩) => (show Calls Tryd.prog 27 #[.pointer (some ⟨rb, 0, none⟩)] w1 fun e w' => e = .returned (.int .i64 (-1)) ∧ ∃ n, w' = w1.drewN n by have := HF.out w1 h; rw [hfa] at this; exact this))
              have HL2 := Lib.hid (fun w1 (h : InAt w1 ib s ⟨a1, none⟩) => (show Calls Tryd.prog 28 #[.pointer (some ⟨ib, 0, none⟩)] w1 fun e w' => e = .returned (.int .i64 ((lf : Nat) : Int)) ∧ ∃ n, w' = w1.drewN n from HL.out w1 h))
              have HE2 := Lib.hid (fun w1 (h : InAt w1 ib s ⟨a1, none⟩) => (HE.out w1 h).mono (R' := fun e w' => e = .returned .nilIface ∧ Below w1.heap.size w1 w') (by
                rintro e w' ⟨he, hb⟩
                refine ⟨?_, hb⟩
                unfold EndIs at he
                rw [hfa] at he
                exact he))
              clear hfa
              go_wp2_with fail
              refine (HP.out _ HIr.out).mono ?_
              rintro e w5 ⟨rfl, hi5, hb5⟩
              have HBc := Lib.hid (HBr.out.trans ((hb5.below (Nat.le_of_lt HIr.out.lt)).mono hib1))
              have HJc := Lib.hid (HJr.out.keep hb5 hne.symm)
              have HId := Lib.hid hi5
              clear hi5 hb5 c0 c1
              go_wp2_with fail
              refine (HQ.out _ HJc.out).mono ?_
              rintro e w7 ⟨rfl, hj7, hb7⟩
              replace HBc := Lib.hid (HBc.out.trans ((hb7.below (Nat.le_of_lt HJc.out.lt)).mono hrb1))
              replace HId := Lib.hid (HId.out.keep hb7 hne)
              have HJd := Lib.hid hj7
              clear hj7 hb7
              go_wp2_with fail
              refine (inTextNil_ok _ _).mono ?_
              rintro e w6 ⟨rfl, rfl⟩
              have e0 := HJd.out.text
              have e1 : w6.cell? ⟨rb, 1, none⟩ = some (.int .i64 (a1 : Int)) := HJd.out.at_
              have e2 : w6.cell? ⟨rb, 2, none⟩ = some (.int .i64 (-1)) := HJd.out.bad
              
              go_wp2_with fail
              go_quiet (fail)
              go_wp2_with (first
                | (go_at_call 27; refine (HF2.out _ (HJd.out.drewN _)).mono ?_; rintro e w8 ⟨rfl, n8, rfl⟩)
                | (go_at_call 28; refine (HL2.out _ (HId.out.drewN _)).mono ?_; rintro e w9 ⟨rfl, n9, rfl⟩)
                | (go_at_call 29; refine (HE2.out _ (HId.out.drewN _)).mono ?_; rintro e w11 ⟨rfl, hb⟩; have HBe := Lib.hid ((HBc.out.trans (below_drewN _ _ _)).trans (Below.mono hb HBc.out.size)); have HIe := Lib.hid (InAt.below (HId.out.drewN _) hb); have HJe := Lib.hid (RefAt.below (HJd.out.drewN _) hb); clear hb)
                | (go_at_call 14; fail))
              go_roundg (N - (i + 1))
              case measure => omega
              case rel => exact ⟨i + 1, by omega, by go_num, ⟨⟨a1, none⟩, HIe.out, HJe.out, ha1⟩, HBe.out⟩
        · by_cases k2 : xk = 2
          · obtain ⟨v, st1, hst⟩ : ∃ v st1, WireMath.readFlag (nats s) st = (v, st1) := ⟨_, _, rfl⟩
            have hle : st1.at_ ≤ s.size := by have := readFlag_le (nats s) st (nats_lt s) (by rw [nats_len]; exact hat); rw [hst, nats_len] at this; exact this
            have HP := Lib.hid (fun w1 (h : InAt w1 ib s st) => (show Calls Tryd.prog 20 #[.pointer (some ⟨ib, 0, none⟩)] w1 fun e w' => e = .returned (.bool v) ∧ InAt w' ib s st1 ∧ But ib w1 w' by have := inFlag_ok ib s st w1 h HS.out hat; rw [hst] at this; exact this))
            have HQ := Lib.hid (fun w1 (h : RefAt w1 rb s st) => (show Calls Tryd.prog 21 #[.pointer (some ⟨rb, 0, none⟩)] w1 fun e w' => e = .returned (.bool v) ∧ RefAt w' rb s st1 ∧ But rb w1 w' by have := refFlag rb s st w1 h HS.out hat; rw [hst] at this; exact this))
            clear hst hat
            obtain ⟨a1, bad1⟩ := st1
            have ha1 : a1 ≤ s.size := hle
            clear hle
            have HL := Lib.hid (fun w1 (h : InAt w1 ib s ⟨a1, bad1⟩) => inLeft_ok ib s ⟨a1, bad1⟩ w1 h HS.out ha1)
            have HE := Lib.hid (fun w1 (h : InAt w1 ib s ⟨a1, bad1⟩) => inEnd_ok ib s ⟨a1, bad1⟩ w1 h)
            have HF := Lib.hid (fun w1 (h : RefAt w1 rb s ⟨a1, bad1⟩) => refFault rb s ⟨a1, bad1⟩ w1 h)
            subst k2
            cases bad1 with
            | some b1 =>
              have hfa : WireMath.faultAt (nats s) ⟨a1, some b1⟩ = some b1 := rfl
              have HF2 := Lib.hid (fun w1 (h : RefAt w1 rb s ⟨a1, some b1⟩) => (show Calls Tryd.prog 27 #[.pointer (some ⟨rb, 0, none⟩)] w1 fun e w' => e = .returned (.int .i64 ((b1 : Int))) ∧ ∃ n, w' = w1.drewN n by have := HF.out w1 h; rw [hfa] at this; exact this))
              have HL2 := Lib.hid (fun w1 (h : InAt w1 ib s ⟨a1, some b1⟩) => (show Calls Tryd.prog 28 #[.pointer (some ⟨ib, 0, none⟩)] w1 fun e w' => e = .returned (.int .i64 (0 : Int)) ∧ ∃ n, w' = w1.drewN n from HL.out w1 h))
              have HE2 := Lib.hid (fun w1 (h : InAt w1 ib s ⟨a1, some b1⟩) => (HE.out w1 h).mono (R' := fun e w' => (∃ T v, e = .returned (.iface T v) ∧ Chain w'.heap.size w' [(⟨#[119, 105, 114, 101]⟩, ((b1 : Int)))] (.iface 40 (.int .i64 (2 : Int))) (.iface T v)) ∧ Below w1.heap.size w1 w') (by
                rintro e w' ⟨he, hb⟩
                refine ⟨?_, hb⟩
                unfold EndIs at he
                rw [hfa] at he
                obtain ⟨r, h1, h2⟩ := he
                obtain ⟨T, v, rfl⟩ := h2.some
                exact ⟨T, v, h1, h2⟩))
              clear hfa
              go_wp2_with fail
              refine (HP.out _ HIr.out).mono ?_
              rintro e w5 ⟨rfl, hi5, hb5⟩
              have HBc := Lib.hid (HBr.out.trans ((hb5.below (Nat.le_of_lt HIr.out.lt)).mono hib1))
              have HJc := Lib.hid (HJr.out.keep hb5 hne.symm)
              have HId := Lib.hid hi5
              clear hi5 hb5 c0 c1
              go_wp2_with fail
              refine (HQ.out _ HJc.out).mono ?_
              rintro e w7 ⟨rfl, hj7, hb7⟩
              replace HBc := Lib.hid (HBc.out.trans ((hb7.below (Nat.le_of_lt HJc.out.lt)).mono hrb1))
              replace HId := Lib.hid (HId.out.keep hb7 hne)
              have HJd := Lib.hid hj7
              clear hj7 hb7
              go_wp2_with fail
              refine (inFlagNil_ok _).mono ?_
              rintro e w6 ⟨rfl, rfl⟩
              have e0 := HJd.out.text
              have e1 : w6.cell? ⟨rb, 1, none⟩ = some (.int .i64 (a1 : Int)) := HJd.out.at_
              have e2 : w6.cell? ⟨rb, 2, none⟩ = some (.int .i64 ((b1 : Int))) := HJd.out.bad
              have t5 : decide ((0 : Int) ≤ (b1 : Int)) = true := decide_eq_true (by omega)
              have t6 : decide ((b1 : Int) < 0) = false := decide_eq_false (by omega)
              go_wp2_with fail
              go_quiet (fail)
              go_wp2_with (first
                | (go_at_call 27; refine (HF2.out _ (HJd.out.drewN _)).mono ?_; rintro e w8 ⟨rfl, n8, rfl⟩)
                | (go_at_call 28; refine (HL2.out _ (HId.out.drewN _)).mono ?_; rintro e w9 ⟨rfl, n9, rfl⟩)
                | (go_at_call 29; refine (HE2.out _ (HId.out.drewN _)).mono ?_; rintro e w11 ⟨⟨T9, v9, rfl, hc⟩, hb⟩; have HC := Lib.hid hc; have HBe := Lib.hid ((HBc.out.trans (below_drewN _ _ _)).trans (Below.mono hb HBc.out.size)); have HIe := Lib.hid (InAt.below (HId.out.drewN _) hb); have HJe := Lib.hid (RefAt.below (HJd.out.drewN _) hb); clear hc hb)
                | (go_at_call 14; refine (told_some _ 2 _ _ HC.out (by omega) (HG.out.below HBe.out HG.out.lt)).mono ?_; rintro e w12 ⟨rfl, hb12⟩; replace HIe := Lib.hid (HIe.out.below hb12); replace HJe := Lib.hid (HJe.out.below hb12); replace HBe := Lib.hid (HBe.out.trans (Below.mono hb12 HBe.out.size)); clear hb12))
              go_roundg (N - (i + 1))
              case measure => omega
              case rel => exact ⟨i + 1, by omega, by go_num, ⟨⟨a1, some b1⟩, HIe.out, HJe.out, ha1⟩, HBe.out⟩
            | none =>
              by_cases hlt : a1 < s.size
              · obtain ⟨lf, hlf⟩ : ∃ lf, lf = s.size - a1 := ⟨_, rfl⟩
                have hlo : leftOf s ⟨a1, none⟩ = lf := by rw [hlf]; rfl
                rw [hlo] at HL
                have f3 : (s.size : Int) - (a1 : Int) = (lf : Int) := by omega
                have hlf2 : lf < 9223372036854775808 := by omega
                have f4 : wrap64 ((s.size : Int) - (a1 : Int)) = (lf : Int) := by rw [f3]; exact wrap64_nat lf hlf2
                clear hlo hlf hlf2
                have hfa : WireMath.faultAt (nats s) ⟨a1, none⟩ = some a1 := by unfold WireMath.faultAt; simp only; rw [nats_len, if_pos hlt]
                have HF2 := Lib.hid (fun w1 (h : RefAt w1 rb s ⟨a1, none⟩) => (show Calls Tryd.prog 27 #[.pointer (some ⟨rb, 0, none⟩)] w1 fun e w' => e = .returned (.int .i64 ((a1 : Int))) ∧ ∃ n, w' = w1.drewN n by have := HF.out w1 h; rw [hfa] at this; exact this))
                have HL2 := Lib.hid (fun w1 (h : InAt w1 ib s ⟨a1, none⟩) => (show Calls Tryd.prog 28 #[.pointer (some ⟨ib, 0, none⟩)] w1 fun e w' => e = .returned (.int .i64 ((lf : Nat) : Int)) ∧ ∃ n, w' = w1.drewN n from HL.out w1 h))
                have HE2 := Lib.hid (fun w1 (h : InAt w1 ib s ⟨a1, none⟩) => (HE.out w1 h).mono (R' := fun e w' => (∃ T v, e = .returned (.iface T v) ∧ Chain w'.heap.size w' [(⟨#[119, 105, 114, 101]⟩, ((a1 : Int)))] (.iface 40 (.int .i64 (2 : Int))) (.iface T v)) ∧ Below w1.heap.size w1 w') (by
                  rintro e w' ⟨he, hb⟩
                  refine ⟨?_, hb⟩
                  unfold EndIs at he
                  rw [hfa] at he
                  obtain ⟨r, h1, h2⟩ := he
                  obtain ⟨T, v, rfl⟩ := h2.some
                  exact ⟨T, v, h1, h2⟩))
                clear hfa
                go_wp2_with fail
                refine (HP.out _ HIr.out).mono ?_
                rintro e w5 ⟨rfl, hi5, hb5⟩
                have HBc := Lib.hid (HBr.out.trans ((hb5.below (Nat.le_of_lt HIr.out.lt)).mono hib1))
                have HJc := Lib.hid (HJr.out.keep hb5 hne.symm)
                have HId := Lib.hid hi5
                clear hi5 hb5 c0 c1
                go_wp2_with fail
                refine (HQ.out _ HJc.out).mono ?_
                rintro e w7 ⟨rfl, hj7, hb7⟩
                replace HBc := Lib.hid (HBc.out.trans ((hb7.below (Nat.le_of_lt HJc.out.lt)).mono hrb1))
                replace HId := Lib.hid (HId.out.keep hb7 hne)
                have HJd := Lib.hid hj7
                clear hj7 hb7
                go_wp2_with fail
                refine (inFlagNil_ok _).mono ?_
                rintro e w6 ⟨rfl, rfl⟩
                have e0 := HJd.out.text
                have e1 : w6.cell? ⟨rb, 1, none⟩ = some (.int .i64 (a1 : Int)) := HJd.out.at_
                have e2 : w6.cell? ⟨rb, 2, none⟩ = some (.int .i64 (-1)) := HJd.out.bad
                have t5 : decide ((0 : Int) ≤ (a1 : Int)) = true := decide_eq_true (by omega)
                have t6 : decide ((a1 : Int) < 0) = false := decide_eq_false (by omega)
                go_wp2_with fail
                go_quiet (fail)
                go_wp2_with (first
                  | (go_at_call 27; refine (HF2.out _ (HJd.out.drewN _)).mono ?_; rintro e w8 ⟨rfl, n8, rfl⟩)
                  | (go_at_call 28; refine (HL2.out _ (HId.out.drewN _)).mono ?_; rintro e w9 ⟨rfl, n9, rfl⟩)
                  | (go_at_call 29; refine (HE2.out _ (HId.out.drewN _)).mono ?_; rintro e w11 ⟨⟨T9, v9, rfl, hc⟩, hb⟩; have HC := Lib.hid hc; have HBe := Lib.hid ((HBc.out.trans (below_drewN _ _ _)).trans (Below.mono hb HBc.out.size)); have HIe := Lib.hid (InAt.below (HId.out.drewN _) hb); have HJe := Lib.hid (RefAt.below (HJd.out.drewN _) hb); clear hc hb)
                  | (go_at_call 14; refine (told_some _ 2 _ _ HC.out (by omega) (HG.out.below HBe.out HG.out.lt)).mono ?_; rintro e w12 ⟨rfl, hb12⟩; replace HIe := Lib.hid (HIe.out.below hb12); replace HJe := Lib.hid (HJe.out.below hb12); replace HBe := Lib.hid (HBe.out.trans (Below.mono hb12 HBe.out.size)); clear hb12))
                go_roundg (N - (i + 1))
                case measure => omega
                case rel => exact ⟨i + 1, by omega, by go_num, ⟨⟨a1, none⟩, HIe.out, HJe.out, ha1⟩, HBe.out⟩
              · obtain ⟨lf, hlf⟩ : ∃ lf, lf = s.size - a1 := ⟨_, rfl⟩
                have hlo : leftOf s ⟨a1, none⟩ = lf := by rw [hlf]; rfl
                rw [hlo] at HL
                have f3 : (s.size : Int) - (a1 : Int) = (lf : Int) := by omega
                have hlf2 : lf < 9223372036854775808 := by omega
                have f4 : wrap64 ((s.size : Int) - (a1 : Int)) = (lf : Int) := by rw [f3]; exact wrap64_nat lf hlf2
                clear hlo hlf hlf2
                have hfa : WireMath.faultAt (nats s) ⟨a1, none⟩ = none := by unfold WireMath.faultAt; simp only; rw [nats_len, if_neg hlt]
                have HF2 := Lib.hid (fun w1 (h : RefAt w1 rb s ⟨a1, none⟩) => (show Calls Tryd.prog 27 #[.pointer (some ⟨rb, 0, none⟩)] w1 fun e w' => e = .returned (.int .i64 (-1)) ∧ ∃ n, w' = w1.drewN n by have := HF.out w1 h; rw [hfa] at this; exact this))
                have HL2 := Lib.hid (fun w1 (h : InAt w1 ib s ⟨a1, none⟩) => (show Calls Tryd.prog 28 #[.pointer (some ⟨ib, 0, none⟩)] w1 fun e w' => e = .returned (.int .i64 ((lf : Nat) : Int)) ∧ ∃ n, w' = w1.drewN n from HL.out w1 h))
                have HE2 := Lib.hid (fun w1 (h : InAt w1 ib s ⟨a1, none⟩) => (HE.out w1 h).mono (R' := fun e w' => e = .returned .nilIface ∧ Below w1.heap.size w1 w') (by
                  rintro e w' ⟨he, hb⟩
                  refine ⟨?_, hb⟩
                  unfold EndIs at he
                  rw [hfa] at he
                  exact he))
                clear hfa
                go_wp2_with fail
                refine (HP.out _ HIr.out).mono ?_
                rintro e w5 ⟨rfl, hi5, hb5⟩
                have HBc := Lib.hid (HBr.out.trans ((hb5.below (Nat.le_of_lt HIr.out.lt)).mono hib1))
                have HJc := Lib.hid (HJr.out.keep hb5 hne.symm)
                have HId := Lib.hid hi5
                clear hi5 hb5 c0 c1
                go_wp2_with fail
                refine (HQ.out _ HJc.out).mono ?_
                rintro e w7 ⟨rfl, hj7, hb7⟩
                replace HBc := Lib.hid (HBc.out.trans ((hb7.below (Nat.le_of_lt HJc.out.lt)).mono hrb1))
                replace HId := Lib.hid (HId.out.keep hb7 hne)
                have HJd := Lib.hid hj7
                clear hj7 hb7
                go_wp2_with fail
                refine (inFlagNil_ok _).mono ?_
                rintro e w6 ⟨rfl, rfl⟩
                have e0 := HJd.out.text
                have e1 : w6.cell? ⟨rb, 1, none⟩ = some (.int .i64 (a1 : Int)) := HJd.out.at_
                have e2 : w6.cell? ⟨rb, 2, none⟩ = some (.int .i64 (-1)) := HJd.out.bad
                
                go_wp2_with fail
                go_quiet (fail)
                go_wp2_with (first
                  | (go_at_call 27; refine (HF2.out _ (HJd.out.drewN _)).mono ?_; rintro e w8 ⟨rfl, n8, rfl⟩)
                  | (go_at_call 28; refine (HL2.out _ (HId.out.drewN _)).mono ?_; rintro e w9 ⟨rfl, n9, rfl⟩)
                  | (go_at_call 29; refine (HE2.out _ (HId.out.drewN _)).mono ?_; rintro e w11 ⟨rfl, hb⟩; have HBe := Lib.hid ((HBc.out.trans (below_drewN _ _ _)).trans (Below.mono hb HBc.out.size)); have HIe := Lib.hid (InAt.below (HId.out.drewN _) hb); have HJe := Lib.hid (RefAt.below (HJd.out.drewN _) hb); clear hb)
                  | (go_at_call 14; fail))
                go_roundg (N - (i + 1))
                case measure => omega
                case rel => exact ⟨i + 1, by omega, by go_num, ⟨⟨a1, none⟩, HIe.out, HJe.out, ha1⟩, HBe.out⟩
          · by_cases k3 : xk = 3
            · obtain ⟨v, st1, hst⟩ : ∃ v st1, WireMath.readVec (nats s) st = (v, st1) := ⟨_, _, rfl⟩
              have hle : st1.at_ ≤ s.size := by have := readVec_le (nats s) st (nats_lt s) (by rw [nats_len]; exact hat); rw [hst, nats_len] at this; exact this
              have HP := Lib.hid (fun w1 (h : InAt w1 ib s st) => (show Calls Tryd.prog 23 #[.pointer (some ⟨ib, 0, none⟩)] w1 fun e w' => (∃ pp cap, e = .returned (.slice pp v.length cap) ∧ Ints w' pp (v.map Int.ofNat) ∧ ∀ a, pp = some a → w1.heap.size ≤ a.block) ∧ InAt w' ib s st1 ∧ But ib w1 w' by have := inVec_ok ib s st w1 h HS.out hat; rw [hst] at this; exact this))
              have HQ := Lib.hid (fun w1 (h : RefAt w1 rb s st) => (show Calls Tryd.prog 24 #[.pointer (some ⟨rb, 0, none⟩)] w1 fun e w' => (∃ pp cap, e = .returned (.slice pp v.length cap) ∧ Ints w' pp (v.map Int.ofNat) ∧ ∀ a, pp = some a → w1.heap.size ≤ a.block) ∧ RefAt w' rb s st1 ∧ But rb w1 w' by have := refVec rb s st w1 h HS.out hat; rw [hst] at this; exact this))
              have hvl : v.length ≤ 16 := by have := readVec_len16 (nats s) st; rw [hst] at this; exact this
              have HSm : Hid (∀ w1 pa pb ca cb, Ints w1 pa (v.map Int.ofNat) → Ints w1 pb (v.map Int.ofNat) → Calls Tryd.prog 22 #[.slice pa v.length ca, .slice pb v.length cb] w1 fun e w' => e = .returned (.bool true) ∧ ∃ n, w' = w1.drewN n) := Lib.hid (fun w1 pa pb ca cb h1 h2 => by
                have := sameVec_ok pa pb ca cb (v.map Int.ofNat) (v.map Int.ofNat) w1 h1 h2 (by rw [List.length_map]; omega) (by rw [List.length_map]; omega)
                simpa using this)
              clear hst hat
              obtain ⟨a1, bad1⟩ := st1
              have ha1 : a1 ≤ s.size := hle
              clear hle
              have HL := Lib.hid (fun w1 (h : InAt w1 ib s ⟨a1, bad1⟩) => inLeft_ok ib s ⟨a1, bad1⟩ w1 h HS.out ha1)
              have HE := Lib.hid (fun w1 (h : InAt w1 ib s ⟨a1, bad1⟩) => inEnd_ok ib s ⟨a1, bad1⟩ w1 h)
              have HF := Lib.hid (fun w1 (h : RefAt w1 rb s ⟨a1, bad1⟩) => refFault rb s ⟨a1, bad1⟩ w1 h)
              subst k3
              cases bad1 with
              | some b1 =>
                have hfa : WireMath.faultAt (nats s) ⟨a1, some b1⟩ = some b1 := rfl
                have HF2 := Lib.hid (fun w1 (h : RefAt w1 rb s ⟨a1, some b1⟩) => (show Calls Tryd.prog 27 #[.pointer (some ⟨rb, 0, none⟩)] w1 fun e w' => e = .returned (.int .i64 ((b1 : Int))) ∧ ∃ n, w' = w1.drewN n by have := HF.out w1 h; rw [hfa] at this; exact this))
                have HL2 := Lib.hid (fun w1 (h : InAt w1 ib s ⟨a1, some b1⟩) => (show Calls Tryd.prog 28 #[.pointer (some ⟨ib, 0, none⟩)] w1 fun e w' => e = .returned (.int .i64 (0 : Int)) ∧ ∃ n, w' = w1.drewN n from HL.out w1 h))
                have HE2 := Lib.hid (fun w1 (h : InAt w1 ib s ⟨a1, some b1⟩) => (HE.out w1 h).mono (R' := fun e w' => (∃ T v, e = .returned (.iface T v) ∧ Chain w'.heap.size w' [(⟨#[119, 105, 114, 101]⟩, ((b1 : Int)))] (.iface 40 (.int .i64 (2 : Int))) (.iface T v)) ∧ Below w1.heap.size w1 w') (by
                  rintro e w' ⟨he, hb⟩
                  refine ⟨?_, hb⟩
                  unfold EndIs at he
                  rw [hfa] at he
                  obtain ⟨r, h1, h2⟩ := he
                  obtain ⟨T, v, rfl⟩ := h2.some
                  exact ⟨T, v, h1, h2⟩))
                clear hfa
                go_wp2_with fail
                refine (HP.out _ HIr.out).mono ?_
                rintro e w5 ⟨⟨pv, cv, rfl, hz5, hnew5⟩, hi5, hb5⟩
                have HBc := Lib.hid (HBr.out.trans ((hb5.below (Nat.le_of_lt HIr.out.lt)).mono hib1))
                have HJc := Lib.hid (HJr.out.keep hb5 hne.symm)
                have HId := Lib.hid hi5
                have HZ5 := Lib.hid hz5
                have hrlt : rb < wr.heap.size := HJr.out.lt
                have HNw := Lib.hid (show ∀ a, pv = some a → a.block ≠ rb from fun a ha => by have := hnew5 a ha; omega)
                clear hi5 hb5 c0 c1 hz5 hnew5 hrlt
                go_wp2_with fail
                refine (HQ.out _ HJc.out).mono ?_
                rintro e w7 ⟨⟨qv, dv, rfl, hz7, _⟩, hj7, hb7⟩
                replace HBc := Lib.hid (HBc.out.trans ((hb7.below (Nat.le_of_lt HJc.out.lt)).mono hrb1))
                replace HId := Lib.hid (HId.out.keep hb7 hne)
                have HJd := Lib.hid hj7
                have HZa := Lib.hid (Ints.but HZ5.out hb7 HNw.out)
                have HZb := Lib.hid hz7
                clear hj7 hb7 hz7
                go_wp2_with fail
                refine (HSm.out _ _ _ _ _ HZa.out HZb.out).mono ?_
                rintro e w8 ⟨rfl, n8, rfl⟩
                go_wp2_with fail
                refine (inVecNil_ok _).mono ?_
                rintro e w9 ⟨rfl, rfl⟩
                obtain ⟨w6, hw6⟩ : ∃ w6, w6 = w7.drewN n8 := ⟨_, rfl⟩
                replace HJd : Hid (RefAt w6 rb s ⟨a1, some b1⟩) := Lib.hid (by rw [hw6]; exact HJd.out.drewN _)
                replace HId : Hid (InAt w6 ib s ⟨a1, some b1⟩) := Lib.hid (by rw [hw6]; exact HId.out.drewN _)
                replace HBc : Hid (Below w.heap.size w w6) := Lib.hid (by rw [hw6]; exact HBc.out.trans (below_drewN _ _ _))
                rw [← hw6]
                clear hw6
                have e0 := HJd.out.text
                have e1 : w6.cell? ⟨rb, 1, none⟩ = some (.int .i64 (a1 : Int)) := HJd.out.at_
                have e2 : w6.cell? ⟨rb, 2, none⟩ = some (.int .i64 ((b1 : Int))) := HJd.out.bad
                have t5 : decide ((0 : Int) ≤ (b1 : Int)) = true := decide_eq_true (by omega)
                have t6 : decide ((b1 : Int) < 0) = false := decide_eq_false (by omega)
                go_wp2_with fail
                go_quiet (fail)
                go_wp2_with (first
                  | (go_at_call 27; refine (HF2.out _ (HJd.out.drewN _)).mono ?_; rintro e w8 ⟨rfl, n8, rfl⟩)
                  | (go_at_call 28; refine (HL2.out _ (HId.out.drewN _)).mono ?_; rintro e w9 ⟨rfl, n9, rfl⟩)
                  | (go_at_call 29; refine (HE2.out _ (HId.out.drewN _)).mono ?_; rintro e w11 ⟨⟨T9, v9, rfl, hc⟩, hb⟩; have HC := Lib.hid hc; have HBe := Lib.hid ((HBc.out.trans (below_drewN _ _ _)).trans (Below.mono hb HBc.out.size)); have HIe := Lib.hid (InAt.below (HId.out.drewN _) hb); have HJe := Lib.hid (RefAt.below (HJd.out.drewN _) hb); clear hc hb)
                  | (go_at_call 14; refine (told_some _ 2 _ _ HC.out (by omega) (HG.out.below HBe.out HG.out.lt)).mono ?_; rintro e w12 ⟨rfl, hb12⟩; replace HIe := Lib.hid (HIe.out.below hb12); replace HJe := Lib.hid (HJe.out.below hb12); replace HBe := Lib.hid (HBe.out.trans (Below.mono hb12 HBe.out.size)); clear hb12))
                go_roundg (N - (i + 1))
                case measure => omega
                case rel => exact ⟨i + 1, by omega, by go_num, ⟨⟨a1, some b1⟩, HIe.out, HJe.out, ha1⟩, HBe.out⟩
              | none =>
                by_cases hlt : a1 < s.size
                · obtain ⟨lf, hlf⟩ : ∃ lf, lf = s.size - a1 := ⟨_, rfl⟩
                  have hlo : leftOf s ⟨a1, none⟩ = lf := by rw [hlf]; rfl
                  rw [hlo] at HL
                  have f3 : (s.size : Int) - (a1 : Int) = (lf : Int) := by omega
                  have hlf2 : lf < 9223372036854775808 := by omega
                  have f4 : wrap64 ((s.size : Int) - (a1 : Int)) = (lf : Int) := by rw [f3]; exact wrap64_nat lf hlf2
                  clear hlo hlf hlf2
                  have hfa : WireMath.faultAt (nats s) ⟨a1, none⟩ = some a1 := by unfold WireMath.faultAt; simp only; rw [nats_len, if_pos hlt]
                  have HF2 := Lib.hid (fun w1 (h : RefAt w1 rb s ⟨a1, none⟩) => (show Calls Tryd.prog 27 #[.pointer (some ⟨rb, 0, none⟩)] w1 fun e w' => e = .returned (.int .i64 ((a1 : Int))) ∧ ∃ n, w' = w1.drewN n by have := HF.out w1 h; rw [hfa] at this; exact this))
                  have HL2 := Lib.hid (fun w1 (h : InAt w1 ib s ⟨a1, none⟩) => (show Calls Tryd.prog 28 #[.pointer (some ⟨ib, 0, none⟩)] w1 fun e w' => e = .returned (.int .i64 ((lf : Nat) : Int)) ∧ ∃ n, w' = w1.drewN n from HL.out w1 h))
                  have HE2 := Lib.hid (fun w1 (h : InAt w1 ib s ⟨a1, none⟩) => (HE.out w1 h).mono (R' := fun e w' => (∃ T v, e = .returned (.iface T v) ∧ Chain w'.heap.size w' [(⟨#[119, 105, 114, 101]⟩, ((a1 : Int)))] (.iface 40 (.int .i64 (2 : Int))) (.iface T v)) ∧ Below w1.heap.size w1 w') (by
                    rintro e w' ⟨he, hb⟩
                    refine ⟨?_, hb⟩
                    unfold EndIs at he
                    rw [hfa] at he
                    obtain ⟨r, h1, h2⟩ := he
                    obtain ⟨T, v, rfl⟩ := h2.some
                    exact ⟨T, v, h1, h2⟩))
                  clear hfa
                  go_wp2_with fail
                  refine (HP.out _ HIr.out).mono ?_
                  rintro e w5 ⟨⟨pv, cv, rfl, hz5, hnew5⟩, hi5, hb5⟩
                  have HBc := Lib.hid (HBr.out.trans ((hb5.below (Nat.le_of_lt HIr.out.lt)).mono hib1))
                  have HJc := Lib.hid (HJr.out.keep hb5 hne.symm)
                  have HId := Lib.hid hi5
                  have HZ5 := Lib.hid hz5
                  have hrlt : rb < wr.heap.size := HJr.out.lt
                  have HNw := Lib.hid (show ∀ a, pv = some a → a.block ≠ rb from fun a ha => by have := hnew5 a ha; omega)
                  clear hi5 hb5 c0 c1 hz5 hnew5 hrlt
                  go_wp2_with fail
                  refine (HQ.out _ HJc.out).mono ?_
                  rintro e w7 ⟨⟨qv, dv, rfl, hz7, _⟩, hj7, hb7⟩
                  replace HBc := Lib.hid (HBc.out.trans ((hb7.below (Nat.le_of_lt HJc.out.lt)).mono hrb1))
                  replace HId := Lib.hid (HId.out.keep hb7 hne)
                  have HJd := Lib.hid hj7
                  have HZa := Lib.hid (Ints.but HZ5.out hb7 HNw.out)
                  have HZb := Lib.hid hz7
                  clear hj7 hb7 hz7
                  go_wp2_with fail
                  refine (HSm.out _ _ _ _ _ HZa.out HZb.out).mono ?_
                  rintro e w8 ⟨rfl, n8, rfl⟩
                  go_wp2_with fail
                  refine (inVecNil_ok _).mono ?_
                  rintro e w9 ⟨rfl, rfl⟩
                  obtain ⟨w6, hw6⟩ : ∃ w6, w6 = w7.drewN n8 := ⟨_, rfl⟩
                  replace HJd : Hid (RefAt w6 rb s ⟨a1, none⟩) := Lib.hid (by rw [hw6]; exact HJd.out.drewN _)
                  replace HId : Hid (InAt w6 ib s ⟨a1, none⟩) := Lib.hid (by rw [hw6]; exact HId.out.drewN _)
                  replace HBc : Hid (Below w.heap.size w w6) := Lib.hid (by rw [hw6]; exact HBc.out.trans (below_drewN _ _ _))
                  rw [← hw6]
                  clear hw6
                  have e0 := HJd.out.text
                  have e1 : w6.cell? ⟨rb, 1, none⟩ = some (.int .i64 (a1 : Int)) := HJd.out.at_
                  have e2 : w6.cell? ⟨rb, 2, none⟩ = some (.int .i64 (-1)) := HJd.out.bad
                  have t5 : decide ((0 : Int) ≤ (a1 : Int)) = true := decide_eq_true (by omega)
                  have t6 : decide ((a1 : Int) < 0) = false := decide_eq_false (by omega)
                  go_wp2_with fail
                  go_quiet (fail)
                  go_wp2_with (first
                    | (go_at_call 27; refine (HF2.out _ (HJd.out.drewN _)).mono ?_; rintro e w8 ⟨rfl, n8, rfl⟩)
                    | (go_at_call 28; refine (HL2.out _ (HId.out.drewN _)).mono ?_; rintro e w9 ⟨rfl, n9, rfl⟩)
                    | (go_at_call 29; refine (HE2.out _ (HId.out.drewN _)).mono ?_; rintro e w11 ⟨⟨T9, v9, rfl, hc⟩, hb⟩; have HC := Lib.hid hc; have HBe := Lib.hid ((HBc.out.trans (below_drewN _ _ _)).trans (Below.mono hb HBc.out.size)); have HIe := Lib.hid (InAt.below (HId.out.drewN _) hb); have HJe := Lib.hid (RefAt.below (HJd.out.drewN _) hb); clear hc hb)
                    | (go_at_call 14; refine (told_some _ 2 _ _ HC.out (by omega) (HG.out.below HBe.out HG.out.lt)).mono ?_; rintro e w12 ⟨rfl, hb12⟩; replace HIe := Lib.hid (HIe.out.below hb12); replace HJe := Lib.hid (HJe.out.below hb12); replace HBe := Lib.hid (HBe.out.trans (Below.mono hb12 HBe.out.size)); clear hb12))
                  go_roundg (N - (i + 1))
                  case measure => omega
                  case rel => exact ⟨i + 1, by omega, by go_num, ⟨⟨a1, none⟩, HIe.out, HJe.out, ha1⟩, HBe.out⟩
                · obtain ⟨lf, hlf⟩ : ∃ lf, lf = s.size - a1 := ⟨_, rfl⟩
                  have hlo : leftOf s ⟨a1, none⟩ = lf := by rw [hlf]; rfl
                  rw [hlo] at HL
                  have f3 : (s.size : Int) - (a1 : Int) = (lf : Int) := by omega
                  have hlf2 : lf < 9223372036854775808 := by omega
                  have f4 : wrap64 ((s.size : Int) - (a1 : Int)) = (lf : Int) := by rw [f3]; exact wrap64_nat lf hlf2
                  clear hlo hlf hlf2
                  have hfa : WireMath.faultAt (nats s) ⟨a1, none⟩ = none := by unfold WireMath.faultAt; simp only; rw [nats_len, if_neg hlt]
                  have HF2 := Lib.hid (fun w1 (h : RefAt w1 rb s ⟨a1, none⟩) => (show Calls Tryd.prog 27 #[.pointer (some ⟨rb, 0, none⟩)] w1 fun e w' => e = .returned (.int .i64 (-1)) ∧ ∃ n, w' = w1.drewN n by have := HF.out w1 h; rw [hfa] at this; exact this))
                  have HL2 := Lib.hid (fun w1 (h : InAt w1 ib s ⟨a1, none⟩) => (show Calls Tryd.prog 28 #[.pointer (some ⟨ib, 0, none⟩)] w1 fun e w' => e = .returned (.int .i64 ((lf : Nat) : Int)) ∧ ∃ n, w' = w1.drewN n from HL.out w1 h))
                  have HE2 := Lib.hid (fun w1 (h : InAt w1 ib s ⟨a1, none⟩) => (HE.out w1 h).mono (R' := fun e w' => e = .returned .nilIface ∧ Below w1.heap.size w1 w') (by
                    rintro e w' ⟨he, hb⟩
                    refine ⟨?_, hb⟩
                    unfold EndIs at he
                    rw [hfa] at he
                    exact he))
                  clear hfa
                  go_wp2_with fail
                  refine (HP.out _ HIr.out).mono ?_
                  rintro e w5 ⟨⟨pv, cv, rfl, hz5, hnew5⟩, hi5, hb5⟩
                  have HBc := Lib.hid (HBr.out.trans ((hb5.below (Nat.le_of_lt HIr.out.lt)).mono hib1))
                  have HJc := Lib.hid (HJr.out.keep hb5 hne.symm)
                  have HId := Lib.hid hi5
                  have HZ5 := Lib.hid hz5
                  have hrlt : rb < wr.heap.size := HJr.out.lt
                  have HNw := Lib.hid (show ∀ a, pv = some a → a.block ≠ rb from fun a ha => by have := hnew5 a ha; omega)
                  clear hi5 hb5 c0 c1 hz5 hnew5 hrlt
                  go_wp2_with fail
                  refine (HQ.out _ HJc.out).mono ?_
                  rintro e w7 ⟨⟨qv, dv, rfl, hz7, _⟩, hj7, hb7⟩
                  replace HBc := Lib.hid (HBc.out.trans ((hb7.below (Nat.le_of_lt HJc.out.lt)).mono hrb1))
                  replace HId := Lib.hid (HId.out.keep hb7 hne)
                  have HJd := Lib.hid hj7
                  have HZa := Lib.hid (Ints.but HZ5.out hb7 HNw.out)
                  have HZb := Lib.hid hz7
                  clear hj7 hb7 hz7
                  go_wp2_with fail
                  refine (HSm.out _ _ _ _ _ HZa.out HZb.out).mono ?_
                  rintro e w8 ⟨rfl, n8, rfl⟩
                  go_wp2_with fail
                  refine (inVecNil_ok _).mono ?_
                  rintro e w9 ⟨rfl, rfl⟩
                  obtain ⟨w6, hw6⟩ : ∃ w6, w6 = w7.drewN n8 := ⟨_, rfl⟩
                  replace HJd : Hid (RefAt w6 rb s ⟨a1, none⟩) := Lib.hid (by rw [hw6]; exact HJd.out.drewN _)
                  replace HId : Hid (InAt w6 ib s ⟨a1, none⟩) := Lib.hid (by rw [hw6]; exact HId.out.drewN _)
                  replace HBc : Hid (Below w.heap.size w w6) := Lib.hid (by rw [hw6]; exact HBc.out.trans (below_drewN _ _ _))
                  rw [← hw6]
                  clear hw6
                  have e0 := HJd.out.text
                  have e1 : w6.cell? ⟨rb, 1, none⟩ = some (.int .i64 (a1 : Int)) := HJd.out.at_
                  have e2 : w6.cell? ⟨rb, 2, none⟩ = some (.int .i64 (-1)) := HJd.out.bad
                  
                  go_wp2_with fail
                  go_quiet (fail)
                  go_wp2_with (first
                    | (go_at_call 27; refine (HF2.out _ (HJd.out.drewN _)).mono ?_; rintro e w8 ⟨rfl, n8, rfl⟩)
                    | (go_at_call 28; refine (HL2.out _ (HId.out.drewN _)).mono ?_; rintro e w9 ⟨rfl, n9, rfl⟩)
                    | (go_at_call 29; refine (HE2.out _ (HId.out.drewN _)).mono ?_; rintro e w11 ⟨rfl, hb⟩; have HBe := Lib.hid ((HBc.out.trans (below_drewN _ _ _)).trans (Below.mono hb HBc.out.size)); have HIe := Lib.hid (InAt.below (HId.out.drewN _) hb); have HJe := Lib.hid (RefAt.below (HJd.out.drewN _) hb); clear hb)
                    | (go_at_call 14; fail))
                  go_roundg (N - (i + 1))
                  case measure => omega
                  case rel => exact ⟨i + 1, by omega, by go_num, ⟨⟨a1, none⟩, HIe.out, HJe.out, ha1⟩, HBe.out⟩
            · obtain ⟨v, st1, hst⟩ : ∃ v st1, WireMath.readNum (nats s) st xm = (v, st1) := ⟨_, _, rfl⟩
              have hle : st1.at_ ≤ s.size := by have := WireMath.readNum_le (nats s) st xm (nats_lt s) (by rw [nats_len]; exact hat); rw [hst, nats_len] at this; exact this
              have HP := Lib.hid (fun w1 (h : InAt w1 ib s st) => (show Calls Tryd.prog 25 #[.pointer (some ⟨ib, 0, none⟩), .int .i64 xm] w1 fun e w' => e = .returned (.int .i64 (v : Nat)) ∧ InAt w' ib s st1 ∧ But ib w1 w' by have := inNum_ok ib s st xm w1 h HS.out hat; rw [hst] at this; exact this))
              have HQ := Lib.hid (fun w1 (h : RefAt w1 rb s st) => (show Calls Tryd.prog 26 #[.pointer (some ⟨rb, 0, none⟩), .int .i64 xm] w1 fun e w' => e = .returned (.int .i64 (v : Nat)) ∧ RefAt w' rb s st1 ∧ But rb w1 w' by have := refNum rb s st xm w1 h HS.out hat; rw [hst] at this; exact this))
              clear hst hat
              obtain ⟨a1, bad1⟩ := st1
              have ha1 : a1 ≤ s.size := hle
              clear hle
              have HL := Lib.hid (fun w1 (h : InAt w1 ib s ⟨a1, bad1⟩) => inLeft_ok ib s ⟨a1, bad1⟩ w1 h HS.out ha1)
              have HE := Lib.hid (fun w1 (h : InAt w1 ib s ⟨a1, bad1⟩) => inEnd_ok ib s ⟨a1, bad1⟩ w1 h)
              have HF := Lib.hid (fun w1 (h : RefAt w1 rb s ⟨a1, bad1⟩) => refFault rb s ⟨a1, bad1⟩ w1 h)
              have g1 : (xk == 1) = false := by rw [beq_eq_false_iff_ne]; exact k1
              have g2 : (xk == 2) = false := by rw [beq_eq_false_iff_ne]; exact k2
              have g3 : (xk == 3) = false := by rw [beq_eq_false_iff_ne]; exact k3
              cases bad1 with
              | some b1 =>
                have hfa : WireMath.faultAt (nats s) ⟨a1, some b1⟩ = some b1 := rfl
                have HF2 := Lib.hid (fun w1 (h : RefAt w1 rb s ⟨a1, some b1⟩) => (show Calls Tryd.prog 27 #[.pointer (some ⟨rb, 0, none⟩)] w1 fun e w' => e = .returned (.int .i64 ((b1 : Int))) ∧ ∃ n, w' = w1.drewN n by have := HF.out w1 h; rw [hfa] at this; exact this))
                have HL2 := Lib.hid (fun w1 (h : InAt w1 ib s ⟨a1, some b1⟩) => (show Calls Tryd.prog 28 #[.pointer (some ⟨ib, 0, none⟩)] w1 fun e w' => e = .returned (.int .i64 (0 : Int)) ∧ ∃ n, w' = w1.drewN n from HL.out w1 h))
                have HE2 := Lib.hid (fun w1 (h : InAt w1 ib s ⟨a1, some b1⟩) => (HE.out w1 h).mono (R' := fun e w' => (∃ T v, e = .returned (.iface T v) ∧ Chain w'.heap.size w' [(⟨#[119, 105, 114, 101]⟩, ((b1 : Int)))] (.iface 40 (.int .i64 (2 : Int))) (.iface T v)) ∧ Below w1.heap.size w1 w') (by
                  rintro e w' ⟨he, hb⟩
                  refine ⟨?_, hb⟩
                  unfold EndIs at he
                  rw [hfa] at he
                  obtain ⟨r, h1, h2⟩ := he
                  obtain ⟨T, v, rfl⟩ := h2.some
                  exact ⟨T, v, h1, h2⟩))
                clear hfa
                go_wp2_with fail
                refine (HP.out _ HIr.out).mono ?_
                rintro e w5 ⟨rfl, hi5, hb5⟩
                have HBc := Lib.hid (HBr.out.trans ((hb5.below (Nat.le_of_lt HIr.out.lt)).mono hib1))
                have HJc := Lib.hid (HJr.out.keep hb5 hne.symm)
                have HId := Lib.hid hi5
                clear hi5 hb5 c0 c1
                go_wp2_with fail
                refine (HQ.out _ HJc.out).mono ?_
                rintro e w7 ⟨rfl, hj7, hb7⟩
                replace HBc := Lib.hid (HBc.out.trans ((hb7.below (Nat.le_of_lt HJc.out.lt)).mono hrb1))
                replace HId := Lib.hid (HId.out.keep hb7 hne)
                have HJd := Lib.hid hj7
                clear hj7 hb7
                go_wp2_with fail
                refine (inNumNil_ok _ _).mono ?_
                rintro e w6 ⟨rfl, rfl⟩
                have e0 := HJd.out.text
                have e1 : w6.cell? ⟨rb, 1, none⟩ = some (.int .i64 (a1 : Int)) := HJd.out.at_
                have e2 : w6.cell? ⟨rb, 2, none⟩ = some (.int .i64 ((b1 : Int))) := HJd.out.bad
                have t5 : decide ((0 : Int) ≤ (b1 : Int)) = true := decide_eq_true (by omega)
                have t6 : decide ((b1 : Int) < 0) = false := decide_eq_false (by omega)
                go_wp2_with fail
                go_quiet (fail)
                go_wp2_with (first
                  | (go_at_call 27; refine (HF2.out _ (HJd.out.drewN _)).mono ?_; rintro e w8 ⟨rfl, n8, rfl⟩)
                  | (go_at_call 28; refine (HL2.out _ (HId.out.drewN _)).mono ?_; rintro e w9 ⟨rfl, n9, rfl⟩)
                  | (go_at_call 29; refine (HE2.out _ (HId.out.drewN _)).mono ?_; rintro e w11 ⟨⟨T9, v9, rfl, hc⟩, hb⟩; have HC := Lib.hid hc; have HBe := Lib.hid ((HBc.out.trans (below_drewN _ _ _)).trans (Below.mono hb HBc.out.size)); have HIe := Lib.hid (InAt.below (HId.out.drewN _) hb); have HJe := Lib.hid (RefAt.below (HJd.out.drewN _) hb); clear hc hb)
                  | (go_at_call 14; refine (told_some _ 2 _ _ HC.out (by omega) (HG.out.below HBe.out HG.out.lt)).mono ?_; rintro e w12 ⟨rfl, hb12⟩; replace HIe := Lib.hid (HIe.out.below hb12); replace HJe := Lib.hid (HJe.out.below hb12); replace HBe := Lib.hid (HBe.out.trans (Below.mono hb12 HBe.out.size)); clear hb12))
                go_roundg (N - (i + 1))
                case measure => omega
                case rel => exact ⟨i + 1, by omega, by go_num, ⟨⟨a1, some b1⟩, HIe.out, HJe.out, ha1⟩, HBe.out⟩
              | none =>
                by_cases hlt : a1 < s.size
                · obtain ⟨lf, hlf⟩ : ∃ lf, lf = s.size - a1 := ⟨_, rfl⟩
                  have hlo : leftOf s ⟨a1, none⟩ = lf := by rw [hlf]; rfl
                  rw [hlo] at HL
                  have f3 : (s.size : Int) - (a1 : Int) = (lf : Int) := by omega
                  have hlf2 : lf < 9223372036854775808 := by omega
                  have f4 : wrap64 ((s.size : Int) - (a1 : Int)) = (lf : Int) := by rw [f3]; exact wrap64_nat lf hlf2
                  clear hlo hlf hlf2
                  have hfa : WireMath.faultAt (nats s) ⟨a1, none⟩ = some a1 := by unfold WireMath.faultAt; simp only; rw [nats_len, if_pos hlt]
                  have HF2 := Lib.hid (fun w1 (h : RefAt w1 rb s ⟨a1, none⟩) => (show Calls Tryd.prog 27 #[.pointer (some ⟨rb, 0, none⟩)] w1 fun e w' => e = .returned (.int .i64 ((a1 : Int))) ∧ ∃ n, w' = w1.drewN n by have := HF.out w1 h; rw [hfa] at this; exact this))
                  have HL2 := Lib.hid (fun w1 (h : InAt w1 ib s ⟨a1, none⟩) => (show Calls Tryd.prog 28 #[.pointer (some ⟨ib, 0, none⟩)] w1 fun e w' => e = .returned (.int .i64 ((lf : Nat) : Int)) ∧ ∃ n, w' = w1.drewN n from HL.out w1 h))
                  have HE2 := Lib.hid (fun w1 (h : InAt w1 ib s ⟨a1, none⟩) => (HE.out w1 h).mono (R' := fun e w' => (∃ T v, e = .returned (.iface T v) ∧ Chain w'.heap.size w' [(⟨#[119, 105, 114, 101]⟩, ((a1 : Int)))] (.iface 40 (.int .i64 (2 : Int))) (.iface T v)) ∧ Below w1.heap.size w1 w') (by
                    rintro e w' ⟨he, hb⟩
                    refine ⟨?_, hb⟩
                    unfold EndIs at he
                    rw [hfa] at he
                    obtain ⟨r, h1, h2⟩ := he
                    obtain ⟨T, v, rfl⟩ := h2.some
                    exact ⟨T, v, h1, h2⟩))
                  clear hfa
                  go_wp2_with fail
                  refine (HP.out _ HIr.out).mono ?_
                  rintro e w5 ⟨rfl, hi5, hb5⟩
                  have HBc := Lib.hid (HBr.out.trans ((hb5.below (Nat.le_of_lt HIr.out.lt)).mono hib1))
                  have HJc := Lib.hid (HJr.out.keep hb5 hne.symm)
                  have HId := Lib.hid hi5
                  clear hi5 hb5 c0 c1
                  go_wp2_with fail
                  refine (HQ.out _ HJc.out).mono ?_
                  rintro e w7 ⟨rfl, hj7, hb7⟩
                  replace HBc := Lib.hid (HBc.out.trans ((hb7.below (Nat.le_of_lt HJc.out.lt)).mono hrb1))
                  replace HId := Lib.hid (HId.out.keep hb7 hne)
                  have HJd := Lib.hid hj7
                  clear hj7 hb7
                  go_wp2_with fail
                  refine (inNumNil_ok _ _).mono ?_
                  rintro e w6 ⟨rfl, rfl⟩
                  have e0 := HJd.out.text
                  have e1 : w6.cell? ⟨rb, 1, none⟩ = some (.int .i64 (a1 : Int)) := HJd.out.at_
                  have e2 : w6.cell? ⟨rb, 2, none⟩ = some (.int .i64 (-1)) := HJd.out.bad
                  have t5 : decide ((0 : Int) ≤ (a1 : Int)) = true := decide_eq_true (by omega)
                  have t6 : decide ((a1 : Int) < 0) = false := decide_eq_false (by omega)
                  go_wp2_with fail
                  go_quiet (fail)
                  go_wp2_with (first
                    | (go_at_call 27; refine (HF2.out _ (HJd.out.drewN _)).mono ?_; rintro e w8 ⟨rfl, n8, rfl⟩)
                    | (go_at_call 28; refine (HL2.out _ (HId.out.drewN _)).mono ?_; rintro e w9 ⟨rfl, n9, rfl⟩)
                    | (go_at_call 29; refine (HE2.out _ (HId.out.drewN _)).mono ?_; rintro e w11 ⟨⟨T9, v9, rfl, hc⟩, hb⟩; have HC := Lib.hid hc; have HBe := Lib.hid ((HBc.out.trans (below_drewN _ _ _)).trans (Below.mono hb HBc.out.size)); have HIe := Lib.hid (InAt.below (HId.out.drewN _) hb); have HJe := Lib.hid (RefAt.below (HJd.out.drewN _) hb); clear hc hb)
                    | (go_at_call 14; refine (told_some _ 2 _ _ HC.out (by omega) (HG.out.below HBe.out HG.out.lt)).mono ?_; rintro e w12 ⟨rfl, hb12⟩; replace HIe := Lib.hid (HIe.out.below hb12); replace HJe := Lib.hid (HJe.out.below hb12); replace HBe := Lib.hid (HBe.out.trans (Below.mono hb12 HBe.out.size)); clear hb12))
                  go_roundg (N - (i + 1))
                  case measure => omega
                  case rel => exact ⟨i + 1, by omega, by go_num, ⟨⟨a1, none⟩, HIe.out, HJe.out, ha1⟩, HBe.out⟩
                · obtain ⟨lf, hlf⟩ : ∃ lf, lf = s.size - a1 := ⟨_, rfl⟩
                  have hlo : leftOf s ⟨a1, none⟩ = lf := by rw [hlf]; rfl
                  rw [hlo] at HL
                  have f3 : (s.size : Int) - (a1 : Int) = (lf : Int) := by omega
                  have hlf2 : lf < 9223372036854775808 := by omega
                  have f4 : wrap64 ((s.size : Int) - (a1 : Int)) = (lf : Int) := by rw [f3]; exact wrap64_nat lf hlf2
                  clear hlo hlf hlf2
                  have hfa : WireMath.faultAt (nats s) ⟨a1, none⟩ = none := by unfold WireMath.faultAt; simp only; rw [nats_len, if_neg hlt]
                  have HF2 := Lib.hid (fun w1 (h : RefAt w1 rb s ⟨a1, none⟩) => (show Calls Tryd.prog 27 #[.pointer (some ⟨rb, 0, none⟩)] w1 fun e w' => e = .returned (.int .i64 (-1)) ∧ ∃ n, w' = w1.drewN n by have := HF.out w1 h; rw [hfa] at this; exact this))
                  have HL2 := Lib.hid (fun w1 (h : InAt w1 ib s ⟨a1, none⟩) => (show Calls Tryd.prog 28 #[.pointer (some ⟨ib, 0, none⟩)] w1 fun e w' => e = .returned (.int .i64 ((lf : Nat) : Int)) ∧ ∃ n, w' = w1.drewN n from HL.out w1 h))
                  have HE2 := Lib.hid (fun w1 (h : InAt w1 ib s ⟨a1, none⟩) => (HE.out w1 h).mono (R' := fun e w' => e = .returned .nilIface ∧ Below w1.heap.size w1 w') (by
                    rintro e w' ⟨he, hb⟩
                    refine ⟨?_, hb⟩
                    unfold EndIs at he
                    rw [hfa] at he
                    exact he))
                  clear hfa
                  go_wp2_with fail
                  refine (HP.out _ HIr.out).mono ?_
                  rintro e w5 ⟨rfl, hi5, hb5⟩
                  have HBc := Lib.hid (HBr.out.trans ((hb5.below (Nat.le_of_lt HIr.out.lt)).mono hib1))
                  have HJc := Lib.hid (HJr.out.keep hb5 hne.symm)
                  have HId := Lib.hid hi5
                  clear hi5 hb5 c0 c1
                  go_wp2_with fail
                  refine (HQ.out _ HJc.out).mono ?_
                  rintro e w7 ⟨rfl, hj7, hb7⟩
                  replace HBc := Lib.hid (HBc.out.trans ((hb7.below (Nat.le_of_lt HJc.out.lt)).mono hrb1))
                  replace HId := Lib.hid (HId.out.keep hb7 hne)
                  have HJd := Lib.hid hj7
                  clear hj7 hb7
                  go_wp2_with fail
                  refine (inNumNil_ok _ _).mono ?_
                  rintro e w6 ⟨rfl, rfl⟩
                  have e0 := HJd.out.text
                  have e1 : w6.cell? ⟨rb, 1, none⟩ = some (.int .i64 (a1 : Int)) := HJd.out.at_
                  have e2 : w6.cell? ⟨rb, 2, none⟩ = some (.int .i64 (-1)) := HJd.out.bad
                  
                  go_wp2_with fail
                  go_quiet (fail)
                  go_wp2_with (first
                    | (go_at_call 27; refine (HF2.out _ (HJd.out.drewN _)).mono ?_; rintro e w8 ⟨rfl, n8, rfl⟩)
                    | (go_at_call 28; refine (HL2.out _ (HId.out.drewN _)).mono ?_; rintro e w9 ⟨rfl, n9, rfl⟩)
                    | (go_at_call 29; refine (HE2.out _ (HId.out.drewN _)).mono ?_; rintro e w11 ⟨rfl, hb⟩; have HBe := Lib.hid ((HBc.out.trans (below_drewN _ _ _)).trans (Below.mono hb HBc.out.size)); have HIe := Lib.hid (InAt.below (HId.out.drewN _) hb); have HJe := Lib.hid (RefAt.below (HJd.out.drewN _) hb); clear hb)
                    | (go_at_call 14; fail))
                  go_roundg (N - (i + 1))
                  case measure => omega
                  case rel => exact ⟨i + 1, by omega, by go_num, ⟨⟨a1, none⟩, HIe.out, HJe.out, ha1⟩, HBe.out⟩
      · have HEn := Lib.hid (fun w1 => inEndNil_ok w1)
        by_cases hiN1 : i < N
        · have t3 : decide ((i : Int) < (N : Int)) = true := decide_eq_true (by omega)
          have t3' : decide (i < N) = true := decide_eq_true hiN1
          have t4 : decide ((i : Int) < 300) = false := decide_eq_false (by omega)
          have t4' : decide (i < 300) = false := decide_eq_false (by omega)
          go_wp2_with (first
            | (go_at_call 28; refine (inLeftNil_ok _).mono ?_; rintro e w6 ⟨rfl, rfl⟩)
            | (go_at_call 29; refine (HEn.out _).mono ?_; rintro e w6 ⟨r6, rfl, hc6, hb6⟩; have HC := Lib.hid hc6; have HBe := Lib.hid (HBr.out.trans (Below.mono hb6 HBr.out.size)); clear hc6 hb6)
            | (go_at_call 15; refine (Is_chain _ _ 2 2 r6 _ HC.out).mono ?_; rintro e w7 ⟨rfl, rfl⟩))
          go_ret
          exact ⟨by first | rfl | simp, HBe.out⟩
        · have t3 : decide ((i : Int) < (N : Int)) = false := decide_eq_false (by omega)
          have t3' : decide (i < N) = false := decide_eq_false hiN1
          go_wp2_with (first
            | (go_at_call 28; refine (inLeftNil_ok _).mono ?_; rintro e w6 ⟨rfl, rfl⟩)
            | (go_at_call 29; refine (HEn.out _).mono ?_; rintro e w6 ⟨r6, rfl, hc6, hb6⟩; have HC := Lib.hid hc6; have HBe := Lib.hid (HBr.out.trans (Below.mono hb6 HBr.out.size)); clear hc6 hb6)
            | (go_at_call 15; refine (Is_chain _ _ 2 2 r6 _ HC.out).mono ?_; rintro e w7 ⟨rfl, rfl⟩))
          go_ret
          exact ⟨by first | rfl | simp, HBe.out⟩
end Go.Proofs.YtpmhfoleafjlbaaDoor
