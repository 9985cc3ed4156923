/-
  RingRetires' contract. The conditions: the program's contracts; mac's table; what came in lies in memory.
-/
import Derived.Test.YthafeccfcnmefaaDoorRingAwake
import Derived.Test.YthafeccfcnmefaaDoorInts
namespace Go.Proofs.YthafeccfcnmefaaDoor
open Go.RowKit TextNat

theorem up_le (c n : Int) : c ≤ (if upB c n = true then n else c) := by
  split
  · rename_i h
    unfold upB at h
    simp only [Bool.and_eq_true, decide_eq_true_eq] at h
    omega
  · omega
theorem alive_gone {c c' o : Int} (h : aliveB c o = false) (hc : c ≤ c') : aliveB c' o = false := by
  unfold aliveB at *
  simp only [Bool.and_eq_false_iff, decide_eq_false_iff_not] at *
  omega
theorem alive_self {m : ByteArray} {c : Int} (h : rightB m c = true) : aliveB c c = true := by
  have := right_bounds h
  unfold aliveB
  simp only [Bool.and_eq_true, decide_eq_true_eq]
  omega
theorem alive_prev {m : ByteArray} {c : Int} (h : rightB m c = true) (h0 : 0 < c) : aliveB c (c - 1) = true := by
  have := right_bounds h
  unfold aliveB
  simp only [Bool.and_eq_true, decide_eq_true_eq]
  omega
theorem alive_neg (c : Int) : aliveB c (-1) = false := by
  unfold aliveB
  simp
set_option maxRecDepth 100000 in
set_option maxHeartbeats 8000000 in
theorem retires_true {R : Rng} (hN : RNewOk R) (hK : KeyOk R) (hA : AliveOk R) (hC : CurrentOk R) (hU : RaiseOk R) (c o : Int) (pp : Option Addr) (cap : Nat) (zs : List Int) (w : World) (hP : Parts w) (hc : I64 c) (ho : I64 o) (hz : Ints w pp zs) (hl : zs.length ≤ 9223372036854775807) :
    Calls Tryd.prog 4 #[.int .i64 c, .int .i64 o, .slice pp zs.length cap] w fun e w' => e = .returned (.bool true) ∧ Below w.heap.size w w' := by
  have HAw := Lib.hid (awake_true hN hK hA w hP)
  have HN := Lib.hid (fun w1 => hN ⟨#[109]⟩ c w1 (by decide) hc)
  have HZ := Lib.hid hz
  have IO := Lib.hid ho
  replace hA := Lib.hid hA
  replace hC := Lib.hid hC
  replace hU := Lib.hid hU
  obtain ⟨N, hNN⟩ : ∃ N, N = zs.length := ⟨_, rfl⟩
  have HNN := Lib.hid hNN
  have hN9 : N ≤ 9223372036854775807 := by omega
  rw [← hNN]
  clear hN hK hP hc ho hz hl hNN
  go_enter Tryd.func4, Tryd.ntmps4
  go_wp2_with fail
  refine HAw.out.mono ?_
  rintro e w1 ⟨rfl, hb⟩
  have HB := Lib.hid hb
  clear hb HAw
  go_wp2_with fail
  refine (HN.out w1).mono ?_
  rintro e w2 ⟨h2, hb⟩
  have HB2 := Lib.hid (HB.out.trans (hb.mono HB.out.size))
  have HBs := Lib.hid HB.out.size
  by_cases hr : rightB ⟨#[109]⟩ c = true
  case neg =>
    rw [if_neg hr] at h2
    obtain ⟨x, rfl, hx⟩ := h2
    obtain ⟨T, u, rfl⟩ := hx.iface
    clear hx hr hb HB
    go_wp2
    go_ret
    exact ⟨rfl, HB2.out⟩
  case pos =>
    rw [if_pos hr] at h2
    obtain ⟨b, rfl, h2⟩ := h2
    have HH := Lib.hid (show HasR R w.heap.size w2 b ⟨#[109]⟩ c from let ⟨S, a, d⟩ := h2; ⟨S, a, fun k hk => Nat.le_trans HBs.out (d k hk)⟩)
    have HR := Lib.hid hr
    clear h2 hb HB hr HN HBs
    go_wp2_with fail
    refine (HasR.alive hA.out HH.out HR.out IO.out).mono ?_
    rintro e w3 ⟨rfl, hb⟩
    replace HH := Lib.hid (HH.out.below hb)
    have HB3 := Lib.hid (HB2.out.trans (hb.mono HB2.out.size))
    obtain ⟨al, hal⟩ : ∃ al, al = aliveB c o := ⟨_, rfl⟩
    have HAL := Lib.hid hal
    rw [← hal]
    clear hb HB2 hal
    go_wp2_with fail
    go_loopg [10] N (fun gh s10 wx => ∃ (i : Nat) (c' : Int), i + gh = N ∧ s10 = .int .i64 (i : Int) ∧ c ≤ c' ∧ rightB ⟨#[109]⟩ c' = true ∧ HasR R w.heap.size wx b ⟨#[109]⟩ c' ∧ Below w.heap.size w wx)
    case atStart => exact ⟨0, c, by omega, by go_num, Int.le_refl _, HR.out, HH.out, HB3.out⟩
    case round =>
      obtain ⟨i, c', hi, rfl, hcc, hr2, hh, hb⟩ := hrel
      clear HH HB3
      have HH := Lib.hid hh
      have HB := Lib.hid hb
      have HR2 := Lib.hid hr2
      have HCC := Lib.hid hcc
      have HI := Lib.hid hi
      clear hh hb hr2 hcc hi
      have hmo : I64 (-1) := by decide
      by_cases hin : i < N ∧ i < 100
      case neg =>
        have HG := Lib.hid (show decide (c ≤ c') = true from decide_eq_true HCC.out)
        have hg := HG.out
        by_cases h1 : i < N
        · have u1 : decide ((i : Int) < (N : Int)) = true := decide_eq_true (by omega)
          have u1' : decide (i < N) = true := decide_eq_true h1
          have u2 : decide ((i : Int) < 100) = false := decide_eq_false (by omega)
          have u2' : decide (i < 100) = false := decide_eq_false (by omega)
          clear hin h1
          go_wp2_with (go_at_call 13; refine (HasR.current hC.out HH.out HR2.out).mono ?_; rintro e w6 ⟨rfl, hb⟩; replace HB := Lib.hid (HB.out.trans (hb.mono HB.out.size)); clear hb)
          go_ret
          exact ⟨rfl, HB.out⟩
        · have u1 : decide ((i : Int) < (N : Int)) = false := decide_eq_false (by omega)
          have u1' : decide (i < N) = false := decide_eq_false h1
          clear hin h1
          go_wp2_with (go_at_call 13; refine (HasR.current hC.out HH.out HR2.out).mono ?_; rintro e w6 ⟨rfl, hb⟩; replace HB := Lib.hid (HB.out.trans (hb.mono HB.out.size)); clear hb)
          go_ret
          exact ⟨rfl, HB.out⟩
      case pos =>
        have u1 : decide ((i : Int) < (N : Int)) = true := decide_eq_true (by omega)
        have u1' : decide (i < N) = true := decide_eq_true hin.1
        have u2 : decide ((i : Int) < 100) = true := decide_eq_true (by omega)
        have u2' : decide (i < 100) = true := decide_eq_true hin.2
        obtain ⟨z, hz⟩ : ∃ z, zs[i]? = some z := ⟨_, List.getElem?_eq_getElem (by rw [← HNN.out]; exact hin.1)⟩
        obtain ⟨hzr, bz, off, rfl, hcz⟩ := (HZ.out.grown HB.out) i z hz
        have IZ := Lib.hid (show I64 z from hzr)
        have HIN := Lib.hid hin
        have hiN : i < N := hin.1
        clear hz hzr hin
        go_wp2_with fail
        refine (HasR.raise hU.out HH.out HB.out.size HR2.out IZ.out).mono ?_
        rintro e w5 ⟨rfl, hh, hb⟩
        obtain ⟨d, hd⟩ : ∃ d, d = if upB c' z = true then z else c' := ⟨_, rfl⟩
        have HCD := Lib.hid (show c ≤ d by rw [hd]; exact Int.le_trans HCC.out (up_le c' z))
        have HR3 := Lib.hid (show rightB ⟨#[109]⟩ d = true by rw [hd]; exact right_up HR2.out)
        rw [← hd] at hh
        replace HH := Lib.hid hh
        replace HB := Lib.hid (HB.out.trans hb)
        obtain ⟨up, hup⟩ : ∃ up, up = upB c' z := ⟨_, rfl⟩
        rw [← hup]
        have IC := Lib.hid (show I64 d by have := right_bounds HR3.out; unfold I64; omega)
        have IP := Lib.hid (show I64 (d - 1) by have := right_bounds HR3.out; unfold I64; omega)
        have kp : IntKind.i64.wrap (d - 1) = d - 1 := by rw [IntKind.wrap_i64]; have := right_bounds HR3.out; omega
        have g1 := alive_self HR3.out
        have g3 := alive_neg d
        clear hd hh hb hup hcz
        cases al with
        | true =>
          by_cases hd0 : 0 < d
          · have v1 : decide ((0 : Int) < d) = true := decide_eq_true hd0
            have g2 := alive_prev HR3.out hd0
            clear hd0
            go_wp2_with (first
              | (go_at_call 13; refine (HasR.current hC.out HH.out HR3.out).mono ?_; rintro e w6 ⟨rfl, hb⟩; replace HH := Lib.hid (HH.out.below hb); replace HB := Lib.hid (HB.out.trans (hb.mono HB.out.size)); clear hb)
              | (go_at_call 14; refine (HasR.alive hA.out HH.out HR3.out (by first | exact IO.out | exact IC.out | exact IP.out | decide)).mono ?_; rintro e w6 ⟨rfl, hb⟩; replace HH := Lib.hid (HH.out.below hb); replace HB := Lib.hid (HB.out.trans (hb.mono HB.out.size)); clear hb))
            go_roundg (N - (i + 1))
            case measure => have := HI.out; have := HIN.out; omega
            case rel => exact ⟨i + 1, d, by have := HIN.out; omega, by go_num, HCD.out, HR3.out, HH.out, HB.out⟩
          · have v1 : decide ((0 : Int) < d) = false := decide_eq_false hd0
            clear hd0
            go_wp2_with (first
              | (go_at_call 13; refine (HasR.current hC.out HH.out HR3.out).mono ?_; rintro e w6 ⟨rfl, hb⟩; replace HH := Lib.hid (HH.out.below hb); replace HB := Lib.hid (HB.out.trans (hb.mono HB.out.size)); clear hb)
              | (go_at_call 14; refine (HasR.alive hA.out HH.out HR3.out (by first | exact IO.out | exact IC.out | exact IP.out | decide)).mono ?_; rintro e w6 ⟨rfl, hb⟩; replace HH := Lib.hid (HH.out.below hb); replace HB := Lib.hid (HB.out.trans (hb.mono HB.out.size)); clear hb))
            go_roundg (N - (i + 1))
            case measure => have := HI.out; have := HIN.out; omega
            case rel => exact ⟨i + 1, d, by have := HIN.out; omega, by go_num, HCD.out, HR3.out, HH.out, HB.out⟩
        | false =>
          have g0 := alive_gone HAL.out.symm HCD.out
          by_cases hd0 : 0 < d
          · have v1 : decide ((0 : Int) < d) = true := decide_eq_true hd0
            have g2 := alive_prev HR3.out hd0
            clear hd0
            go_wp2_with (first
              | (go_at_call 13; refine (HasR.current hC.out HH.out HR3.out).mono ?_; rintro e w6 ⟨rfl, hb⟩; replace HH := Lib.hid (HH.out.below hb); replace HB := Lib.hid (HB.out.trans (hb.mono HB.out.size)); clear hb)
              | (go_at_call 14; refine (HasR.alive hA.out HH.out HR3.out (by first | exact IO.out | exact IC.out | exact IP.out | decide)).mono ?_; rintro e w6 ⟨rfl, hb⟩; replace HH := Lib.hid (HH.out.below hb); replace HB := Lib.hid (HB.out.trans (hb.mono HB.out.size)); clear hb))
            go_roundg (N - (i + 1))
            case measure => have := HI.out; have := HIN.out; omega
            case rel => exact ⟨i + 1, d, by have := HIN.out; omega, by go_num, HCD.out, HR3.out, HH.out, HB.out⟩
          · have v1 : decide ((0 : Int) < d) = false := decide_eq_false hd0
            clear hd0
            go_wp2_with (first
              | (go_at_call 13; refine (HasR.current hC.out HH.out HR3.out).mono ?_; rintro e w6 ⟨rfl, hb⟩; replace HH := Lib.hid (HH.out.below hb); replace HB := Lib.hid (HB.out.trans (hb.mono HB.out.size)); clear hb)
              | (go_at_call 14; refine (HasR.alive hA.out HH.out HR3.out (by first | exact IO.out | exact IC.out | exact IP.out | decide)).mono ?_; rintro e w6 ⟨rfl, hb⟩; replace HH := Lib.hid (HH.out.below hb); replace HB := Lib.hid (HB.out.trans (hb.mono HB.out.size)); clear hb))
            go_roundg (N - (i + 1))
            case measure => have := HI.out; have := HIN.out; omega
            case rel => exact ⟨i + 1, d, by have := HIN.out; omega, by go_num, HCD.out, HR3.out, HH.out, HB.out⟩
end Go.Proofs.YthafeccfcnmefaaDoor
