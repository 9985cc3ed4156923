/-
  RingPlays' contract. The conditions: the program's contracts; mac's table; what came in lies in memory.
-/
import Derived.Test.YthafeccfcnmefaaDoorRingAwake
import Derived.Test.YthafeccfcnmefaaDoorRingRetires
import Derived.Test.YthafeccfcnmefaaDoorRingRef
import Derived.Test.YthafeccfcnmefaaDoorRefTag
namespace Go.Proofs.YthafeccfcnmefaaDoor
open Go.RowKit TextNat

/-- Pairs of numbers in a slice. -/
def PairsIn (w : World) (pp : Option Addr) (zs : List (Int × Int)) : Prop := ∀ (i : Nat) (z : Int × Int), zs[i]? = some z → I64 z.1 ∧ I64 z.2 ∧ ∃ b off, pp = some ⟨b, off, none⟩ ∧ w.cell? ⟨b, off + i * 2, none⟩ = some (.int .i64 z.1) ∧ w.cell? ⟨b, off + i * 2 + 1, none⟩ = some (.int .i64 z.2)
theorem PairsIn.grown {w w' : World} {pp : Option Addr} {zs : List (Int × Int)} (h : PairsIn w pp zs) (hb : Below w.heap.size w w') : PairsIn w' pp zs := fun i z hz => by
  obtain ⟨h1, h2, b, off, h3, h4, h5⟩ := h i z hz
  exact ⟨h1, h2, b, off, h3, (hb.cell (p := ⟨b, off + i * 2, none⟩) (World.block_lt_of_cell? w _ h4)).trans h4, (hb.cell (p := ⟨b, off + i * 2 + 1, none⟩) (World.block_lt_of_cell? w _ h5)).trans h5⟩
theorem ref_key (m : ByteArray) (n : Int) (w : World) (h : m.size ≤ 5000) : Calls Tryd.prog 15 #[.string m, .int .i64 n] w fun e w' => e = .returned (.string (keyOf m n)) ∧ Below w.heap.size w w' := refDerive m n w h
set_option maxRecDepth 100000 in
set_option maxHeartbeats 8000000 in
theorem plays_true {R : Rng} (hN : RNewOk R) (hK : KeyOk R) (hA : AliveOk R) (hC : CurrentOk R) (hU : RaiseOk R) (m : ByteArray) (c : Int) (pp : Option Addr) (cap : Nat) (zs : List (Int × Int)) (w : World) (hP : Parts w) (hm : m.size ≤ 9223372036854775807) (hc : I64 c) (hz : PairsIn w pp zs) (hl : zs.length ≤ 9223372036854775807) :
    Calls Tryd.prog 3 #[.string m, .int .i64 c, .slice pp zs.length cap] w fun e w' => e = .returned (.bool true) ∧ Below w.heap.size w w' := by
  have HAw := Lib.hid (awake_true hN hK hA w hP)
  have HN := Lib.hid (fun w1 => hN m c w1 hm hc)
  have HRf := Lib.hid (fun w1 => ref_right m c w1 hm)
  have HZ := Lib.hid hz
  have HP := Lib.hid hP
  replace hA := Lib.hid hA
  replace hC := Lib.hid hC
  replace hU := Lib.hid hU
  replace hK := Lib.hid hK
  obtain ⟨N, hNN⟩ : ∃ N, N = zs.length := ⟨_, rfl⟩
  have HNN := Lib.hid hNN
  have hN9 : N ≤ 9223372036854775807 := by omega
  obtain ⟨k, hk⟩ : ∃ k, k = m.size := ⟨_, rfl⟩
  have e1 : (m.size : Int) = (k : Int) := by omega
  rw [← hNN]
  clear hN hP hc hz hl hNN hk hm
  go_enter Tryd.func3, Tryd.ntmps3
  go_wp2_with fail
  refine HAw.out.mono ?_
  rintro e w1 ⟨rfl, hb⟩
  have HB := Lib.hid hb
  clear hb HAw
  by_cases hbig : 1000 < k
  · have t1 : decide ((1000 : Int) < (k : Int)) = true := decide_eq_true (by omega)
    have t1' : decide (1000 < k) = true := decide_eq_true hbig
    clear hbig
    go_wp2
    go_ret
    exact ⟨rfl, HB.out⟩
  have t1 : decide ((1000 : Int) < (k : Int)) = false := decide_eq_false (by omega)
  have t1' : decide (1000 < k) = false := decide_eq_false hbig
  clear hbig
  go_wp2_with fail
  refine (HN.out w1).mono ?_
  rintro e w2 ⟨h2, hb⟩
  have HB2 := Lib.hid (HB.out.trans (hb.mono HB.out.size))
  have HBs := Lib.hid HB.out.size
  by_cases hr : rightB m c = true
  case neg =>
    rw [if_neg hr] at h2
    obtain ⟨x, rfl, hx⟩ := h2
    obtain ⟨T, u, rfl⟩ := hx.iface
    have HX := Lib.hid hx
    replace hr : rightB m c = false := by simpa using hr
    rw [hr] at HRf
    clear hx hr hb HB HN
    go_wp2_with (first
      | (go_at_call 8; refine (HRf.out _).mono ?_; rintro e w6 ⟨rfl, hw⟩; rw [hw]; clear hw)
      | (go_at_call 9; refine (is_err HX.out 1).mono ?_; rintro e w6 ⟨rfl, hw⟩; rw [hw]; clear hw))
    go_ret
    exact ⟨rfl, HB2.out⟩
  case pos =>
    rw [if_pos hr] at h2
    obtain ⟨b, rfl, h2⟩ := h2
    have HH := Lib.hid (show HasR R w.heap.size w2 b m c from let ⟨S, a, d⟩ := h2; ⟨S, a, fun k hk => Nat.le_trans HBs.out (d k hk)⟩)
    have HR := Lib.hid hr
    rw [hr] at HRf
    clear h2 hb HB hr HN HBs
    go_wp2_with (go_at_call 8; refine (HRf.out _).mono ?_; rintro e w6 ⟨rfl, hw⟩; rw [hw]; clear hw)
    go_loopg [1, 9] N (fun gh s1 s9 wx => ∃ (i : Nat) (c' : Int), i + gh = N ∧ s9 = .int .i64 (i : Int) ∧ s1 = .int .i64 c' ∧ rightB m c' = true ∧ HasR R w.heap.size wx b m c' ∧ Below w.heap.size w wx)
    case atStart => exact ⟨0, c, by omega, by go_num, rfl, HR.out, HH.out, HB2.out⟩
    case round =>
      obtain ⟨i, c', hi, rfl, rfl, hr2, hh, hb⟩ := hrel
      clear HH HB2
      have HH := Lib.hid hh
      have HB := Lib.hid hb
      have HR2 := Lib.hid hr2
      have HI := Lib.hid hi
      clear hh hb hr2 hi
      by_cases hin : i < N ∧ i < 100
      case neg =>
        by_cases h1 : i < N
        · have u1 : decide ((i : Int) < (N : Int)) = true := decide_eq_true (by omega)
          have u1' : decide (i < N) = true := decide_eq_true h1
          have u2 : decide ((i : Int) < 100) = false := decide_eq_false (by omega)
          have u2' : decide (i < 100) = false := decide_eq_false (by omega)
          clear hin h1
          go_wp2
          go_ret
          exact ⟨rfl, HB.out⟩
        · have u1 : decide ((i : Int) < (N : Int)) = false := decide_eq_false (by omega)
          have u1' : decide (i < N) = false := decide_eq_false h1
          clear hin h1
          go_wp2
          go_ret
          exact ⟨rfl, HB.out⟩
      case pos =>
        have u1 : decide ((i : Int) < (N : Int)) = true := decide_eq_true (by omega)
        have u1' : decide (i < N) = true := decide_eq_true hin.1
        have u2 : decide ((i : Int) < 100) = true := decide_eq_true (by omega)
        have u2' : decide (i < 100) = true := decide_eq_true hin.2
        obtain ⟨⟨a, n⟩, hz⟩ : ∃ z, zs[i]? = some z := ⟨_, List.getElem?_eq_getElem (by rw [← HNN.out]; exact hin.1)⟩
        obtain ⟨ha, hn, bz, off, rfl, hca, hcn⟩ := (HZ.out.grown HB.out) i _ hz
        have IA := Lib.hid ha
        have IN := Lib.hid hn
        have hca' : World.cell? _ ⟨bz, off + i * 2, none⟩ = some (.int .i64 a) := hca
        have hcn' : World.cell? _ ⟨bz, off + i * 2 + 1, none⟩ = some (.int .i64 n) := hcn
        have HCN := Lib.hid hcn'
        have HIN := Lib.hid hin
        have hiN : i < N := hin.1
        have HZI := Lib.hid hz
        clear hz ha hn hin hca hcn hcn' HCN
        cases v1 : decide (c' < a) <;> cases v2 : decide (a ≤ 1099511627776)
        · -- neither
          have HU2 := Lib.hid (show upB c' a = false by unfold upB; rw [v1, v2]; rfl)
          go_wp2_with fail
          refine (HasR.raise hU.out HH.out HB.out.size HR2.out IA.out).mono ?_
          rintro e w5 ⟨rfl, hh, hb⟩
          have HR3 := Lib.hid (right_up (n := a) HR2.out)
          rw [HU2.out] at hh HR3 ⊢
          rw [if_neg (by decide)] at hh HR3
          replace HH := Lib.hid hh
          replace HB := Lib.hid (HB.out.trans hb)
          obtain ⟨_, _, bz', off', hbo, _, hcn5⟩ := (HZ.out.grown HB.out) i _ HZI.out
          obtain ⟨rfl, rfl⟩ : bz' = bz ∧ off' = off := by simpa using hbo.symm
          have hcn6 : World.cell? _ ⟨bz', off' + i * 2 + 1, none⟩ = some (.int .i64 n) := hcn5
          clear hh hb hcn5 hca' hbo
          have DB := Lib.hid (show 0 ≤ c' ∧ c' ≤ 1099511627776 from let q := right_bounds HR3.out; ⟨q.1, q.2.1⟩)
          go_wp2_with fail
          refine (HasR.key hK.out HH.out HR3.out IN.out (HP.out.grown HB.out)).mono ?_
          rintro e w4 ⟨hk, hb⟩
          replace HH := Lib.hid (HH.out.below hb)
          replace HB := Lib.hid (HB.out.trans (hb.mono HB.out.size))
          clear hb
          by_cases hal : aliveB c' n = true
          · rw [if_pos hal] at hk
            obtain rfl := hk
            obtain ⟨K, hKK⟩ : ∃ K, K = keyOf m n := ⟨_, rfl⟩
            have HK := Lib.hid hKK
            rw [← hKK]
            clear hKK
            go_wp2_with (first
                | (go_at_call 12; refine (ref_alive c' n _ DB.out).mono ?_; rintro e w6 ⟨rfl, hw⟩; rw [hw]; clear hw)
                | (go_at_call 13; refine (HasR.current hC.out HH.out HR3.out).mono ?_; rintro e w6 ⟨rfl, hb⟩; replace HH := Lib.hid (HH.out.below hb); replace HB := Lib.hid (HB.out.trans (hb.mono HB.out.size)); clear hb)
                | (go_at_call 14; refine (HasR.alive hA.out HH.out HR3.out IN.out).mono ?_; rintro e w6 ⟨rfl, hb⟩; replace HH := Lib.hid (HH.out.below hb); replace HB := Lib.hid (HB.out.trans (hb.mono HB.out.size)); clear hb)
                | (go_at_call 15; refine (ref_key m n _ (by have := right_bounds HR3.out; omega)).mono ?_; rintro e w6 ⟨rfl, hb⟩; rw [← HK.out]; replace HH := Lib.hid (HH.out.below hb); replace HB := Lib.hid (HB.out.trans (hb.mono HB.out.size)); clear hb))
            go_roundg (N - (i + 1))
            case measure => have := HI.out; have := HIN.out; omega
            case rel => exact ⟨i + 1, c', by have := HIN.out; omega, by go_num, rfl, HR3.out, HH.out, HB.out⟩
          · rw [if_neg hal] at hk
            obtain ⟨x, rfl, hx⟩ := hk
            obtain ⟨T, u, rfl⟩ := hx.iface
            have HX := Lib.hid hx
            replace hal : aliveB c' n = false := by simpa using hal
            clear hx
            go_wp2_with (first
                | (go_at_call 12; refine (ref_alive c' n _ DB.out).mono ?_; rintro e w6 ⟨rfl, hw⟩; rw [hw]; clear hw)
                | (go_at_call 13; refine (HasR.current hC.out HH.out HR3.out).mono ?_; rintro e w6 ⟨rfl, hb⟩; replace HH := Lib.hid (HH.out.below hb); replace HX := Lib.hid (HX.out.below hb); replace HB := Lib.hid (HB.out.trans (hb.mono HB.out.size)); clear hb)
                | (go_at_call 14; refine (HasR.alive hA.out HH.out HR3.out IN.out).mono ?_; rintro e w6 ⟨rfl, hb⟩; replace HH := Lib.hid (HH.out.below hb); replace HX := Lib.hid (HX.out.below hb); replace HB := Lib.hid (HB.out.trans (hb.mono HB.out.size)); clear hb)
                | (go_at_call 9; refine (is_err HX.out 9).mono ?_; rintro e w6 ⟨rfl, hw⟩; rw [hw]; clear hw))
            go_roundg (N - (i + 1))
            case measure => have := HI.out; have := HIN.out; omega
            case rel => exact ⟨i + 1, c', by have := HIN.out; omega, by go_num, rfl, HR3.out, HH.out, HB.out⟩
        · -- not above
          have HU2 := Lib.hid (show upB c' a = false by unfold upB; rw [v1, v2]; rfl)
          go_wp2_with fail
          refine (HasR.raise hU.out HH.out HB.out.size HR2.out IA.out).mono ?_
          rintro e w5 ⟨rfl, hh, hb⟩
          have HR3 := Lib.hid (right_up (n := a) HR2.out)
          rw [HU2.out] at hh HR3 ⊢
          rw [if_neg (by decide)] at hh HR3
          replace HH := Lib.hid hh
          replace HB := Lib.hid (HB.out.trans hb)
          obtain ⟨_, _, bz', off', hbo, _, hcn5⟩ := (HZ.out.grown HB.out) i _ HZI.out
          obtain ⟨rfl, rfl⟩ : bz' = bz ∧ off' = off := by simpa using hbo.symm
          have hcn6 : World.cell? _ ⟨bz', off' + i * 2 + 1, none⟩ = some (.int .i64 n) := hcn5
          clear hh hb hcn5 hca' hbo
          have DB := Lib.hid (show 0 ≤ c' ∧ c' ≤ 1099511627776 from let q := right_bounds HR3.out; ⟨q.1, q.2.1⟩)
          go_wp2_with fail
          refine (HasR.key hK.out HH.out HR3.out IN.out (HP.out.grown HB.out)).mono ?_
          rintro e w4 ⟨hk, hb⟩
          replace HH := Lib.hid (HH.out.below hb)
          replace HB := Lib.hid (HB.out.trans (hb.mono HB.out.size))
          clear hb
          by_cases hal : aliveB c' n = true
          · rw [if_pos hal] at hk
            obtain rfl := hk
            obtain ⟨K, hKK⟩ : ∃ K, K = keyOf m n := ⟨_, rfl⟩
            have HK := Lib.hid hKK
            rw [← hKK]
            clear hKK
            go_wp2_with (first
                | (go_at_call 12; refine (ref_alive c' n _ DB.out).mono ?_; rintro e w6 ⟨rfl, hw⟩; rw [hw]; clear hw)
                | (go_at_call 13; refine (HasR.current hC.out HH.out HR3.out).mono ?_; rintro e w6 ⟨rfl, hb⟩; replace HH := Lib.hid (HH.out.below hb); replace HB := Lib.hid (HB.out.trans (hb.mono HB.out.size)); clear hb)
                | (go_at_call 14; refine (HasR.alive hA.out HH.out HR3.out IN.out).mono ?_; rintro e w6 ⟨rfl, hb⟩; replace HH := Lib.hid (HH.out.below hb); replace HB := Lib.hid (HB.out.trans (hb.mono HB.out.size)); clear hb)
                | (go_at_call 15; refine (ref_key m n _ (by have := right_bounds HR3.out; omega)).mono ?_; rintro e w6 ⟨rfl, hb⟩; rw [← HK.out]; replace HH := Lib.hid (HH.out.below hb); replace HB := Lib.hid (HB.out.trans (hb.mono HB.out.size)); clear hb))
            go_roundg (N - (i + 1))
            case measure => have := HI.out; have := HIN.out; omega
            case rel => exact ⟨i + 1, c', by have := HIN.out; omega, by go_num, rfl, HR3.out, HH.out, HB.out⟩
          · rw [if_neg hal] at hk
            obtain ⟨x, rfl, hx⟩ := hk
            obtain ⟨T, u, rfl⟩ := hx.iface
            have HX := Lib.hid hx
            replace hal : aliveB c' n = false := by simpa using hal
            clear hx
            go_wp2_with (first
                | (go_at_call 12; refine (ref_alive c' n _ DB.out).mono ?_; rintro e w6 ⟨rfl, hw⟩; rw [hw]; clear hw)
                | (go_at_call 13; refine (HasR.current hC.out HH.out HR3.out).mono ?_; rintro e w6 ⟨rfl, hb⟩; replace HH := Lib.hid (HH.out.below hb); replace HX := Lib.hid (HX.out.below hb); replace HB := Lib.hid (HB.out.trans (hb.mono HB.out.size)); clear hb)
                | (go_at_call 14; refine (HasR.alive hA.out HH.out HR3.out IN.out).mono ?_; rintro e w6 ⟨rfl, hb⟩; replace HH := Lib.hid (HH.out.below hb); replace HX := Lib.hid (HX.out.below hb); replace HB := Lib.hid (HB.out.trans (hb.mono HB.out.size)); clear hb)
                | (go_at_call 9; refine (is_err HX.out 9).mono ?_; rintro e w6 ⟨rfl, hw⟩; rw [hw]; clear hw))
            go_roundg (N - (i + 1))
            case measure => have := HI.out; have := HIN.out; omega
            case rel => exact ⟨i + 1, c', by have := HIN.out; omega, by go_num, rfl, HR3.out, HH.out, HB.out⟩
        · -- too great
          have HU2 := Lib.hid (show upB c' a = false by unfold upB; rw [v1, v2]; rfl)
          go_wp2_with fail
          refine (HasR.raise hU.out HH.out HB.out.size HR2.out IA.out).mono ?_
          rintro e w5 ⟨rfl, hh, hb⟩
          have HR3 := Lib.hid (right_up (n := a) HR2.out)
          rw [HU2.out] at hh HR3 ⊢
          rw [if_neg (by decide)] at hh HR3
          replace HH := Lib.hid hh
          replace HB := Lib.hid (HB.out.trans hb)
          obtain ⟨_, _, bz', off', hbo, _, hcn5⟩ := (HZ.out.grown HB.out) i _ HZI.out
          obtain ⟨rfl, rfl⟩ : bz' = bz ∧ off' = off := by simpa using hbo.symm
          have hcn6 : World.cell? _ ⟨bz', off' + i * 2 + 1, none⟩ = some (.int .i64 n) := hcn5
          clear hh hb hcn5 hca' hbo
          have DB := Lib.hid (show 0 ≤ c' ∧ c' ≤ 1099511627776 from let q := right_bounds HR3.out; ⟨q.1, q.2.1⟩)
          go_wp2_with fail
          refine (HasR.key hK.out HH.out HR3.out IN.out (HP.out.grown HB.out)).mono ?_
          rintro e w4 ⟨hk, hb⟩
          replace HH := Lib.hid (HH.out.below hb)
          replace HB := Lib.hid (HB.out.trans (hb.mono HB.out.size))
          clear hb
          by_cases hal : aliveB c' n = true
          · rw [if_pos hal] at hk
            obtain rfl := hk
            obtain ⟨K, hKK⟩ : ∃ K, K = keyOf m n := ⟨_, rfl⟩
            have HK := Lib.hid hKK
            rw [← hKK]
            clear hKK
            go_wp2_with (first
                | (go_at_call 12; refine (ref_alive c' n _ DB.out).mono ?_; rintro e w6 ⟨rfl, hw⟩; rw [hw]; clear hw)
                | (go_at_call 13; refine (HasR.current hC.out HH.out HR3.out).mono ?_; rintro e w6 ⟨rfl, hb⟩; replace HH := Lib.hid (HH.out.below hb); replace HB := Lib.hid (HB.out.trans (hb.mono HB.out.size)); clear hb)
                | (go_at_call 14; refine (HasR.alive hA.out HH.out HR3.out IN.out).mono ?_; rintro e w6 ⟨rfl, hb⟩; replace HH := Lib.hid (HH.out.below hb); replace HB := Lib.hid (HB.out.trans (hb.mono HB.out.size)); clear hb)
                | (go_at_call 15; refine (ref_key m n _ (by have := right_bounds HR3.out; omega)).mono ?_; rintro e w6 ⟨rfl, hb⟩; rw [← HK.out]; replace HH := Lib.hid (HH.out.below hb); replace HB := Lib.hid (HB.out.trans (hb.mono HB.out.size)); clear hb))
            go_roundg (N - (i + 1))
            case measure => have := HI.out; have := HIN.out; omega
            case rel => exact ⟨i + 1, c', by have := HIN.out; omega, by go_num, rfl, HR3.out, HH.out, HB.out⟩
          · rw [if_neg hal] at hk
            obtain ⟨x, rfl, hx⟩ := hk
            obtain ⟨T, u, rfl⟩ := hx.iface
            have HX := Lib.hid hx
            replace hal : aliveB c' n = false := by simpa using hal
            clear hx
            go_wp2_with (first
                | (go_at_call 12; refine (ref_alive c' n _ DB.out).mono ?_; rintro e w6 ⟨rfl, hw⟩; rw [hw]; clear hw)
                | (go_at_call 13; refine (HasR.current hC.out HH.out HR3.out).mono ?_; rintro e w6 ⟨rfl, hb⟩; replace HH := Lib.hid (HH.out.below hb); replace HX := Lib.hid (HX.out.below hb); replace HB := Lib.hid (HB.out.trans (hb.mono HB.out.size)); clear hb)
                | (go_at_call 14; refine (HasR.alive hA.out HH.out HR3.out IN.out).mono ?_; rintro e w6 ⟨rfl, hb⟩; replace HH := Lib.hid (HH.out.below hb); replace HX := Lib.hid (HX.out.below hb); replace HB := Lib.hid (HB.out.trans (hb.mono HB.out.size)); clear hb)
                | (go_at_call 9; refine (is_err HX.out 9).mono ?_; rintro e w6 ⟨rfl, hw⟩; rw [hw]; clear hw))
            go_roundg (N - (i + 1))
            case measure => have := HI.out; have := HIN.out; omega
            case rel => exact ⟨i + 1, c', by have := HIN.out; omega, by go_num, rfl, HR3.out, HH.out, HB.out⟩
        · -- it rises
          have HU2 := Lib.hid (show upB c' a = true by unfold upB; rw [v1, v2]; rfl)
          go_wp2_with fail
          refine (HasR.raise hU.out HH.out HB.out.size HR2.out IA.out).mono ?_
          rintro e w5 ⟨rfl, hh, hb⟩
          have HR3 := Lib.hid (right_up (n := a) HR2.out)
          rw [HU2.out] at hh HR3 ⊢
          rw [if_pos rfl] at hh HR3
          replace HH := Lib.hid hh
          replace HB := Lib.hid (HB.out.trans hb)
          obtain ⟨_, _, bz', off', hbo, _, hcn5⟩ := (HZ.out.grown HB.out) i _ HZI.out
          obtain ⟨rfl, rfl⟩ : bz' = bz ∧ off' = off := by simpa using hbo.symm
          have hcn6 : World.cell? _ ⟨bz', off' + i * 2 + 1, none⟩ = some (.int .i64 n) := hcn5
          clear hh hb hcn5 hca' hbo
          have DB := Lib.hid (show 0 ≤ a ∧ a ≤ 1099511627776 from let q := right_bounds HR3.out; ⟨q.1, q.2.1⟩)
          go_wp2_with fail
          refine (HasR.key hK.out HH.out HR3.out IN.out (HP.out.grown HB.out)).mono ?_
          rintro e w4 ⟨hk, hb⟩
          replace HH := Lib.hid (HH.out.below hb)
          replace HB := Lib.hid (HB.out.trans (hb.mono HB.out.size))
          clear hb
          by_cases hal : aliveB a n = true
          · rw [if_pos hal] at hk
            obtain rfl := hk
            obtain ⟨K, hKK⟩ : ∃ K, K = keyOf m n := ⟨_, rfl⟩
            have HK := Lib.hid hKK
            rw [← hKK]
            clear hKK
            go_wp2_with (first
                | (go_at_call 12; refine (ref_alive a n _ DB.out).mono ?_; rintro e w6 ⟨rfl, hw⟩; rw [hw]; clear hw)
                | (go_at_call 13; refine (HasR.current hC.out HH.out HR3.out).mono ?_; rintro e w6 ⟨rfl, hb⟩; replace HH := Lib.hid (HH.out.below hb); replace HB := Lib.hid (HB.out.trans (hb.mono HB.out.size)); clear hb)
                | (go_at_call 14; refine (HasR.alive hA.out HH.out HR3.out IN.out).mono ?_; rintro e w6 ⟨rfl, hb⟩; replace HH := Lib.hid (HH.out.below hb); replace HB := Lib.hid (HB.out.trans (hb.mono HB.out.size)); clear hb)
                | (go_at_call 15; refine (ref_key m n _ (by have := right_bounds HR3.out; omega)).mono ?_; rintro e w6 ⟨rfl, hb⟩; rw [← HK.out]; replace HH := Lib.hid (HH.out.below hb); replace HB := Lib.hid (HB.out.trans (hb.mono HB.out.size)); clear hb))
            go_roundg (N - (i + 1))
            case measure => have := HI.out; have := HIN.out; omega
            case rel => exact ⟨i + 1, a, by have := HIN.out; omega, by go_num, rfl, HR3.out, HH.out, HB.out⟩
          · rw [if_neg hal] at hk
            obtain ⟨x, rfl, hx⟩ := hk
            obtain ⟨T, u, rfl⟩ := hx.iface
            have HX := Lib.hid hx
            replace hal : aliveB a n = false := by simpa using hal
            clear hx
            go_wp2_with (first
                | (go_at_call 12; refine (ref_alive a n _ DB.out).mono ?_; rintro e w6 ⟨rfl, hw⟩; rw [hw]; clear hw)
                | (go_at_call 13; refine (HasR.current hC.out HH.out HR3.out).mono ?_; rintro e w6 ⟨rfl, hb⟩; replace HH := Lib.hid (HH.out.below hb); replace HX := Lib.hid (HX.out.below hb); replace HB := Lib.hid (HB.out.trans (hb.mono HB.out.size)); clear hb)
                | (go_at_call 14; refine (HasR.alive hA.out HH.out HR3.out IN.out).mono ?_; rintro e w6 ⟨rfl, hb⟩; replace HH := Lib.hid (HH.out.below hb); replace HX := Lib.hid (HX.out.below hb); replace HB := Lib.hid (HB.out.trans (hb.mono HB.out.size)); clear hb)
                | (go_at_call 9; refine (is_err HX.out 9).mono ?_; rintro e w6 ⟨rfl, hw⟩; rw [hw]; clear hw))
            go_roundg (N - (i + 1))
            case measure => have := HI.out; have := HIN.out; omega
            case rel => exact ⟨i + 1, a, by have := HIN.out; omega, by go_num, rfl, HR3.out, HH.out, HB.out⟩
end Go.Proofs.YthafeccfcnmefaaDoor
