/-
  FrameFinds' contract: Find tells each beginning; within a frame there is none but its own. The conditions: the program's contracts; the variables' cells.
-/
import Derived.Test.YtjijlfohlmhlkaaDoorFrameLaws
namespace Go.Proofs.YtjijlfohlmhlkaaDoor
open Go.RowKit FrameMath TextNat

set_option maxRecDepth 100000 in
set_option maxHeartbeats 4000000 in
theorem finds_true (hS : SealOk) (hO : OpenOk) (hF : FindOk) (s : ByteArray) (k : Int) (x : ByteArray) (w : World) (hT : Tables w) (hs : s.size ≤ 9223372036854775807) (hk : I64 k) (hx : x.size ≤ 9223372036854775807) :
    Calls Tryd.prog 7 #[.string s, .int .i64 k, .string x] w fun e w' => e = .returned (.bool true) ∧ Below w.heap.size w w' := by
  have HA := Lib.hid (awake_true hS hO w hT)
  have HT := Lib.hid hT
  replace hS := Lib.hid hS
  replace hF := Lib.hid hF
  clear hT hO
  go_enter Tryd.func7, Tryd.ntmps7
  go_wp2_with fail
  refine HA.out.mono ?_
  rintro e w0 ⟨rfl, hb⟩
  have HB := Lib.hid hb
  have HT0 := Lib.hid (HT.out.grown hb)
  clear HA hb HT
  by_cases h1 : 5000 < s.size
  · have t1 : decide ((5000 : Int) < (s.size : Int)) = true := decide_eq_true (by omega)
    have t1' : decide (5000 < s.size) = true := decide_eq_true h1
    clear h1
    go_wp2
    go_ret
    exact ⟨rfl, HB.out⟩
  have t1 : decide ((5000 : Int) < (s.size : Int)) = false := decide_eq_false (by omega)
  have t1' : decide (5000 < s.size) = false := decide_eq_false h1
  by_cases h2 : 3000 < x.size
  · have t2 : decide ((3000 : Int) < (x.size : Int)) = true := decide_eq_true (by omega)
    have t2' : decide (3000 < x.size) = true := decide_eq_true h2
    clear h1 h2
    go_wp2
    go_ret
    exact ⟨rfl, HB.out⟩
  have t2 : decide ((3000 : Int) < (x.size : Int)) = false := decide_eq_false (by omega)
  have t2' : decide (3000 < x.size) = false := decide_eq_false h2
  obtain ⟨l, hl⟩ : ∃ l, l = nats s := ⟨_, rfl⟩
  have HL := Lib.hid hl
  have HLL := Lib.hid (show l.length = s.size by rw [hl, nats_len])
  clear hl
  go_wp2_with fail
  go_loopg [7, 8] s.size (fun gh s7 s8 wx => ∃ i : Nat, i + gh = s.size ∧ s7 = .int .i64 (-1) ∧ s8 = .int .i64 (i : Int) ∧ Hid (∀ j : Nat, j < i → k ≤ (j : Int) → l[j]? ≠ some 1) ∧ wx = w0)
  case atStart => exact ⟨0, by omega, rfl, by go_num, Lib.hid (fun j hj => by omega), rfl⟩
  case round =>
    obtain ⟨i, hi, rfl, rfl, HJ, rfl⟩ := hrel
    by_cases hiS : i < s.size
    · have q1 : decide ((i : Int) < (s.size : Int)) = true := decide_eq_true (by omega)
      have q1' : decide (i < s.size) = true := decide_eq_true hiS
      obtain ⟨y, hy⟩ : ∃ y, y = (s[i]'hiS).toNat := ⟨_, rfl⟩
      have hyx : ((s[i]'hiS).toNat : Int) = (y : Int) := by rw [hy]
      have HY := Lib.hid (show l[i]? = some y by rw [HL.out, hy]; exact nats_at s i hiS)
      by_cases h3 : k ≤ (i : Int)
      · have q2 : decide (k ≤ (i : Int)) = true := decide_eq_true h3
        by_cases h4 : y = 1
        · have q3 : ((y : Int) == 1) = true := by rw [beq_iff_eq]; omega
          have HW := Lib.hid (find_at (l := l) h3 (by rw [HY.out, h4]) HJ.out)
          rw [HL.out] at HW
          clear hy h3 h4
          go_wp2_with fail
          refine (hS.out x wr HT0.out hx).mono ?_
          rintro e w2 ⟨h5, hb⟩
          rw [if_pos (by omega)] at h5
          subst h5
          replace HB := Lib.hid (HB.out.trans (hb.mono HB.out.size))
          have hpx : (nats x).length ≤ 8192 := by rw [nats_len]; omega
          obtain ⟨S, hS'⟩ : ∃ S, S = txt (framed (nats x)) := ⟨_, rfl⟩
          have HSN := Lib.hid (show nats S = framed (nats x) by rw [hS']; exact nats_framed hpx (nats_ok x))
          have hSz : S.size ≤ 100000 := by rw [hS', txt_framed_size]; omega
          have HF0 := Lib.hid (find_first (nats x))
          have HF1 := Lib.hid (find_behind hpx (nats_ok x))
          rw [← HSN.out] at HF0 HF1
          rw [← hS']
          clear hb hS' hpx
          go_wp2_with fail
          refine (hF.out s k w2 (by omega) hk).mono ?_
          rintro e w3 ⟨rfl, hb⟩
          rw [HW.out]
          replace HB := Lib.hid (HB.out.trans (hb.mono HB.out.size))
          clear hb
          go_wp2_with fail
          refine (hF.out S 0 w3 hSz (by decide)).mono ?_
          rintro e w4 ⟨rfl, hb⟩
          rw [HF0.out]
          replace HB := Lib.hid (HB.out.trans (hb.mono HB.out.size))
          clear hb
          go_wp2_with fail
          refine (hF.out S 1 w4 hSz (by decide)).mono ?_
          rintro e w5 ⟨rfl, hb⟩
          rw [HF1.out]
          replace HB := Lib.hid (HB.out.trans (hb.mono HB.out.size))
          clear hb
          go_wp2
          go_ret
          exact ⟨by first | rfl | simp, HB.out⟩
        · have q3 : ((y : Int) == 1) = false := by rw [beq_eq_false_iff_ne]; omega
          have HJ2 := Lib.hid (show ∀ j : Nat, j < i + 1 → k ≤ (j : Int) → l[j]? ≠ some 1 from fun j hj hkj => by
            by_cases e : j < i
            · exact HJ.out j e hkj
            · obtain rfl : j = i := by omega
              rw [HY.out]
              simpa using h4)
          clear hy h3 h4
          go_wp2_with fail
          go_roundg (s.size - (i + 1))
          case measure => omega
          case rel => exact ⟨i + 1, by omega, rfl, by go_num, HJ2, rfl⟩
      · have q2 : decide (k ≤ (i : Int)) = false := decide_eq_false h3
        have HJ2 := Lib.hid (show ∀ j : Nat, j < i + 1 → k ≤ (j : Int) → l[j]? ≠ some 1 from fun j hj hkj => by
          by_cases e : j < i
          · exact HJ.out j e hkj
          · omega)
        clear hy h3
        go_wp2_with fail
        go_roundg (s.size - (i + 1))
        case measure => omega
        case rel => exact ⟨i + 1, by omega, rfl, by go_num, HJ2, rfl⟩
    · have q1 : decide ((i : Int) < (s.size : Int)) = false := decide_eq_false (by omega)
      have q1' : decide (i < s.size) = false := decide_eq_false hiS
      have HW := Lib.hid (find_none (l := l) (k := k) (fun j hkj h => HJ.out j (by have := (List.getElem?_eq_some_iff.1 h).1; rw [HLL.out] at this; omega) hkj h))
      rw [HL.out] at HW
      go_wp2_with fail
      refine (hS.out x wr HT0.out hx).mono ?_
      rintro e w2 ⟨h5, hb⟩
      rw [if_pos (by omega)] at h5
      subst h5
      replace HB := Lib.hid (HB.out.trans (hb.mono HB.out.size))
      have hpx : (nats x).length ≤ 8192 := by rw [nats_len]; omega
      obtain ⟨S, hS'⟩ : ∃ S, S = txt (framed (nats x)) := ⟨_, rfl⟩
      have HSN := Lib.hid (show nats S = framed (nats x) by rw [hS']; exact nats_framed hpx (nats_ok x))
      have hSz : S.size ≤ 100000 := by rw [hS', txt_framed_size]; omega
      have HF0 := Lib.hid (find_first (nats x))
      have HF1 := Lib.hid (find_behind hpx (nats_ok x))
      rw [← HSN.out] at HF0 HF1
      rw [← hS']
      clear hb hS' hpx
      go_wp2_with fail
      refine (hF.out s k w2 (by omega) hk).mono ?_
      rintro e w3 ⟨rfl, hb⟩
      rw [HW.out]
      replace HB := Lib.hid (HB.out.trans (hb.mono HB.out.size))
      clear hb
      go_wp2_with fail
      refine (hF.out S 0 w3 hSz (by decide)).mono ?_
      rintro e w4 ⟨rfl, hb⟩
      rw [HF0.out]
      replace HB := Lib.hid (HB.out.trans (hb.mono HB.out.size))
      clear hb
      go_wp2_with fail
      refine (hF.out S 1 w4 hSz (by decide)).mono ?_
      rintro e w5 ⟨rfl, hb⟩
      rw [HF1.out]
      replace HB := Lib.hid (HB.out.trans (hb.mono HB.out.size))
      clear hb
      go_wp2
      go_ret
      exact ⟨by first | rfl | simp, HB.out⟩
end Go.Proofs.YtjijlfohlmhlkaaDoor
