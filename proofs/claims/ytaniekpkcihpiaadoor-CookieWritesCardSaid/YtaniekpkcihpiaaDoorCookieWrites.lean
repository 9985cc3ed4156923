/-
  CookieWrites' contract. The conditions: the program's contracts; the variable errors.errorType reads as the type error's own handle; the pairs lie where they are said to.
-/
import Derived.Test.YtaniekpkcihpiaaDoorPart14
import Derived.Test.YtaniekpkcihpiaaDoorCookieRefWrite
namespace Go.Proofs.YtaniekpkcihpiaaDoor
open Go.RowKit TextNat CookieMath

set_option maxRecDepth 100000 in
set_option maxHeartbeats 8000000 in
theorem writes_true (hP : ParseOk) (hW : WriteOk) (pp : Option Addr) (cap : Nat) (xs : List PairV) (w : World) (hx : PairsIn w pp xs) (hc : xs.length ≤ cap) (hm : cap ≤ 9223372036854775807) (hg : Handle w) :
    Calls Tryd.prog 4 #[.slice pp xs.length cap] w fun e w' => e = .returned (.bool true) ∧ Below w.heap.size w w' := by
  have HA := Lib.hid (awake_true hP w)
  have HP := Lib.hid hP
  have HW := Lib.hid hW
  have HG := Lib.hid hg
  have HX := Lib.hid hx
  have HC := Lib.hid (And.intro hc hm)
  obtain ⟨N, hN⟩ : ∃ N, N = xs.length := ⟨_, rfl⟩
  have HN := Lib.hid hN
  rw [← hN]
  have hN9 : N ≤ 9223372036854775807 := by omega
  clear hP hW hg hx hc hm hN
  go_enter Tryd.func4, Tryd.ntmps4
  go_wp2_with fail
  refine HA.out.mono ?_
  rintro e w1 ⟨rfl, hb⟩
  have HB := Lib.hid hb
  clear HA hb
  by_cases hs : 100 < N
  · have t1 : decide ((100 : Int) < (N : Int)) = true := decide_eq_true (by omega)
    have t1' : decide (100 < N) = true := decide_eq_true hs
    clear hs
    go_wp2
    go_ret
    exact ⟨rfl, HB.out⟩
  have t1 : decide ((100 : Int) < (N : Int)) = false := decide_eq_false (by omega)
  have t1' : decide (100 < N) = false := decide_eq_false hs
  have HN100 := Lib.hid (show N ≤ 100 by omega)
  clear hs
  go_wp2
  go_loopg [18] N (fun gh s18 wx => ∃ i : Nat, i + gh = N ∧ s18 = .int .i64 (i : Int) ∧ Hid (∀ j y, j < i → xs[j]? = some y → y.1.size ≤ 1000 ∧ y.2.size ≤ 1000) ∧ Below w.heap.size w wx)
  case atStart => exact ⟨0, by omega, by go_num, Lib.hid (fun j y hj => absurd hj (Nat.not_lt_zero j)), HB.out⟩
  case round =>
    obtain ⟨i, hi, rfl, HS, hB⟩ := hrel
    replace HB := Lib.hid hB
    by_cases hlt : i < N
    · have t2 : decide ((i : Int) < (N : Int)) = true := decide_eq_true (by omega)
      have t2' : decide (i < N) = true := decide_eq_true hlt
      obtain ⟨x, hx⟩ : ∃ x, xs[i]? = some x := ⟨_, List.getElem?_eq_getElem (by rw [← HN.out]; exact hlt)⟩
      obtain ⟨b1, o1, rfl⟩ := HX.out.addr (by rw [← HN.out]; omega)
      obtain ⟨c0, c1⟩ := (HX.out.grown HB.out).look hx
      have HSn := Lib.hid (fun (h : x.1.size ≤ 1000 ∧ x.2.size ≤ 1000) => show ∀ j y, j < i + 1 → xs[j]? = some y → y.1.size ≤ 1000 ∧ y.2.size ≤ 1000 from fun j y hj hy => by
        by_cases e : j < i
        · exact HS.out j y e hy
        · obtain rfl : j = i := by omega
          obtain rfl := Option.some.inj (hx.symm.trans hy)
          exact h)
      obtain ⟨x1, x2⟩ := x
      simp only at c0 c1 HSn
      have HB2 := Lib.hid (HB.out.alloc HB.out.size (.cells #[.string x1, .string x2] 36))
      by_cases h1 : 1000 < x1.size
      · have t3 : decide ((1000 : Int) < (x1.size : Int)) = true := decide_eq_true (by omega)
        have t3' : decide (1000 < x1.size) = true := decide_eq_true h1
        clear hx h1 hB
        go_wp2
        go_ret
        exact ⟨rfl, HB2.out⟩
      · have t3 : decide ((1000 : Int) < (x1.size : Int)) = false := decide_eq_false (by omega)
        have t3' : decide (1000 < x1.size) = false := decide_eq_false h1
        by_cases h2 : 1000 < x2.size
        · have t4 : decide ((1000 : Int) < (x2.size : Int)) = true := decide_eq_true (by omega)
          have t4' : decide (1000 < x2.size) = true := decide_eq_true h2
          clear hx h1 h2 hB
          go_wp2
          go_ret
          exact ⟨rfl, HB2.out⟩
        · have t4 : decide ((1000 : Int) < (x2.size : Int)) = false := decide_eq_false (by omega)
          have t4' : decide (1000 < x2.size) = false := decide_eq_false h2
          have HSm := Lib.hid (HSn.out ⟨by omega, by omega⟩)
          clear hx h1 h2 hB
          go_wp2
          go_roundg (N - (i + 1))
          case measure => omega
          case rel => exact ⟨i + 1, by omega, by go_num, HSm, HB2.out⟩
    · obtain rfl : i = N := by omega
      have t2 : decide ((i : Int) < (i : Int)) = false := decide_eq_false (by omega)
      have t2' : decide (i < i) = false := decide_eq_false (by omega)
      have hsz : ∀ p ∈ xs, p.1.size ≤ 1000 ∧ p.2.size ≤ 1000 := fun p hp => by
        obtain ⟨j, hj⟩ := List.getElem?_of_mem hp
        exact HS.out j p (by have := (List.getElem?_eq_some_iff.1 hj).1; have := HN.out; omega) hj
      have htot : total (xs.map PairV.n) ≤ 1000000 := by
        have h1 := total_v xs 1000 1000 hsz
        have h2 := HN100.out
        rw [HN.out] at h2
        omega
      have HTot := Lib.hid (show (header (xs.map PairV.n)).length ≤ 1000000 from Nat.le_trans (header_le _) htot)
      have HWr := Lib.hid (fun w1 (h : PairsIn w1 pp xs) => HN.out ▸ HW.out pp cap xs w1 h HC.out.1 HC.out.2 htot (fun p hp => by have := hsz p hp; omega))
      have HRw := Lib.hid (fun w1 (h : PairsIn w1 pp xs) => HN.out ▸ refWrite13 pp cap xs w1 h (by have := HC.out; omega) htot (fun p hp => by have := hsz p hp; omega))
      clear hsz htot hB
      go_wp2_with fail
      refine (HWr.out _ (HX.out.grown HB.out)).mono ?_
      rintro e w2 ⟨h2, hb⟩
      replace HB := Lib.hid (HB.out.trans (hb.mono HB.out.size))
      clear hb
      unfold WriteIs at h2
      cases hbad : badV xs with
      | some k =>
        rw [hbad] at h2
        obtain ⟨x, rfl, hx⟩ := h2
        obtain ⟨T, u, rfl⟩ := hx.is.iface
        have HE := Lib.hid hx
        have HBd := Lib.hid hbad
        clear hx hbad
        go_wp2_with fail
        refine (HRw.out _ (HX.out.grown HB.out)).mono ?_
        rintro e w3 ⟨h3, hb⟩
        unfold RefWriteIs at h3
        rw [HBd.out] at h3
        subst h3
        replace HE := Lib.hid (HE.out.below hb)
        replace HB := Lib.hid (HB.out.trans (hb.mono HB.out.size))
        have t3 : decide ((0 : Int) ≤ (k : Int)) = true := decide_eq_true (by omega)
        clear hb
        go_wp2_with fail
        refine (told_ok _ 1 (k : Int) w3 HE.out (handle_up HG.out HB.out)).mono ?_
        rintro e w4 ⟨rfl, hb⟩
        replace HB := Lib.hid (HB.out.trans (hb.mono HB.out.size))
        clear hb
        go_wp2
        go_ret
        exact ⟨rfl, HB.out⟩
      | none =>
        rw [hbad] at h2
        simp only at h2
        obtain ⟨H, hH⟩ : ∃ H, H = txt (header (xs.map PairV.n)) := ⟨_, rfl⟩
        rw [← hH] at h2
        subst h2
        have HH := Lib.hid hH
        have HBd := Lib.hid hbad
        have HHs := Lib.hid (show H.size ≤ 1000000 by rw [hH, txt_len]; exact HTot.out)
        have HPr := Lib.hid (fun hlt => show parse (nats H) = .inl (xs.map PairV.n) by rw [hH, nats_txt _ hlt]; exact parse_header (badV_none hbad))
        have hlt : ∀ c ∈ header (xs.map PairV.n), c < 256 := header_bytes xs
        replace HPr := Lib.hid (HPr.out hlt)
        clear hbad hH hlt
        go_wp2_with fail
        refine (HRw.out _ (HX.out.grown HB.out)).mono ?_
        rintro e w3 ⟨h3, hb⟩
        unfold RefWriteIs at h3
        rw [HBd.out] at h3
        simp only [← HH.out] at h3
        subst h3
        replace HB := Lib.hid (HB.out.trans (hb.mono HB.out.size))
        clear hb
        go_wp2_with fail
        refine (HP.out H _ HHs.out).mono ?_
        rintro e w4 ⟨h4, hb⟩
        unfold ParseIs at h4
        rw [HPr.out] at h4
        obtain ⟨qq, cap2, rfl, hd1, hd2, hJ⟩ := h4
        rw [map_pairB] at hJ
        replace HB := Lib.hid (HB.out.trans (hb.mono HB.out.size))
        have HJ := Lib.hid hJ
        clear hb hJ hd1 hd2
        have HSm := Lib.hid (same_ok pp qq cap cap2 xs xs w4 (HX.out.grown HB.out) HJ.out (by have := HC.out; omega) (by have := HC.out; omega))
        rw [show sameP xs xs = true by unfold sameP; simp] at HSm
        rw [show (xs.map PairV.n).length = xs.length from List.length_map .., ← HN.out]
        rw [← HN.out] at HSm
        go_wp2_with fail
        refine HSm.out.mono ?_
        rintro e w5 ⟨rfl, hb⟩
        replace HB := Lib.hid (HB.out.trans (hb.mono HB.out.size))
        clear hb
        go_wp2
        go_ret
        exact ⟨rfl, HB.out⟩
end Go.Proofs.YtaniekpkcihpiaaDoor
