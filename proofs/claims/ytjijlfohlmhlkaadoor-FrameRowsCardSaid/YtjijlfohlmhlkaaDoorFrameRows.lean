/-
  FrameRows' contract: frames one behind the other are opened one by one, to the end. The conditions: the program's contracts; the variables' cells; the texts' cells.
-/
import Derived.Test.YtjijlfohlmhlkaaDoorFrameRowsMath
import Derived.Test.YtjijlfohlmhlkaaDoorFrameTold
namespace Go.Proofs.YtjijlfohlmhlkaaDoor
open Go.RowKit FrameMath TextNat

set_option maxRecDepth 100000 in
set_option maxHeartbeats 8000000 in
theorem rows_true (hS : SealOk) (hO : OpenOk) (hF : FindOk) (pp : Option Addr) (cap : Nat) (xs : List ByteArray) (w : World) (hT : Tables w) (hg : Handle w) (hI : TextsIn w pp xs) (hxl : xs.length ≤ 9223372036854775807) (hxs : ∀ x ∈ xs, x.size ≤ 9223372036854775807) :
    Calls Tryd.prog 8 #[.slice pp xs.length cap] w fun e w' => e = .returned (.bool true) ∧ Below w.heap.size w w' := by
  have HA := Lib.hid (awake_true hS hO w hT)
  have HT := Lib.hid hT
  have HH := Lib.hid hg
  have HHl := Lib.hid hg.lt
  replace hS := Lib.hid hS
  replace hF := Lib.hid hF
  replace hO := Lib.hid hO
  replace hI := Lib.hid hI
  replace hxs := Lib.hid hxs
  obtain ⟨N, hN'⟩ : ∃ N, N = xs.length := ⟨_, rfl⟩
  have HN := Lib.hid hN'
  rw [← hN'] at hxl ⊢
  clear hT hg hN'
  go_enter Tryd.func8, Tryd.ntmps8
  go_wp2_with fail
  refine HA.out.mono ?_
  rintro e w0 ⟨rfl, hb⟩
  have HB := Lib.hid hb
  clear HA hb
  by_cases h1 : 60 < N
  · have t1 : decide ((60 : Int) < (N : Int)) = true := decide_eq_true (by omega)
    have t1' : decide (60 < N) = true := decide_eq_true h1
    clear h1
    go_wp2
    go_ret
    exact ⟨rfl, HB.out⟩
  have t1 : decide ((60 : Int) < (N : Int)) = false := decide_eq_false (by omega)
  have t1' : decide (60 < N) = false := decide_eq_false h1
  obtain ⟨ps, hps⟩ : ∃ ps, ps = xs.map nats := ⟨_, rfl⟩
  have HPS := Lib.hid hps
  have HPL := Lib.hid (show ps.length = N by rw [hps, List.length_map, HN.out])
  have HPO := Lib.hid (show ∀ p ∈ ps, Oct p by rw [hps]; intro p hp; obtain ⟨x, _, rfl⟩ := List.mem_map.1 hp; exact nats_ok x)
  clear hps
  go_wp2_with fail
  go_loopg [3, 25] N (fun gh s3 s25 wx => ∃ i : Nat, i + gh = N ∧ s3 = .string (txt (cat (ps.take i))) ∧ s25 = .int .i64 (i : Int) ∧ Hid (∀ p ∈ ps.take i, p.length ≤ 300) ∧ Hid (Below w.heap.size w wx))
  case atStart => exact ⟨0, by omega, rfl, by go_num, Lib.hid (fun p hp => by simp at hp), HB⟩
  case round =>
    obtain ⟨i, hi, rfl, rfl, HJ, HB2⟩ := hrel
    rename World => W2
    clear HB
    by_cases hiN : i < N
    · have q1 : decide ((i : Int) < (N : Int)) = true := decide_eq_true (by omega)
      have q1' : decide (i < N) = true := decide_eq_true hiN
      obtain ⟨x, hx⟩ : ∃ x, xs[i]? = some x := ⟨_, List.getElem?_eq_getElem (by rw [← HN.out]; exact hiN)⟩
      obtain ⟨b', off, rfl, c0⟩ := (hI.out.grown HB2.out) i x hx
      have hxz := hxs.out x (List.mem_of_getElem? hx)
      have HX := Lib.hid (show ps[i]? = some (nats x) by rw [HPS.out, List.getElem?_map, hx]; rfl)
      clear hx
      by_cases h3 : 300 < x.size
      · have t3 : decide ((300 : Int) < (x.size : Int)) = true := decide_eq_true (by omega)
        have t3' : decide (300 < x.size) = true := decide_eq_true h3
        clear h3
        go_wp2
        go_ret
        exact ⟨rfl, HB2.out⟩
      have t3 : decide ((300 : Int) < (x.size : Int)) = false := decide_eq_false (by omega)
      have t3' : decide (300 < x.size) = false := decide_eq_false h3
      go_wp2_with fail
      refine (hS.out x W2 (HT.out.grown HB2.out) hxz).mono ?_
      rintro e w3 ⟨h5, hb⟩
      rw [if_pos (by omega)] at h5
      subst h5
      have HB3 := Lib.hid (HB2.out.trans (hb.mono HB2.out.size))
      have HJ2 := Lib.hid (show ∀ p ∈ ps.take (i + 1), p.length ≤ 300 from fun p hp => by
        rw [List.take_add_one, HX.out] at hp
        rcases List.mem_append.1 hp with h | h
        · exact HJ.out p h
        · simp at h
          rw [h, nats_len]
          omega)
      have hcat : txt (cat (ps.take i)) ++ txt (framed (nats x)) = txt (cat (ps.take (i + 1))) := by rw [txt_append, cat_snoc HX.out]
      have kl : (txt (cat (ps.take i))).size + (txt (framed (nats x))).size ≤ 9223372036854775807 := by
        rw [txt_len, txt_len, framed_len, nats_len]
        have h7 := upto_le (ps := ps.take i) HJ.out i
        unfold upto at h7
        rw [List.take_of_length_le (by rw [List.length_take]; omega)] at h7
        omega
      clear hb c0 h3
      go_wp2_with fail
      go_roundg (N - (i + 1))
      case measure => omega
      case rel => exact ⟨i + 1, by omega, by first | rfl | rw [hcat], by go_num, HJ2, HB3⟩
    · have q1 : decide ((i : Int) < (N : Int)) = false := decide_eq_false (by omega)
      have q1' : decide (i < N) = false := decide_eq_false hiN
      obtain rfl : i = N := by omega
      have hall : ∀ p ∈ ps, p.length ≤ 300 := by
        have := HJ.out
        rwa [List.take_of_length_le (by rw [HPL.out]; exact Nat.le_refl _)] at this
      obtain ⟨S, hS'⟩ : ∃ S, S = txt (cat ps) := ⟨_, rfl⟩
      have HALL := Lib.hid hall
      have HSN := Lib.hid (show nats S = cat ps by rw [hS']; exact nats_txt _ (cat_oct (fun p hp => by have := hall p hp; omega) HPO.out))
      have HSL := Lib.hid (show S.size = (cat ps).length by rw [hS', txt_len])
      have hSz : S.size ≤ 100000 := by
        rw [HSL.out, ← upto_all, HPL.out]
        have := upto_le hall i
        omega
      rw [List.take_of_length_le (by rw [HPL.out]; exact Nat.le_refl _), ← hS']
      clear hall hS' HJ hiN hi
      go_wp2_with fail
      go_loopg [8, 45] i (fun gh s8 s45 wx => ∃ j : Nat, j + gh = i ∧ s8 = .int .i64 ((upto ps j : Nat) : Int) ∧ s45 = .int .i64 (j : Int) ∧ Hid (Below w.heap.size w wx))
      case atStart => exact ⟨0, by omega, rfl, by go_num, HB2⟩
      case round =>
        obtain ⟨j, hj, rfl, rfl, HB3⟩ := hrel
        rename World => W3
        clear HB2
        have hjz : upto ps j ≤ 40000 := by have := upto_le HALL.out j; omega
        by_cases hjN : j < i
        · have q2 : decide ((j : Int) < (i : Int)) = true := decide_eq_true (by omega)
          have q2' : decide (j < i) = true := decide_eq_true hjN
          obtain ⟨x, hx⟩ : ∃ x, xs[j]? = some x := ⟨_, List.getElem?_eq_getElem (by rw [← HN.out]; exact hjN)⟩
          obtain ⟨b', off, rfl, c0⟩ := (hI.out.grown HB3.out) j x hx
          have HX : ps[j]? = some (nats x) := by rw [HPS.out, List.getElem?_map, hx]; rfl
          have hxl3 : (nats x).length ≤ 8192 := by have := HALL.out _ (List.mem_of_getElem? HX); omega
          have hop := open_cat HX hxl3 (nats_ok x)
          have hf0 := find_here HX
          have hf1 := find_next HX hxl3 (nats_ok x)
          have hnx := upto_next HX
          have hlen := framed_len (nats x)
          have hlast : ¬ j + 1 < i → upto ps (j + 1) = S.size := fun h => by
            rw [HSL.out, ← upto_all, HPL.out]
            congr 1
            omega
          rw [HPL.out] at hf1
          rw [← HSN.out] at hop hf0 hf1
          have hbz : upto ps (j + 1) ≤ 50000 := by have := upto_le HALL.out (j + 1); omega
          obtain ⟨a, ha⟩ : ∃ a, a = upto ps j := ⟨_, rfl⟩
          obtain ⟨b, hb0⟩ : ∃ b, b = upto ps (j + 1) := ⟨_, rfl⟩
          rw [← ha] at hop hf0 hf1 hnx hjz ⊢
          rw [← hb0] at hf1 hnx hlast hbz
          have HNX := Lib.hid (show (a : Int) + ((framed (nats x)).length : Int) = (b : Int) by omega)
          have hab : a < b := by omega
          have HOP := Lib.hid hop
          have HF0 := Lib.hid hf0
          have HF1 := Lib.hid hf1
          have HBB := Lib.hid hb0
          have HLAST := Lib.hid hlast
          clear hx HX hop hf0 hf1 hnx hlen ha hb0 hlast
          go_wp2_with fail
          refine (hO.out S (a : Int) W3 (HT.out.grown HB3.out) hSz (by omega)).mono ?_
          rintro e w4 ⟨h4, hb⟩
          have h5 := h4.some HOP.out
          rw [HNX.out, txt_nats] at h5
          subst h5
          have HB4 := Lib.hid (HB3.out.trans (hb.mono HB3.out.size))
          have u1 : decide ((b : Int) ≤ (a : Int)) = false := decide_eq_false (by omega)
          have u1' : decide (b ≤ a) = false := decide_eq_false (by omega)
          clear hb h4 c0
          go_wp2_with fail
          refine (hF.out S (a : Int) w4 hSz (by omega)).mono ?_
          rintro e w5 ⟨rfl, hb⟩
          rw [HF0.out]
          have HB5 := Lib.hid (HB4.out.trans (hb.mono HB4.out.size))
          have n1 : IntKind.i64.wrap ((a : Int) + 1) = (a : Int) + 1 := by rw [IntKind.wrap_i64]; omega
          clear hb
          go_wp2_with fail
          refine (hF.out S ((a : Int) + 1) w5 hSz (by omega)).mono ?_
          rintro e w6 ⟨rfl, hb⟩
          rw [HF1.out]
          have HB6 := Lib.hid (HB5.out.trans (hb.mono HB5.out.size))
          clear hb
          by_cases hl : j + 1 < i
          · rw [if_pos hl]
            clear hl
            go_wp2_with fail
            go_roundg (i - (j + 1))
            case measure => omega
            case rel => exact ⟨j + 1, by omega, by rw [HBB.out], by go_num, HB6⟩
          · rw [if_neg hl]
            have hbs := HLAST.out hl
            have u2 : ((-1 : Int) == (b : Int)) = false := by rw [beq_eq_false_iff_ne]; omega
            have u3 : ((b : Int) == (S.size : Int)) = true := by rw [beq_iff_eq]; omega
            clear hl hbs
            go_wp2_with fail
            go_roundg (i - (j + 1))
            case measure => omega
            case rel => exact ⟨j + 1, by omega, by rw [HBB.out], by go_num, HB6⟩
        · have q2 : decide ((j : Int) < (i : Int)) = false := decide_eq_false (by omega)
          have q2' : decide (j < i) = false := decide_eq_false hjN
          obtain rfl : j = i := by omega
          have he : upto ps j = S.size := by rw [HSL.out, ← upto_all, HPL.out]
          rw [he]
          have HE := Lib.hid (show openF (nats S) (S.size : Int) = none by rw [HSN.out, HSL.out]; exact open_end ps)
          clear he hjz
          go_wp2_with fail
          refine (hO.out S (S.size : Int) W3 (HT.out.grown HB3.out) hSz (by omega)).mono ?_
          rintro e w4 ⟨h4, hb⟩
          obtain ⟨v, h5, hv⟩ := h4.none HE.out
          subst h5
          rw [if_pos rfl] at hv
          have HV := Lib.hid hv
          have HB4 := Lib.hid (HB3.out.trans (hb.mono HB3.out.size))
          obtain ⟨T, y, rfl⟩ := hv.is.iface
          clear h4 hb hv
          go_wp2_with fail
          refine (told_ok _ 7 (S.size : Int) w4 HV.out (by omega) (HH.out.below HB4.out HHl.out)).mono ?_
          rintro e w5 ⟨rfl, hb⟩
          replace HB4 := Lib.hid (HB4.out.trans (hb.mono HB4.out.size))
          clear hb
          go_wp2
          go_ret
          exact ⟨rfl, HB4.out⟩
end Go.Proofs.YtjijlfohlmhlkaaDoor
