/-
  The contracts of the program's Join and Least of chapter 6. No conditions but those typed.
-/
import Derived.Test.YtkdjfeaaojecdaaVecPick
import Derived.Test.YtkdjfeaaojecdaaVecPWith
namespace Go.Proofs.Ytkdjfeaaojecdaa
open Go.RowKit

theorem pick_fits {g : Int → Int → Int} {R : Int → Int → Prop} (hg : VecMath.Picks g R) {vs : List Vc} (hf : ∀ v ∈ vs, Fits v.l) (n : Nat) : Fits (VecMath.made n (VecMath.pick g (lists vs))) := fun z hz => by
  unfold VecMath.made at hz
  obtain ⟨i, _, rfl⟩ := List.mem_map.1 hz
  by_cases hl : lists vs = []
  · rw [hl]
    show -9223372036854775808 ≤ (0 : Int) ∧ (0 : Int) ≤ 9223372036854775807
    omega
  · obtain ⟨u, hu, he⟩ := VecMath.pick_in hg hl i
    obtain ⟨v, hv, rfl⟩ := List.mem_map.1 hu
    rw [he]
    exact (hf v hv).cnt i
theorem longest_le {l : List (List Int)} {n : Nat} (h : ∀ v ∈ l, v.length ≤ n) : VecMath.longest l ≤ n := by
  by_cases h0 : VecMath.longest l = 0
  · omega
  · obtain ⟨u, hu, he⟩ := VecMath.longest_is l h0
    have := h u hu
    omega
theorem NewVec.top {w : World} {B : Nat} {v : Value} {D : List Int} {z : Int} {n : Nat} (hn : D.length = n) (h : NewVec B w v (D ++ [z])) : ∃ g cap, v = .slice (some ⟨g, 0, none⟩) (n + 1) cap ∧ B ≤ g ∧ w.cell? ⟨g, n, none⟩ = some (.int .i64 z) ∧ w.frozen? ⟨g, n, none⟩ = false := by
  have hl : (D ++ [z]).length = n + 1 := by rw [List.length_append, hn]; rfl
  obtain ⟨g, cap, hv, hb, _, _, _, hc, hf⟩ := OwnsM.open h (by omega)
  rw [hl] at hv hc hf
  refine ⟨g, cap, hv, hb, ?_, hf n (by omega)⟩
  rw [hc n (by omega), List.getElem?_map, ← hn, List.getElem?_append_right (Nat.le_refl _), Nat.sub_self]
  rfl

set_option maxRecDepth 100000 in
theorem joinPick_ok (a b : Int) (w : World) : Calls Try.prog 27 #[.int .i64 a, .int .i64 b] w fun e w' => e = .returned (.int .i64 (max a b)) ∧ w' = w := by
  by_cases h : a < b
  · have t1 : decide (a < b) = true := decide_eq_true h
    have HE := Lib.hid (show max a b = b by omega)
    go_enter Try.func27, Try.ntmps27
    go_wp2
    go_ret
    exact ⟨by rw [HE.out]; rfl, rfl⟩
  · have t1 : decide (a < b) = false := decide_eq_false h
    have HE := Lib.hid (show max a b = a by omega)
    go_enter Try.func27, Try.ntmps27
    go_wp2
    go_ret
    exact ⟨by rw [HE.out]; rfl, rfl⟩
set_option maxRecDepth 100000 in
set_option maxHeartbeats 4000000 in
theorem mergeJoin (pp : Option Addr) (c : Nat) (vs : List Vc) (w : World) (h : VecsIn w pp vs) (hl : vs.length ≤ 100) (hm : ∀ v ∈ vs, v.l.length ≤ 10000) (hc : ∀ v ∈ vs, v.l.length ≤ v.c) :
    Calls Try.prog 26 #[.func (.func 27) #[] #[], .slice pp vs.length c] w fun e w' => (∃ v, e = .returned v ∧ NewVec w.heap.size w' v (VecMath.join (lists vs))) ∧ Below w.heap.size w w' := by
  obtain ⟨ii, hii, hi0, hi1, hi2⟩ := info_parts info_int
  have HP := Lib.hid joinPick_ok
  have HF := Lib.hid (show ∀ v ∈ vs, Fits v.l from fun v hv => by
    obtain ⟨i, hi⟩ := List.getElem?_of_mem hv
    obtain ⟨_, _, _, _, hz⟩ := h i v hi
    exact hz.fits)
  obtain ⟨N, hN⟩ : ∃ N, N = vs.length := ⟨_, rfl⟩
  have HI := Lib.hid h
  have HN := Lib.hid hN
  have HM := Lib.hid hm
  have HC := Lib.hid hc
  rw [← hN] at hl ⊢
  have HO := Lib.hid (show NewVec w.heap.size w (.slice none 0 0) [] from OwnsM.of (World.ownsRow_nil w w.heap.size 3 1))
  have HB := Lib.hid (Below.refl w.heap.size w)
  clear h hm hc
  by_cases h0 : N = 0
  · have t1 : ((N : Int) == 0) = true := by rw [beq_iff_eq]; omega
    have HE := Lib.hid (show VecMath.join (lists vs) = [] by
      obtain rfl : vs = [] := List.eq_nil_of_length_eq_zero (by rw [← hN]; exact h0)
      rfl)
    clear hN
    go_enter Try.func26, Try.ntmps26
    go_wp2
    go_ret
    exact ⟨⟨_, rfl, by rw [HE.out]; exact HO.out⟩, HB.out⟩
  · have t1 : ((N : Int) == 0) = false := by rw [beq_eq_false_iff_ne]; omega
    obtain ⟨⟨p0, l0, c0⟩, hv0⟩ : ∃ v, vs[0]? = some v := ⟨_, List.getElem?_eq_getElem (by omega)⟩
    obtain ⟨b, off, rfl, hc0, hz0⟩ := HI.out 0 _ hv0
    rw [Nat.add_zero] at hc0
    obtain ⟨K0, hK0⟩ : ∃ K0, K0 = l0.length := ⟨_, rfl⟩
    replace hc0 : w.cell? ⟨b, off, none⟩ = some (.slice p0 K0 c0) := by rw [hK0]; exact hc0
    have HS0 := Lib.hid (show (∀ v ∈ (lists vs).take 0, K0 ≤ v.length) ∧ ∃ v ∈ lists vs, v.length ≤ K0 from ⟨fun v hv => by simp at hv, l0, List.mem_of_getElem? (lists_at hv0), by omega⟩)
    have hK0b := HM.out _ (List.mem_of_getElem? hv0)
    replace hK0b : K0 ≤ 10000 := by rw [hK0]; exact hK0b
    clear hv0 hz0 hK0 hN
    go_enter Try.func26, Try.ntmps26
    go_wp2_with fail
    go_loopg [5, 6, 21] N (fun gh s5 s6 s21 wx => ∃ (i s : Nat), i + gh = N ∧ s21 = .int .i64 (i : Int) ∧ s6 = .int .i64 (s : Int) ∧ s ≤ 10000 ∧ Hid ((∀ v ∈ (lists vs).take i, s ≤ v.length) ∧ ∃ v ∈ lists vs, v.length ≤ s) ∧ NewVec w.heap.size wx s5 (VecMath.made (VecMath.longest ((lists vs).take i)) (VecMath.part max ((lists vs).take i))) ∧ Below w.heap.size w wx)
    case atStart => exact ⟨0, K0, by omega, by go_num, rfl, hK0b, HS0, HO.out, HB.out⟩
    case round =>
      obtain ⟨i, s, hi, rfl, rfl, hs, HS, ho, hb⟩ := hrel
      rename World => W0
      have HOr := Lib.hid ho
      have HBr := Lib.hid hb
      clear ho hb HO HB HS0
      by_cases hiN : i < N
      · have q1 : decide ((i : Int) < (N : Int)) = true := decide_eq_true (by omega)
        have q1' : decide (i < N) = true := decide_eq_true hiN
        obtain ⟨⟨vp, vl, vc⟩, hv⟩ : ∃ v, vs[i]? = some v := ⟨_, List.getElem?_eq_getElem (by rw [← HN.out]; exact hiN)⟩
        obtain ⟨b2, off2, hp2, hcv, hzv⟩ := (HI.out.grown HBr.out) i _ hv
        obtain ⟨rfl, rfl⟩ : b2 = b ∧ off2 = off := by simpa using hp2.symm
        obtain ⟨K, hK⟩ : ∃ K, K = vl.length := ⟨_, rfl⟩
        replace hcv : W0.cell? ⟨b2, off2 + i, none⟩ = some (.slice vp K vc) := by rw [hK]; exact hcv
        have hKb := HM.out _ (List.mem_of_getElem? hv)
        replace hKb : K ≤ 10000 := by rw [hK]; exact hKb
        obtain ⟨L, hL⟩ : ∃ L, L = VecMath.longest ((lists vs).take i) := ⟨_, rfl⟩
        have hLb : L ≤ 10000 := by
          rw [hL]
          refine longest_le fun u hu => ?_
          obtain ⟨x, hx, rfl⟩ := List.mem_map.1 (List.mem_of_mem_take hu)
          exact HM.out x hx
        have HL := Lib.hid hL
        have HV := Lib.hid hv
        have HVl := Lib.hid (lists_at hv)
        have HK := Lib.hid hK
        rw [← hL] at HOr
        clear hv hK hL hp2 hzv
        by_cases hKs : K < s
        · have q2 : decide ((K : Int) < (s : Int)) = true := decide_eq_true (by omega)
          have q2' : decide (K < s) = true := decide_eq_true hKs
          have HS2 := Lib.hid (show (∀ v ∈ (lists vs).take (i + 1), K ≤ v.length) ∧ ∃ v ∈ lists vs, v.length ≤ K from ⟨fun v hv => by
            rw [List.take_add_one, HVl.out] at hv
            rcases List.mem_append.1 hv with hv | hv
            · have := HS.out.1 v hv
              omega
            · obtain rfl : v = vl := by simpa using hv
              rw [HK.out]
              exact Nat.le_refl _, vl, List.mem_of_getElem? HVl.out, by rw [HK.out]; exact Nat.le_refl _⟩)
          go_wp2_with fail
          go_loopg [5, 31] K (fun gh s5 s31 wx => ∃ j : Nat, j + gh = K ∧ s31 = .int .i64 (j : Int) ∧ NewVec w.heap.size wx s5 (VecMath.made (max L j) (VecMath.half max (lists vs) i j)) ∧ Below w.heap.size w wx)
          case atStart => exact ⟨0, by omega, by go_num, by rw [VecMath.half_start, Nat.max_eq_left (Nat.zero_le _)]; exact HOr.out, HBr.out⟩
          case round =>
            obtain ⟨j, hj, rfl, ho, hb⟩ := hrel
            rename World => W1
            have HB1 := Lib.hid hb
            have HO1 := Lib.hid ho
            clear ho hb HOr HBr hcv
            by_cases hjK : j < K
            · have q3 : decide ((j : Int) < (K : Int)) = true := decide_eq_true (by omega)
              have q3' : decide (j < K) = true := decide_eq_true hjK
              have hzv : Ints W1 vp vl := by
                obtain ⟨_, _, _, _, hq⟩ := (HI.out.grown HB1.out) i _ HV.out
                exact hq
              obtain ⟨z, hz⟩ : ∃ z, vl[j]? = some z := ⟨_, List.getElem?_eq_getElem (by rw [← HK.out]; exact hjK)⟩
              obtain ⟨_, b3, off3, rfl, hcz⟩ := hzv j z hz
              have HZ := Lib.hid (show VecMath.cnt vl j = z from VecMath.cnt_at hz)
              have HPz := Lib.hid (fun x u => HP.out x z u)
              clear hz hzv
              by_cases hLj : L ≤ j
              · obtain ⟨D, hD⟩ : ∃ D, D = VecMath.made j (VecMath.half max (lists vs) i j) := ⟨_, rfl⟩
                have hDl : D.length = j := by rw [hD]; exact VecMath.made_len _ _
                have ho := HO1.out
                rw [Nat.max_eq_right hLj, ← hD] at ho
                unfold NewVec at ho
                rw [hDl] at ho
                have HE := Lib.hid (show (D ++ [z]).set j z = VecMath.made (max L (j + 1)) (VecMath.half max (lists vs) i (j + 1)) by
                  rw [hD, ← HZ.out, Nat.max_eq_right (by omega)]
                  have hn := VecMath.half_new VecMath.picks_max HVl.out (by rw [← HK.out]; exact hjK) (by rw [← HL.out]; exact hLj)
                  rw [VecMath.picks_max.same] at hn
                  exact hn)
                have HDl := Lib.hid hDl
                obtain ⟨p4, c4, rfl⟩ := OwnsM.shape ho
                have HO2 := Lib.hid (OwnsM.alloc ho (.cells #[.int .i64 z] 3))
                have HB2 := Lib.hid (HB1.out.alloc HB1.out.size (.cells #[.int .i64 z] 3))
                clear hD hDl ho HO1
                go_wp2_with (first
                  | (at_builtin; refine wpList_append_m rfl _ _ 26 rfl w.heap.size 3 ii (.int .i64 0) 8 Try.underlying26 hii hi0 hi1 hi2 rfl _ _ _ rfl HO2.out ⟨_, 0, none⟩ 1 1 [.int .i64 z] rfl rfl (one_put _ _ _ _ (by simp)) (fun u hu => by simp at hu; subst hu; rfl) (by unfold maxLen; omega) (by omega) HB2.out.size ?_; intro v2 w4 hown2 hgrow2; have HB3 := Lib.hid (HB2.out.grown hgrow2 HB2.out.size (fun q hq => (OwnsM.lt HO2.out q hq).1)); have HV3 := Lib.hid (NewVec.more (by rw [HDl.out]; exact hown2)); clear hgrow2 hown2; obtain ⟨g1, cap1, rfl, hg1, hcz1, hfz1⟩ := NewVec.top HDl.out HV3.out)
                  | (go_at_call 27; refine (HPz.out _ _).mono ?_; rintro e w5 ⟨rfl, hw5⟩; rw [hw5]; clear hw5 w5))
                go_roundg (K - (j + 1))
                case measure => omega
                case rel => exact ⟨j + 1, by omega, by go_num, by rw [← HE.out]; exact HV3.out.set j z, below_store HB3.out hg1⟩
              · have hLj' : j < L := by omega
                have t2 : ((j : Int) == (L : Int)) = false := by rw [beq_eq_false_iff_ne]; omega
                obtain ⟨D, hD⟩ : ∃ D, D = VecMath.made L (VecMath.half max (lists vs) i j) := ⟨_, rfl⟩
                have hDl : D.length = L := by rw [hD]; exact VecMath.made_len _ _
                have ho := HO1.out
                rw [Nat.max_eq_left (by omega), ← hD] at ho
                obtain ⟨g1, cap1, hs5, hg1, _⟩ := OwnsM.open ho (by omega)
                rw [hDl] at hs5
                subst hs5
                obtain ⟨x, hx, hcx, hfx⟩ := new_cell ho hLj'
                have HE := Lib.hid (show D.set j (max x z) = VecMath.made (max L (j + 1)) (VecMath.half max (lists vs) i (j + 1)) by
                  have hx2 : x = VecMath.half max (lists vs) i j j := by
                    rw [hD, VecMath.made_at hLj'] at hx
                    simpa using hx.symm
                  rw [hD, ← HZ.out, hx2, Nat.max_eq_left (by omega)]
                  exact VecMath.half_on HVl.out (by rw [← HK.out]; exact hjK) (by rw [← HL.out]; exact hLj') L)
                have HV3 := Lib.hid ho
                clear hD hDl ho HO1 hx
                go_wp2_with (go_at_call 27; refine (HPz.out _ _).mono ?_; rintro e w5 ⟨rfl, hw5⟩; rw [hw5]; clear hw5 w5)
                go_roundg (K - (j + 1))
                case measure => omega
                case rel => exact ⟨j + 1, by omega, by go_num, by rw [← HE.out]; exact HV3.out.set j _, below_store HB1.out hg1⟩
            · have q3 : decide ((j : Int) < (K : Int)) = false := decide_eq_false (by omega)
              have q3' : decide (j < K) = false := decide_eq_false hjK
              have hjk : j = K := by omega
              rw [hjk] at HO1
              have HE := Lib.hid (VecMath.half_done (g := max) HVl.out)
              rw [← HK.out, ← HL.out] at HE
              have HO2 := Lib.hid (show NewVec w.heap.size W1 _ (VecMath.made (VecMath.longest ((lists vs).take (i + 1))) (VecMath.part max ((lists vs).take (i + 1)))) from by rw [← HE.out]; exact HO1.out)
              go_wp2
              go_roundg (N - (i + 1))
              case measure => omega
              case rel => exact ⟨i + 1, K, by omega, by go_num, rfl, by omega, HS2, HO2.out, HB1.out⟩
        · have q2 : decide ((K : Int) < (s : Int)) = false := decide_eq_false (by omega)
          have q2' : decide (K < s) = false := decide_eq_false hKs
          have HS2 := Lib.hid (show (∀ v ∈ (lists vs).take (i + 1), s ≤ v.length) ∧ ∃ v ∈ lists vs, v.length ≤ s from ⟨fun v hv => by
            rw [List.take_add_one, HVl.out] at hv
            rcases List.mem_append.1 hv with hv | hv
            · exact HS.out.1 v hv
            · obtain rfl : v = vl := by simpa using hv
              rw [← HK.out]
              omega, HS.out.2⟩)
          go_wp2_with fail
          go_loopg [5, 31] K (fun gh s5 s31 wx => ∃ j : Nat, j + gh = K ∧ s31 = .int .i64 (j : Int) ∧ NewVec w.heap.size wx s5 (VecMath.made (max L j) (VecMath.half max (lists vs) i j)) ∧ Below w.heap.size w wx)
          case atStart => exact ⟨0, by omega, by go_num, by rw [VecMath.half_start, Nat.max_eq_left (Nat.zero_le _)]; exact HOr.out, HBr.out⟩
          case round =>
            obtain ⟨j, hj, rfl, ho, hb⟩ := hrel
            rename World => W1
            have HB1 := Lib.hid hb
            have HO1 := Lib.hid ho
            clear ho hb HOr HBr hcv
            by_cases hjK : j < K
            · have q3 : decide ((j : Int) < (K : Int)) = true := decide_eq_true (by omega)
              have q3' : decide (j < K) = true := decide_eq_true hjK
              have hzv : Ints W1 vp vl := by
                obtain ⟨_, _, _, _, hq⟩ := (HI.out.grown HB1.out) i _ HV.out
                exact hq
              obtain ⟨z, hz⟩ : ∃ z, vl[j]? = some z := ⟨_, List.getElem?_eq_getElem (by rw [← HK.out]; exact hjK)⟩
              obtain ⟨_, b3, off3, rfl, hcz⟩ := hzv j z hz
              have HZ := Lib.hid (show VecMath.cnt vl j = z from VecMath.cnt_at hz)
              have HPz := Lib.hid (fun x u => HP.out x z u)
              clear hz hzv
              by_cases hLj : L ≤ j
              · obtain ⟨D, hD⟩ : ∃ D, D = VecMath.made j (VecMath.half max (lists vs) i j) := ⟨_, rfl⟩
                have hDl : D.length = j := by rw [hD]; exact VecMath.made_len _ _
                have ho := HO1.out
                rw [Nat.max_eq_right hLj, ← hD] at ho
                unfold NewVec at ho
                rw [hDl] at ho
                have HE := Lib.hid (show (D ++ [z]).set j z = VecMath.made (max L (j + 1)) (VecMath.half max (lists vs) i (j + 1)) by
                  rw [hD, ← HZ.out, Nat.max_eq_right (by omega)]
                  have hn := VecMath.half_new VecMath.picks_max HVl.out (by rw [← HK.out]; exact hjK) (by rw [← HL.out]; exact hLj)
                  rw [VecMath.picks_max.same] at hn
                  exact hn)
                have HDl := Lib.hid hDl
                obtain ⟨p4, c4, rfl⟩ := OwnsM.shape ho
                have HO2 := Lib.hid (OwnsM.alloc ho (.cells #[.int .i64 z] 3))
                have HB2 := Lib.hid (HB1.out.alloc HB1.out.size (.cells #[.int .i64 z] 3))
                clear hD hDl ho HO1
                go_wp2_with (first
                  | (at_builtin; refine wpList_append_m rfl _ _ 26 rfl w.heap.size 3 ii (.int .i64 0) 8 Try.underlying26 hii hi0 hi1 hi2 rfl _ _ _ rfl HO2.out ⟨_, 0, none⟩ 1 1 [.int .i64 z] rfl rfl (one_put _ _ _ _ (by simp)) (fun u hu => by simp at hu; subst hu; rfl) (by unfold maxLen; omega) (by omega) HB2.out.size ?_; intro v2 w4 hown2 hgrow2; have HB3 := Lib.hid (HB2.out.grown hgrow2 HB2.out.size (fun q hq => (OwnsM.lt HO2.out q hq).1)); have HV3 := Lib.hid (NewVec.more (by rw [HDl.out]; exact hown2)); clear hgrow2 hown2; obtain ⟨g1, cap1, rfl, hg1, hcz1, hfz1⟩ := NewVec.top HDl.out HV3.out)
                  | (go_at_call 27; refine (HPz.out _ _).mono ?_; rintro e w5 ⟨rfl, hw5⟩; rw [hw5]; clear hw5 w5))
                go_roundg (K - (j + 1))
                case measure => omega
                case rel => exact ⟨j + 1, by omega, by go_num, by rw [← HE.out]; exact HV3.out.set j z, below_store HB3.out hg1⟩
              · have hLj' : j < L := by omega
                have t2 : ((j : Int) == (L : Int)) = false := by rw [beq_eq_false_iff_ne]; omega
                obtain ⟨D, hD⟩ : ∃ D, D = VecMath.made L (VecMath.half max (lists vs) i j) := ⟨_, rfl⟩
                have hDl : D.length = L := by rw [hD]; exact VecMath.made_len _ _
                have ho := HO1.out
                rw [Nat.max_eq_left (by omega), ← hD] at ho
                obtain ⟨g1, cap1, hs5, hg1, _⟩ := OwnsM.open ho (by omega)
                rw [hDl] at hs5
                subst hs5
                obtain ⟨x, hx, hcx, hfx⟩ := new_cell ho hLj'
                have HE := Lib.hid (show D.set j (max x z) = VecMath.made (max L (j + 1)) (VecMath.half max (lists vs) i (j + 1)) by
                  have hx2 : x = VecMath.half max (lists vs) i j j := by
                    rw [hD, VecMath.made_at hLj'] at hx
                    simpa using hx.symm
                  rw [hD, ← HZ.out, hx2, Nat.max_eq_left (by omega)]
                  exact VecMath.half_on HVl.out (by rw [← HK.out]; exact hjK) (by rw [← HL.out]; exact hLj') L)
                have HV3 := Lib.hid ho
                clear hD hDl ho HO1 hx
                go_wp2_with (go_at_call 27; refine (HPz.out _ _).mono ?_; rintro e w5 ⟨rfl, hw5⟩; rw [hw5]; clear hw5 w5)
                go_roundg (K - (j + 1))
                case measure => omega
                case rel => exact ⟨j + 1, by omega, by go_num, by rw [← HE.out]; exact HV3.out.set j _, below_store HB1.out hg1⟩
            · have q3 : decide ((j : Int) < (K : Int)) = false := decide_eq_false (by omega)
              have q3' : decide (j < K) = false := decide_eq_false hjK
              have hjk : j = K := by omega
              rw [hjk] at HO1
              have HE := Lib.hid (VecMath.half_done (g := max) HVl.out)
              rw [← HK.out, ← HL.out] at HE
              have HO2 := Lib.hid (show NewVec w.heap.size W1 _ (VecMath.made (VecMath.longest ((lists vs).take (i + 1))) (VecMath.part max ((lists vs).take (i + 1)))) from by rw [← HE.out]; exact HO1.out)
              go_wp2
              go_roundg (N - (i + 1))
              case measure => omega
              case rel => exact ⟨i + 1, s, by omega, by go_num, rfl, by omega, HS2, HO2.out, HB1.out⟩
      · have q1 : decide ((i : Int) < (N : Int)) = false := decide_eq_false (by omega)
        have q1' : decide (i < N) = false := decide_eq_false hiN
        have hall : (lists vs).take i = lists vs := List.take_of_length_le (by rw [lists_len, ← HN.out]; omega)
        rw [hall] at HOr HS
        obtain ⟨L, hL⟩ : ∃ L, L = VecMath.longest (lists vs) := ⟨_, rfl⟩
        have hLb : L ≤ 10000 := by
          rw [hL]
          refine longest_le fun u hu => ?_
          obtain ⟨x, hx, rfl⟩ := List.mem_map.1 hu
          exact HM.out x hx
        have HL := Lib.hid hL
        rw [← hL] at HOr
        have HOs := Lib.hid (show NewVec w.heap.size W0 u5 (VecMath.made L (VecMath.last max (lists vs) s s)) by rw [VecMath.last_start]; exact HOr.out)
        have hsL : s ≤ L := by
          obtain ⟨v, hv, _⟩ := HS.out.2
          have := HS.out.1 v hv
          have := VecMath.longest_ge hv
          omega
        obtain ⟨p4, c4, hs5⟩ := OwnsM.shape HOs.out
        rw [VecMath.made_len] at hs5
        subst hs5
        clear hall hL HOr
        go_wp2_with fail
        go_loopg [11] (L - s) (fun gh s11 wx => ∃ k : Nat, k + gh = L ∧ s ≤ k ∧ s11 = .int .i64 (k : Int) ∧ NewVec w.heap.size wx (.slice p4 L c4) (VecMath.made L (VecMath.last max (lists vs) s k)) ∧ Below w.heap.size w wx)
        case atStart => exact ⟨s, by omega, Nat.le_refl _, by go_num, HOs.out, HBr.out⟩
        case round =>
          obtain ⟨k, hk, hsk, rfl, ho, hb⟩ := hrel
          rename World => W1
          have HB1 := Lib.hid hb
          clear hb HOs HBr
          obtain ⟨D, hD⟩ : ∃ D, D = VecMath.made L (VecMath.last max (lists vs) s k) := ⟨_, rfl⟩
          have hDl : D.length = L := by rw [hD]; exact VecMath.made_len _ _
          rw [← hD] at ho
          by_cases hkL : k < L
          · have q2 : decide ((k : Int) < (L : Int)) = true := decide_eq_true (by omega)
            have q2' : decide (k < L) = true := decide_eq_true hkL
            obtain ⟨g1, cap1, hs5, hg1, _⟩ := OwnsM.open ho (by omega)
            obtain ⟨hp4, hc4⟩ : p4 = some ⟨g1, 0, none⟩ ∧ c4 = cap1 := by
              rw [hDl] at hs5
              simpa using hs5
            clear hs5 hc4
            subst hp4
            obtain ⟨x, hx, hcx, hfx⟩ := new_cell ho hkL
            have HE := Lib.hid (show D.set k (max x 0) = VecMath.made L (VecMath.last max (lists vs) s (k + 1)) by
              have hx2 : x = VecMath.last max (lists vs) s k k := by
                rw [hD, VecMath.made_at hkL] at hx
                simpa using hx.symm
              rw [hD, hx2]
              exact VecMath.last_on hsk L)
            have HV3 := Lib.hid ho
            clear hD hDl ho hx
            go_wp2_with (go_at_call 27; refine (HP.out _ _ _).mono ?_; rintro e w5 ⟨rfl, hw5⟩; rw [hw5]; clear hw5 w5)
            go_roundg (L - (k + 1))
            case measure => omega
            case rel => exact ⟨k + 1, by omega, by omega, by go_num, by rw [← HE.out]; exact HV3.out.set k _, below_store HB1.out hg1⟩
          · have q2 : decide ((k : Int) < (L : Int)) = false := decide_eq_false (by omega)
            have q2' : decide (k < L) = false := decide_eq_false hkL
            have hkk : k = L := by omega
            have hE : D = VecMath.made L (VecMath.pick max (lists vs)) := by
              rw [hD, hkk, HL.out]
              exact VecMath.last_done VecMath.picks_max HS.out.1 HS.out.2
            have HE := Lib.hid (show VecMath.join (lists vs) = VecMath.trim D by
              rw [hE, HL.out]
              unfold VecMath.join
              exact congrArg VecMath.trim (VecMath.made_congr fun q _ => VecMath.most_pick _ _))
            obtain ⟨p5, c5, hv5, hi5, _⟩ := NewVec.slice ho (by rw [hE]; exact pick_fits VecMath.picks_max HF.out _)
            have hcap : L ≤ c4 := by
              rcases ho.2 with ⟨h1, h2⟩ | ⟨g', cap', cur, lo, hi', h1, _, _, _, hnc, _⟩
              · omega
              · have : c4 = cap' := by simpa using congrArg (fun v => match v with | .slice _ _ c => c | _ => 0) h1
                omega
            rw [hDl] at hv5
            obtain ⟨hp5, hc5⟩ : p4 = p5 ∧ c4 = c5 := by simpa using hv5
            subst hp5
            have hT := trimOk p4 c4 _ _ hi5 (by omega) (by omega)
            rw [hDl] at hT
            have HT := Lib.hid hT
            clear hT hD hDl hE ho hi5
            go_wp2_with (go_at_call 14; refine HT.out.mono ?_; rintro e w4 ⟨⟨v, rfl, hv⟩, hb4⟩; replace hv := Lib.hid hv; replace hb4 := Lib.hid hb4)
            go_ret
            exact ⟨⟨_, rfl, by rw [HE.out]; exact hv.out.weaken HB1.out.size⟩, HB1.out.trans (hb4.out.mono HB1.out.size)⟩
set_option maxRecDepth 100000 in
theorem joinOk : JoinOk := by
  intro pp c vs w h hl hm hc
  have HT := Lib.hid (mergeJoin pp c vs w h hl hm hc)
  obtain ⟨N, hN⟩ : ∃ N, N = vs.length := ⟨_, rfl⟩
  rw [← hN] at HT ⊢
  clear h hl hm hc hN
  go_enter Try.func17, Try.ntmps17
  go_wp2_with (go_at_call 26; refine HT.out.mono ?_; rintro e w4 ⟨⟨v, rfl, hv⟩, hb4⟩; replace hv := Lib.hid hv; replace hb4 := Lib.hid hb4)
  go_ret
  exact ⟨⟨_, rfl, hv.out⟩, hb4.out⟩

set_option maxRecDepth 100000 in
theorem leastPick_ok (a b : Int) (w : World) : Calls Try.prog 29 #[.int .i64 a, .int .i64 b] w fun e w' => e = .returned (.int .i64 (min a b)) ∧ w' = w := by
  by_cases h : b < a
  · have t1 : decide (b < a) = true := decide_eq_true h
    have HE := Lib.hid (show min a b = b by omega)
    go_enter Try.func29, Try.ntmps29
    go_wp2
    go_ret
    exact ⟨by rw [HE.out]; rfl, rfl⟩
  · have t1 : decide (b < a) = false := decide_eq_false h
    have HE := Lib.hid (show min a b = a by omega)
    go_enter Try.func29, Try.ntmps29
    go_wp2
    go_ret
    exact ⟨by rw [HE.out]; rfl, rfl⟩
set_option maxRecDepth 100000 in
set_option maxHeartbeats 4000000 in
theorem mergeLeast (pp : Option Addr) (c : Nat) (vs : List Vc) (w : World) (h : VecsIn w pp vs) (hl : vs.length ≤ 100) (hm : ∀ v ∈ vs, v.l.length ≤ 10000) (hc : ∀ v ∈ vs, v.l.length ≤ v.c) :
    Calls Try.prog 26 #[.func (.func 29) #[] #[], .slice pp vs.length c] w fun e w' => (∃ v, e = .returned v ∧ NewVec w.heap.size w' v (VecMath.least (lists vs))) ∧ Below w.heap.size w w' := by
  obtain ⟨ii, hii, hi0, hi1, hi2⟩ := info_parts info_int
  have HP := Lib.hid leastPick_ok
  have HF := Lib.hid (show ∀ v ∈ vs, Fits v.l from fun v hv => by
    obtain ⟨i, hi⟩ := List.getElem?_of_mem hv
    obtain ⟨_, _, _, _, hz⟩ := h i v hi
    exact hz.fits)
  obtain ⟨N, hN⟩ : ∃ N, N = vs.length := ⟨_, rfl⟩
  have HI := Lib.hid h
  have HN := Lib.hid hN
  have HM := Lib.hid hm
  have HC := Lib.hid hc
  rw [← hN] at hl ⊢
  have HO := Lib.hid (show NewVec w.heap.size w (.slice none 0 0) [] from OwnsM.of (World.ownsRow_nil w w.heap.size 3 1))
  have HB := Lib.hid (Below.refl w.heap.size w)
  clear h hm hc
  by_cases h0 : N = 0
  · have t1 : ((N : Int) == 0) = true := by rw [beq_iff_eq]; omega
    have HE := Lib.hid (show VecMath.least (lists vs) = [] by
      obtain rfl : vs = [] := List.eq_nil_of_length_eq_zero (by rw [← hN]; exact h0)
      rfl)
    clear hN
    go_enter Try.func26, Try.ntmps26
    go_wp2
    go_ret
    exact ⟨⟨_, rfl, by rw [HE.out]; exact HO.out⟩, HB.out⟩
  · have t1 : ((N : Int) == 0) = false := by rw [beq_eq_false_iff_ne]; omega
    obtain ⟨⟨p0, l0, c0⟩, hv0⟩ : ∃ v, vs[0]? = some v := ⟨_, List.getElem?_eq_getElem (by omega)⟩
    obtain ⟨b, off, rfl, hc0, hz0⟩ := HI.out 0 _ hv0
    rw [Nat.add_zero] at hc0
    obtain ⟨K0, hK0⟩ : ∃ K0, K0 = l0.length := ⟨_, rfl⟩
    replace hc0 : w.cell? ⟨b, off, none⟩ = some (.slice p0 K0 c0) := by rw [hK0]; exact hc0
    have HS0 := Lib.hid (show (∀ v ∈ (lists vs).take 0, K0 ≤ v.length) ∧ ∃ v ∈ lists vs, v.length ≤ K0 from ⟨fun v hv => by simp at hv, l0, List.mem_of_getElem? (lists_at hv0), by omega⟩)
    have hK0b := HM.out _ (List.mem_of_getElem? hv0)
    replace hK0b : K0 ≤ 10000 := by rw [hK0]; exact hK0b
    clear hv0 hz0 hK0 hN
    go_enter Try.func26, Try.ntmps26
    go_wp2_with fail
    go_loopg [5, 6, 21] N (fun gh s5 s6 s21 wx => ∃ (i s : Nat), i + gh = N ∧ s21 = .int .i64 (i : Int) ∧ s6 = .int .i64 (s : Int) ∧ s ≤ 10000 ∧ Hid ((∀ v ∈ (lists vs).take i, s ≤ v.length) ∧ ∃ v ∈ lists vs, v.length ≤ s) ∧ NewVec w.heap.size wx s5 (VecMath.made (VecMath.longest ((lists vs).take i)) (VecMath.part min ((lists vs).take i))) ∧ Below w.heap.size w wx)
    case atStart => exact ⟨0, K0, by omega, by go_num, rfl, hK0b, HS0, HO.out, HB.out⟩
    case round =>
      obtain ⟨i, s, hi, rfl, rfl, hs, HS, ho, hb⟩ := hrel
      rename World => W0
      have HOr := Lib.hid ho
      have HBr := Lib.hid hb
      clear ho hb HO HB HS0
      by_cases hiN : i < N
      · have q1 : decide ((i : Int) < (N : Int)) = true := decide_eq_true (by omega)
        have q1' : decide (i < N) = true := decide_eq_true hiN
        obtain ⟨⟨vp, vl, vc⟩, hv⟩ : ∃ v, vs[i]? = some v := ⟨_, List.getElem?_eq_getElem (by rw [← HN.out]; exact hiN)⟩
        obtain ⟨b2, off2, hp2, hcv, hzv⟩ := (HI.out.grown HBr.out) i _ hv
        obtain ⟨rfl, rfl⟩ : b2 = b ∧ off2 = off := by simpa using hp2.symm
        obtain ⟨K, hK⟩ : ∃ K, K = vl.length := ⟨_, rfl⟩
        replace hcv : W0.cell? ⟨b2, off2 + i, none⟩ = some (.slice vp K vc) := by rw [hK]; exact hcv
        have hKb := HM.out _ (List.mem_of_getElem? hv)
        replace hKb : K ≤ 10000 := by rw [hK]; exact hKb
        obtain ⟨L, hL⟩ : ∃ L, L = VecMath.longest ((lists vs).take i) := ⟨_, rfl⟩
        have hLb : L ≤ 10000 := by
          rw [hL]
          refine longest_le fun u hu => ?_
          obtain ⟨x, hx, rfl⟩ := List.mem_map.1 (List.mem_of_mem_take hu)
          exact HM.out x hx
        have HL := Lib.hid hL
        have HV := Lib.hid hv
        have HVl := Lib.hid (lists_at hv)
        have HK := Lib.hid hK
        rw [← hL] at HOr
        clear hv hK hL hp2 hzv
        by_cases hKs : K < s
        · have q2 : decide ((K : Int) < (s : Int)) = true := decide_eq_true (by omega)
          have q2' : decide (K < s) = true := decide_eq_true hKs
          have HS2 := Lib.hid (show (∀ v ∈ (lists vs).take (i + 1), K ≤ v.length) ∧ ∃ v ∈ lists vs, v.length ≤ K from ⟨fun v hv => by
            rw [List.take_add_one, HVl.out] at hv
            rcases List.mem_append.1 hv with hv | hv
            · have := HS.out.1 v hv
              omega
            · obtain rfl : v = vl := by simpa using hv
              rw [HK.out]
              exact Nat.le_refl _, vl, List.mem_of_getElem? HVl.out, by rw [HK.out]; exact Nat.le_refl _⟩)
          go_wp2_with fail
          go_loopg [5, 31] K (fun gh s5 s31 wx => ∃ j : Nat, j + gh = K ∧ s31 = .int .i64 (j : Int) ∧ NewVec w.heap.size wx s5 (VecMath.made (max L j) (VecMath.half min (lists vs) i j)) ∧ Below w.heap.size w wx)
          case atStart => exact ⟨0, by omega, by go_num, by rw [VecMath.half_start, Nat.max_eq_left (Nat.zero_le _)]; exact HOr.out, HBr.out⟩
          case round =>
            obtain ⟨j, hj, rfl, ho, hb⟩ := hrel
            rename World => W1
            have HB1 := Lib.hid hb
            have HO1 := Lib.hid ho
            clear ho hb HOr HBr hcv
            by_cases hjK : j < K
            · have q3 : decide ((j : Int) < (K : Int)) = true := decide_eq_true (by omega)
              have q3' : decide (j < K) = true := decide_eq_true hjK
              have hzv : Ints W1 vp vl := by
                obtain ⟨_, _, _, _, hq⟩ := (HI.out.grown HB1.out) i _ HV.out
                exact hq
              obtain ⟨z, hz⟩ : ∃ z, vl[j]? = some z := ⟨_, List.getElem?_eq_getElem (by rw [← HK.out]; exact hjK)⟩
              obtain ⟨_, b3, off3, rfl, hcz⟩ := hzv j z hz
              have HZ := Lib.hid (show VecMath.cnt vl j = z from VecMath.cnt_at hz)
              have HPz := Lib.hid (fun x u => HP.out x z u)
              clear hz hzv
              by_cases hLj : L ≤ j
              · obtain ⟨D, hD⟩ : ∃ D, D = VecMath.made j (VecMath.half min (lists vs) i j) := ⟨_, rfl⟩
                have hDl : D.length = j := by rw [hD]; exact VecMath.made_len _ _
                have ho := HO1.out
                rw [Nat.max_eq_right hLj, ← hD] at ho
                unfold NewVec at ho
                rw [hDl] at ho
                have HE := Lib.hid (show (D ++ [z]).set j z = VecMath.made (max L (j + 1)) (VecMath.half min (lists vs) i (j + 1)) by
                  rw [hD, ← HZ.out, Nat.max_eq_right (by omega)]
                  have hn := VecMath.half_new VecMath.picks_min HVl.out (by rw [← HK.out]; exact hjK) (by rw [← HL.out]; exact hLj)
                  rw [VecMath.picks_min.same] at hn
                  exact hn)
                have HDl := Lib.hid hDl
                obtain ⟨p4, c4, rfl⟩ := OwnsM.shape ho
                have HO2 := Lib.hid (OwnsM.alloc ho (.cells #[.int .i64 z] 3))
                have HB2 := Lib.hid (HB1.out.alloc HB1.out.size (.cells #[.int .i64 z] 3))
                clear hD hDl ho HO1
                go_wp2_with (first
                  | (at_builtin; refine wpList_append_m rfl _ _ 26 rfl w.heap.size 3 ii (.int .i64 0) 8 Try.underlying26 hii hi0 hi1 hi2 rfl _ _ _ rfl HO2.out ⟨_, 0, none⟩ 1 1 [.int .i64 z] rfl rfl (one_put _ _ _ _ (by simp)) (fun u hu => by simp at hu; subst hu; rfl) (by unfold maxLen; omega) (by omega) HB2.out.size ?_; intro v2 w4 hown2 hgrow2; have HB3 := Lib.hid (HB2.out.grown hgrow2 HB2.out.size (fun q hq => (OwnsM.lt HO2.out q hq).1)); have HV3 := Lib.hid (NewVec.more (by rw [HDl.out]; exact hown2)); clear hgrow2 hown2; obtain ⟨g1, cap1, rfl, hg1, hcz1, hfz1⟩ := NewVec.top HDl.out HV3.out)
                  | (go_at_call 29; refine (HPz.out _ _).mono ?_; rintro e w5 ⟨rfl, hw5⟩; rw [hw5]; clear hw5 w5))
                go_roundg (K - (j + 1))
                case measure => omega
                case rel => exact ⟨j + 1, by omega, by go_num, by rw [← HE.out]; exact HV3.out.set j z, below_store HB3.out hg1⟩
              · have hLj' : j < L := by omega
                have t2 : ((j : Int) == (L : Int)) = false := by rw [beq_eq_false_iff_ne]; omega
                obtain ⟨D, hD⟩ : ∃ D, D = VecMath.made L (VecMath.half min (lists vs) i j) := ⟨_, rfl⟩
                have hDl : D.length = L := by rw [hD]; exact VecMath.made_len _ _
                have ho := HO1.out
                rw [Nat.max_eq_left (by omega), ← hD] at ho
                obtain ⟨g1, cap1, hs5, hg1, _⟩ := OwnsM.open ho (by omega)
                rw [hDl] at hs5
                subst hs5
                obtain ⟨x, hx, hcx, hfx⟩ := new_cell ho hLj'
                have HE := Lib.hid (show D.set j (min x z) = VecMath.made (max L (j + 1)) (VecMath.half min (lists vs) i (j + 1)) by
                  have hx2 : x = VecMath.half min (lists vs) i j j := by
                    rw [hD, VecMath.made_at hLj'] at hx
                    simpa using hx.symm
                  rw [hD, ← HZ.out, hx2, Nat.max_eq_left (by omega)]
                  exact VecMath.half_on HVl.out (by rw [← HK.out]; exact hjK) (by rw [← HL.out]; exact hLj') L)
                have HV3 := Lib.hid ho
                clear hD hDl ho HO1 hx
                go_wp2_with (go_at_call 29; refine (HPz.out _ _).mono ?_; rintro e w5 ⟨rfl, hw5⟩; rw [hw5]; clear hw5 w5)
                go_roundg (K - (j + 1))
                case measure => omega
                case rel => exact ⟨j + 1, by omega, by go_num, by rw [← HE.out]; exact HV3.out.set j _, below_store HB1.out hg1⟩
            · have q3 : decide ((j : Int) < (K : Int)) = false := decide_eq_false (by omega)
              have q3' : decide (j < K) = false := decide_eq_false hjK
              have hjk : j = K := by omega
              rw [hjk] at HO1
              have HE := Lib.hid (VecMath.half_done (g := min) HVl.out)
              rw [← HK.out, ← HL.out] at HE
              have HO2 := Lib.hid (show NewVec w.heap.size W1 _ (VecMath.made (VecMath.longest ((lists vs).take (i + 1))) (VecMath.part min ((lists vs).take (i + 1)))) from by rw [← HE.out]; exact HO1.out)
              go_wp2
              go_roundg (N - (i + 1))
              case measure => omega
              case rel => exact ⟨i + 1, K, by omega, by go_num, rfl, by omega, HS2, HO2.out, HB1.out⟩
        · have q2 : decide ((K : Int) < (s : Int)) = false := decide_eq_false (by omega)
          have q2' : decide (K < s) = false := decide_eq_false hKs
          have HS2 := Lib.hid (show (∀ v ∈ (lists vs).take (i + 1), s ≤ v.length) ∧ ∃ v ∈ lists vs, v.length ≤ s from ⟨fun v hv => by
            rw [List.take_add_one, HVl.out] at hv
            rcases List.mem_append.1 hv with hv | hv
            · exact HS.out.1 v hv
            · obtain rfl : v = vl := by simpa using hv
              rw [← HK.out]
              omega, HS.out.2⟩)
          go_wp2_with fail
          go_loopg [5, 31] K (fun gh s5 s31 wx => ∃ j : Nat, j + gh = K ∧ s31 = .int .i64 (j : Int) ∧ NewVec w.heap.size wx s5 (VecMath.made (max L j) (VecMath.half min (lists vs) i j)) ∧ Below w.heap.size w wx)
          case atStart => exact ⟨0, by omega, by go_num, by rw [VecMath.half_start, Nat.max_eq_left (Nat.zero_le _)]; exact HOr.out, HBr.out⟩
          case round =>
            obtain ⟨j, hj, rfl, ho, hb⟩ := hrel
            rename World => W1
            have HB1 := Lib.hid hb
            have HO1 := Lib.hid ho
            clear ho hb HOr HBr hcv
            by_cases hjK : j < K
            · have q3 : decide ((j : Int) < (K : Int)) = true := decide_eq_true (by omega)
              have q3' : decide (j < K) = true := decide_eq_true hjK
              have hzv : Ints W1 vp vl := by
                obtain ⟨_, _, _, _, hq⟩ := (HI.out.grown HB1.out) i _ HV.out
                exact hq
              obtain ⟨z, hz⟩ : ∃ z, vl[j]? = some z := ⟨_, List.getElem?_eq_getElem (by rw [← HK.out]; exact hjK)⟩
              obtain ⟨_, b3, off3, rfl, hcz⟩ := hzv j z hz
              have HZ := Lib.hid (show VecMath.cnt vl j = z from VecMath.cnt_at hz)
              have HPz := Lib.hid (fun x u => HP.out x z u)
              clear hz hzv
              by_cases hLj : L ≤ j
              · obtain ⟨D, hD⟩ : ∃ D, D = VecMath.made j (VecMath.half min (lists vs) i j) := ⟨_, rfl⟩
                have hDl : D.length = j := by rw [hD]; exact VecMath.made_len _ _
                have ho := HO1.out
                rw [Nat.max_eq_right hLj, ← hD] at ho
                unfold NewVec at ho
                rw [hDl] at ho
                have HE := Lib.hid (show (D ++ [z]).set j z = VecMath.made (max L (j + 1)) (VecMath.half min (lists vs) i (j + 1)) by
                  rw [hD, ← HZ.out, Nat.max_eq_right (by omega)]
                  have hn := VecMath.half_new VecMath.picks_min HVl.out (by rw [← HK.out]; exact hjK) (by rw [← HL.out]; exact hLj)
                  rw [VecMath.picks_min.same] at hn
                  exact hn)
                have HDl := Lib.hid hDl
                obtain ⟨p4, c4, rfl⟩ := OwnsM.shape ho
                have HO2 := Lib.hid (OwnsM.alloc ho (.cells #[.int .i64 z] 3))
                have HB2 := Lib.hid (HB1.out.alloc HB1.out.size (.cells #[.int .i64 z] 3))
                clear hD hDl ho HO1
                go_wp2_with (first
                  | (at_builtin; refine wpList_append_m rfl _ _ 26 rfl w.heap.size 3 ii (.int .i64 0) 8 Try.underlying26 hii hi0 hi1 hi2 rfl _ _ _ rfl HO2.out ⟨_, 0, none⟩ 1 1 [.int .i64 z] rfl rfl (one_put _ _ _ _ (by simp)) (fun u hu => by simp at hu; subst hu; rfl) (by unfold maxLen; omega) (by omega) HB2.out.size ?_; intro v2 w4 hown2 hgrow2; have HB3 := Lib.hid (HB2.out.grown hgrow2 HB2.out.size (fun q hq => (OwnsM.lt HO2.out q hq).1)); have HV3 := Lib.hid (NewVec.more (by rw [HDl.out]; exact hown2)); clear hgrow2 hown2; obtain ⟨g1, cap1, rfl, hg1, hcz1, hfz1⟩ := NewVec.top HDl.out HV3.out)
                  | (go_at_call 29; refine (HPz.out _ _).mono ?_; rintro e w5 ⟨rfl, hw5⟩; rw [hw5]; clear hw5 w5))
                go_roundg (K - (j + 1))
                case measure => omega
                case rel => exact ⟨j + 1, by omega, by go_num, by rw [← HE.out]; exact HV3.out.set j z, below_store HB3.out hg1⟩
              · have hLj' : j < L := by omega
                have t2 : ((j : Int) == (L : Int)) = false := by rw [beq_eq_false_iff_ne]; omega
                obtain ⟨D, hD⟩ : ∃ D, D = VecMath.made L (VecMath.half min (lists vs) i j) := ⟨_, rfl⟩
                have hDl : D.length = L := by rw [hD]; exact VecMath.made_len _ _
                have ho := HO1.out
                rw [Nat.max_eq_left (by omega), ← hD] at ho
                obtain ⟨g1, cap1, hs5, hg1, _⟩ := OwnsM.open ho (by omega)
                rw [hDl] at hs5
                subst hs5
                obtain ⟨x, hx, hcx, hfx⟩ := new_cell ho hLj'
                have HE := Lib.hid (show D.set j (min x z) = VecMath.made (max L (j + 1)) (VecMath.half min (lists vs) i (j + 1)) by
                  have hx2 : x = VecMath.half min (lists vs) i j j := by
                    rw [hD, VecMath.made_at hLj'] at hx
                    simpa using hx.symm
                  rw [hD, ← HZ.out, hx2, Nat.max_eq_left (by omega)]
                  exact VecMath.half_on HVl.out (by rw [← HK.out]; exact hjK) (by rw [← HL.out]; exact hLj') L)
                have HV3 := Lib.hid ho
                clear hD hDl ho HO1 hx
                go_wp2_with (go_at_call 29; refine (HPz.out _ _).mono ?_; rintro e w5 ⟨rfl, hw5⟩; rw [hw5]; clear hw5 w5)
                go_roundg (K - (j + 1))
                case measure => omega
                case rel => exact ⟨j + 1, by omega, by go_num, by rw [← HE.out]; exact HV3.out.set j _, below_store HB1.out hg1⟩
            · have q3 : decide ((j : Int) < (K : Int)) = false := decide_eq_false (by omega)
              have q3' : decide (j < K) = false := decide_eq_false hjK
              have hjk : j = K := by omega
              rw [hjk] at HO1
              have HE := Lib.hid (VecMath.half_done (g := min) HVl.out)
              rw [← HK.out, ← HL.out] at HE
              have HO2 := Lib.hid (show NewVec w.heap.size W1 _ (VecMath.made (VecMath.longest ((lists vs).take (i + 1))) (VecMath.part min ((lists vs).take (i + 1)))) from by rw [← HE.out]; exact HO1.out)
              go_wp2
              go_roundg (N - (i + 1))
              case measure => omega
              case rel => exact ⟨i + 1, s, by omega, by go_num, rfl, by omega, HS2, HO2.out, HB1.out⟩
      · have q1 : decide ((i : Int) < (N : Int)) = false := decide_eq_false (by omega)
        have q1' : decide (i < N) = false := decide_eq_false hiN
        have hall : (lists vs).take i = lists vs := List.take_of_length_le (by rw [lists_len, ← HN.out]; omega)
        rw [hall] at HOr HS
        obtain ⟨L, hL⟩ : ∃ L, L = VecMath.longest (lists vs) := ⟨_, rfl⟩
        have hLb : L ≤ 10000 := by
          rw [hL]
          refine longest_le fun u hu => ?_
          obtain ⟨x, hx, rfl⟩ := List.mem_map.1 hu
          exact HM.out x hx
        have HL := Lib.hid hL
        rw [← hL] at HOr
        have HOs := Lib.hid (show NewVec w.heap.size W0 u5 (VecMath.made L (VecMath.last min (lists vs) s s)) by rw [VecMath.last_start]; exact HOr.out)
        have hsL : s ≤ L := by
          obtain ⟨v, hv, _⟩ := HS.out.2
          have := HS.out.1 v hv
          have := VecMath.longest_ge hv
          omega
        obtain ⟨p4, c4, hs5⟩ := OwnsM.shape HOs.out
        rw [VecMath.made_len] at hs5
        subst hs5
        clear hall hL HOr
        go_wp2_with fail
        go_loopg [11] (L - s) (fun gh s11 wx => ∃ k : Nat, k + gh = L ∧ s ≤ k ∧ s11 = .int .i64 (k : Int) ∧ NewVec w.heap.size wx (.slice p4 L c4) (VecMath.made L (VecMath.last min (lists vs) s k)) ∧ Below w.heap.size w wx)
        case atStart => exact ⟨s, by omega, Nat.le_refl _, by go_num, HOs.out, HBr.out⟩
        case round =>
          obtain ⟨k, hk, hsk, rfl, ho, hb⟩ := hrel
          rename World => W1
          have HB1 := Lib.hid hb
          clear hb HOs HBr
          obtain ⟨D, hD⟩ : ∃ D, D = VecMath.made L (VecMath.last min (lists vs) s k) := ⟨_, rfl⟩
          have hDl : D.length = L := by rw [hD]; exact VecMath.made_len _ _
          rw [← hD] at ho
          by_cases hkL : k < L
          · have q2 : decide ((k : Int) < (L : Int)) = true := decide_eq_true (by omega)
            have q2' : decide (k < L) = true := decide_eq_true hkL
            obtain ⟨g1, cap1, hs5, hg1, _⟩ := OwnsM.open ho (by omega)
            obtain ⟨hp4, hc4⟩ : p4 = some ⟨g1, 0, none⟩ ∧ c4 = cap1 := by
              rw [hDl] at hs5
              simpa using hs5
            clear hs5 hc4
            subst hp4
            obtain ⟨x, hx, hcx, hfx⟩ := new_cell ho hkL
            have HE := Lib.hid (show D.set k (min x 0) = VecMath.made L (VecMath.last min (lists vs) s (k + 1)) by
              have hx2 : x = VecMath.last min (lists vs) s k k := by
                rw [hD, VecMath.made_at hkL] at hx
                simpa using hx.symm
              rw [hD, hx2]
              exact VecMath.last_on hsk L)
            have HV3 := Lib.hid ho
            clear hD hDl ho hx
            go_wp2_with (go_at_call 29; refine (HP.out _ _ _).mono ?_; rintro e w5 ⟨rfl, hw5⟩; rw [hw5]; clear hw5 w5)
            go_roundg (L - (k + 1))
            case measure => omega
            case rel => exact ⟨k + 1, by omega, by omega, by go_num, by rw [← HE.out]; exact HV3.out.set k _, below_store HB1.out hg1⟩
          · have q2 : decide ((k : Int) < (L : Int)) = false := decide_eq_false (by omega)
            have q2' : decide (k < L) = false := decide_eq_false hkL
            have hkk : k = L := by omega
            have hE : D = VecMath.made L (VecMath.pick min (lists vs)) := by
              rw [hD, hkk, HL.out]
              exact VecMath.last_done VecMath.picks_min HS.out.1 HS.out.2
            have HE := Lib.hid (show VecMath.least (lists vs) = VecMath.trim D by
              rw [hE, HL.out]
              unfold VecMath.least
              exact congrArg VecMath.trim (VecMath.made_congr fun q _ => VecMath.few_pick _ _))
            obtain ⟨p5, c5, hv5, hi5, _⟩ := NewVec.slice ho (by rw [hE]; exact pick_fits VecMath.picks_min HF.out _)
            have hcap : L ≤ c4 := by
              rcases ho.2 with ⟨h1, h2⟩ | ⟨g', cap', cur, lo, hi', h1, _, _, _, hnc, _⟩
              · omega
              · have : c4 = cap' := by simpa using congrArg (fun v => match v with | .slice _ _ c => c | _ => 0) h1
                omega
            rw [hDl] at hv5
            obtain ⟨hp5, hc5⟩ : p4 = p5 ∧ c4 = c5 := by simpa using hv5
            subst hp5
            have hT := trimOk p4 c4 _ _ hi5 (by omega) (by omega)
            rw [hDl] at hT
            have HT := Lib.hid hT
            clear hT hD hDl hE ho hi5
            go_wp2_with (go_at_call 14; refine HT.out.mono ?_; rintro e w4 ⟨⟨v, rfl, hv⟩, hb4⟩; replace hv := Lib.hid hv; replace hb4 := Lib.hid hb4)
            go_ret
            exact ⟨⟨_, rfl, by rw [HE.out]; exact hv.out.weaken HB1.out.size⟩, HB1.out.trans (hb4.out.mono HB1.out.size)⟩
set_option maxRecDepth 100000 in
theorem leastOk : LeastOk := by
  intro pp c vs w h hl hm hc
  have HT := Lib.hid (mergeLeast pp c vs w h hl hm hc)
  obtain ⟨N, hN⟩ : ∃ N, N = vs.length := ⟨_, rfl⟩
  rw [← hN] at HT ⊢
  clear h hl hm hc hN
  go_enter Try.func20, Try.ntmps20
  go_wp2_with (go_at_call 26; refine HT.out.mono ?_; rintro e w4 ⟨⟨v, rfl, hv⟩, hb4⟩; replace hv := Lib.hid hv; replace hb4 := Lib.hid hb4)
  go_ret
  exact ⟨⟨_, rfl, hv.out⟩, hb4.out⟩
end Go.Proofs.Ytkdjfeaaojecdaa
