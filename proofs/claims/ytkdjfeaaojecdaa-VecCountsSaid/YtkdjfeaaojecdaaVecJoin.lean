/-
  The contracts of the document's own Join and Least of chapter 6. The conditions: the vectors' cells; at most 10,000 of each.
-/
import Derived.Test.YtkdjfeaaojecdaaVecLong
namespace VecMath
theorem most_take {l : List (List Int)} {i : Nat} {v : List Int} (h1 : 1 ≤ i) (h : l[i]? = some v) (j : Nat) : most (l.take (i + 1)) j = max (most (l.take i) j) (cnt v j) := by
  obtain ⟨q, rfl⟩ : ∃ q, i = q + 1 := ⟨i - 1, by omega⟩
  cases l with
  | nil => simp at h
  | cons u r =>
    have hr : r[q]? = some v := by simpa using h
    show (r.take (q + 1)).foldl (fun n u => max n (cnt u j)) (cnt u j) = max ((r.take q).foldl (fun n u => max n (cnt u j)) (cnt u j)) (cnt v j)
    rw [List.take_add_one, hr]
    simp
theorem few_take {l : List (List Int)} {i : Nat} {v : List Int} (h1 : 1 ≤ i) (h : l[i]? = some v) (j : Nat) : few (l.take (i + 1)) j = min (few (l.take i) j) (cnt v j) := by
  obtain ⟨q, rfl⟩ : ∃ q, i = q + 1 := ⟨i - 1, by omega⟩
  cases l with
  | nil => simp at h
  | cons u r =>
    have hr : r[q]? = some v := by simpa using h
    show (r.take (q + 1)).foldl (fun n u => min n (cnt u j)) (cnt u j) = min ((r.take q).foldl (fun n u => min n (cnt u j)) (cnt u j)) (cnt v j)
    rw [List.take_add_one, hr]
    simp
theorem most_one {l : List (List Int)} {v : List Int} (h : l[0]? = some v) (j : Nat) : most (l.take 1) j = cnt v j := by
  cases l with
  | nil => simp at h
  | cons u r => obtain rfl : u = v := by simpa using h
                rfl
theorem few_one {l : List (List Int)} {v : List Int} (h : l[0]? = some v) (j : Nat) : few (l.take 1) j = cnt v j := by
  cases l with
  | nil => simp at h
  | cons u r => obtain rfl : u = v := by simpa using h
                rfl
theorem most_or : ∀ (r : List (List Int)) (n : Int) (j : Nat), r.foldl (fun n u => max n (cnt u j)) n = n ∨ ∃ u ∈ r, r.foldl (fun n u => max n (cnt u j)) n = cnt u j
  | [], n, j => Or.inl rfl
  | v :: r, n, j => by
    rw [List.foldl_cons]
    rcases most_or r (max n (cnt v j)) j with h | ⟨u, hu, h⟩
    · rw [h]
      rcases Int.le_total n (cnt v j) with k | k
      · exact Or.inr ⟨v, by simp, by omega⟩
      · exact Or.inl (by omega)
    · exact Or.inr ⟨u, by simp [hu], h⟩
theorem few_or : ∀ (r : List (List Int)) (n : Int) (j : Nat), r.foldl (fun n u => min n (cnt u j)) n = n ∨ ∃ u ∈ r, r.foldl (fun n u => min n (cnt u j)) n = cnt u j
  | [], n, j => Or.inl rfl
  | v :: r, n, j => by
    rw [List.foldl_cons]
    rcases few_or r (min n (cnt v j)) j with h | ⟨u, hu, h⟩
    · rw [h]
      rcases Int.le_total n (cnt v j) with k | k
      · exact Or.inl (by omega)
      · exact Or.inr ⟨v, by simp, by omega⟩
    · exact Or.inr ⟨u, by simp [hu], h⟩
theorem longest_is_from : ∀ (l : List (List Int)) (n : Nat), l.foldl (fun n v => max n v.length) n = n ∨ ∃ v ∈ l, l.foldl (fun n v => max n v.length) n = v.length
  | [], n => Or.inl rfl
  | v :: l, n => by
    rw [List.foldl_cons]
    rcases longest_is_from l (max n v.length) with h | ⟨u, hu, h⟩
    · rw [h]
      rcases Nat.le_total n v.length with k | k
      · exact Or.inr ⟨v, by simp, by omega⟩
      · exact Or.inl (by omega)
    · exact Or.inr ⟨u, by simp [hu], h⟩
theorem longest_is (l : List (List Int)) (h : longest l ≠ 0) : ∃ v ∈ l, longest l = v.length := (longest_is_from l 0).resolve_left h
end VecMath
namespace Go.Proofs.Ytkdjfeaaojecdaa
open Go.RowKit

theorem most_fits {vs : List Vc} (hf : ∀ v ∈ vs, Fits v.l) (n : Nat) : Fits (VecMath.made n (VecMath.most (lists vs))) := fun z hz => by
  unfold VecMath.made at hz
  obtain ⟨i, _, rfl⟩ := List.mem_map.1 hz
  cases vs with
  | nil => show -9223372036854775808 ≤ (0 : Int) ∧ (0 : Int) ≤ 9223372036854775807; omega
  | cons v r =>
    rcases VecMath.most_or (r.map Vc.l) (VecMath.cnt v.l i) i with h | ⟨u, hu, h⟩
    · have e : VecMath.most (lists (v :: r)) i = VecMath.cnt v.l i := h
      rw [e]
      exact (hf v (by simp)).cnt i
    · obtain ⟨x, hx, rfl⟩ := List.mem_map.1 hu
      have e : VecMath.most (lists (v :: r)) i = VecMath.cnt x.l i := h
      rw [e]
      exact (hf x (by simp [hx])).cnt i
set_option maxRecDepth 100000 in
set_option maxHeartbeats 4000000 in
theorem refJoin (pp : Option Addr) (c : Nat) (vs : List Vc) (w : World) (h : VecsIn w pp vs) (hl : vs.length ≤ 10000) (hm : ∀ v ∈ vs, v.l.length ≤ 10000) :
    Calls Try.prog 19 #[.slice pp vs.length c] w fun e w' => (∃ v, e = .returned v ∧ NewVec w.heap.size w' v (VecMath.join (lists vs))) ∧ Below w.heap.size w w' := by
  obtain ⟨ii, hii, hi0, hi1, hi2⟩ := info_parts info_int
  have HLg := Lib.hid (fun w1 (hb : Below w.heap.size w w1) => refLong pp c vs w1 (h.grown hb) (by omega) (fun v hv => by have := hm v hv; omega))
  have HAt := Lib.hid (fun (v : Vc) (hv : v ∈ vs) r w1 (hz : Ints w1 v.p v.l) => refAt v.p v.c v.l r w1 hz (by have := hm v hv; omega))
  have HF := Lib.hid (show ∀ v ∈ vs, Fits v.l from fun v hv => by
    obtain ⟨i, hi⟩ := List.getElem?_of_mem hv
    obtain ⟨_, _, _, _, hz⟩ := h i v hi
    exact hz.fits)
  have hLb : VecMath.longest (lists vs) ≤ 10000 := by
    by_cases h0 : VecMath.longest (lists vs) = 0
    · omega
    · obtain ⟨u, hu, he⟩ := VecMath.longest_is (lists vs) h0
      obtain ⟨v, hv, rfl⟩ := List.mem_map.1 hu
      have := hm v hv
      omega
  obtain ⟨N, hN⟩ : ∃ N, N = vs.length := ⟨_, rfl⟩
  obtain ⟨L, hL⟩ : ∃ L, L = VecMath.longest (lists vs) := ⟨_, rfl⟩
  have HI := Lib.hid h
  have HN := Lib.hid hN
  have HL := Lib.hid hL
  rw [← hN] at hl HLg ⊢
  rw [← hL] at hLb HLg
  have HO := Lib.hid (NewVec.start (B := w.heap.size) w (Nat.le_refl _))
  have HB : Hid (Below w.heap.size w (w.alloc (.cells #[] 3))) := Lib.hid ((Below.refl _ _).alloc (Nat.le_refl _) _)
  clear h hN hL hm
  go_enter Try.func19, Try.ntmps19
  go_wp2_with fail
  go_loopg [3, 4] L (fun gh s3 s4 wx => ∃ K : Nat, K + gh = L + 1 ∧ 1 ≤ K ∧ s4 = .int .i64 (K : Int) ∧ NewVec w.heap.size wx s3 (VecMath.made (K - 1) (VecMath.most (lists vs))) ∧ Below w.heap.size w wx)
  case atStart => exact ⟨1, by omega, by omega, by go_num, HO.out, HB.out⟩
  case round =>
    obtain ⟨K, hK, hK1, rfl, ho, hb⟩ := hrel
    rename World => W0
    obtain ⟨D, hD⟩ : ∃ D, D = VecMath.made (K - 1) (VecMath.most (lists vs)) := ⟨_, rfl⟩
    rw [← hD] at ho
    have HOr := Lib.hid ho
    have HBr := Lib.hid hb
    have HDq := Lib.hid hD
    have HDl := Lib.hid (show D.length = K - 1 by rw [hD]; exact VecMath.made_len _ _)
    have hdb : D.length ≤ 20000 := by rw [HDl.out]; omega
    obtain ⟨p4, c4, rfl⟩ := OwnsM.shape ho
    clear ho hb HO HB hD
    by_cases hKL : K ≤ L
    · have t1 : decide ((K : Int) ≤ (L : Int)) = true := decide_eq_true (by omega)
      have t1' : decide (K ≤ L) = true := decide_eq_true hKL
      have hN1 : 1 ≤ N := by
        rw [HN.out]
        cases hvs : vs with
        | nil => have := HL.out; rw [hvs] at this; have : L = 0 := this; omega
        | cons v r => simp
      have HAq := Lib.hid (show ∀ v : List Int, VecMath.at_ v (K : Int) = VecMath.cnt v (K - 1) from fun v => by
        obtain ⟨q, rfl⟩ : ∃ q, K = q + 1 := ⟨K - 1, by omega⟩
        rw [VecMath.at_nat, Nat.add_sub_cancel])
      obtain ⟨v0, hv0⟩ : ∃ v, vs[0]? = some v := ⟨_, List.getElem?_eq_getElem (by rw [← HN.out]; omega)⟩
      obtain ⟨b, off, rfl, hc0, hz0⟩ := (HI.out.grown HBr.out) 0 v0 hv0
      rw [Nat.add_zero] at hc0
      have HOne := Lib.hid (show VecMath.most ((lists vs).take 1) (K - 1) = VecMath.at_ v0.l (K : Int) by rw [HAq.out]; exact VecMath.most_one (lists_at hv0) _)
      have HA0' := Lib.hid (HAt.out v0 (List.mem_of_getElem? hv0) (K : Int) W0 hz0)
      clear hv0 hz0
      go_wp2_with (first
        | (go_at_call 28; refine (HLg.out _ HBr.out).mono ?_; rintro e w2 ⟨rfl, hw2⟩; rw [hw2]; clear hw2)
        | (go_at_call 12; refine (HA0'.out).mono ?_; rintro e w3 ⟨rfl, hw3⟩; rw [hw3]; clear hw3))
      go_loopg [5, 6] (N - 1) (fun gh s5 s6 wx => ∃ i : Nat, i + gh = N ∧ 1 ≤ i ∧ s6 = .int .i64 (i : Int) ∧ s5 = .int .i64 (VecMath.most ((lists vs).take i) (K - 1)) ∧ wx = W0)
      case atStart => exact ⟨1, by omega, by omega, by go_num, by rw [HOne.out], rfl⟩
      case round =>
        obtain ⟨i, hi, hi1n, rfl, rfl, hwx⟩ := hrel
        subst hwx
        obtain ⟨m, hm⟩ : ∃ m, m = VecMath.most ((lists vs).take i) (K - 1) := ⟨_, rfl⟩
        rw [← hm]
        have HMm := Lib.hid hm
        clear hm
        by_cases hiN : i < N
        · have q1 : decide ((i : Int) < (N : Int)) = true := decide_eq_true (by omega)
          have q1' : decide (i < N) = true := decide_eq_true hiN
          obtain ⟨v, hv⟩ : ∃ v, vs[i]? = some v := ⟨_, List.getElem?_eq_getElem (by rw [← HN.out]; exact hiN)⟩
          obtain ⟨b2, off2, hp2, hcv, hzv⟩ := (HI.out.grown HBr.out) i v hv
          obtain ⟨rfl, rfl⟩ : b2 = b ∧ off2 = off := by simpa using hp2.symm
          obtain ⟨x, hx⟩ : ∃ x, x = VecMath.at_ v.l (K : Int) := ⟨_, rfl⟩
          have HA := HAt.out v (List.mem_of_getElem? hv) (K : Int) wr hzv
          rw [← hx] at HA
          have HA := Lib.hid HA
          have HS := Lib.hid (show VecMath.most ((lists vs).take (i + 1)) (K - 1) = max m x by rw [VecMath.most_take hi1n (lists_at hv), ← HMm.out, hx, HAq.out])
          clear hv hp2 hzv hx
          by_cases hlt : m < x
          · have q2 : decide (m < x) = true := decide_eq_true hlt
            go_wp2_with (go_at_call 12; refine HA.out.mono ?_; rintro e w3 ⟨rfl, hw3⟩; rw [hw3]; clear hw3)
            go_roundg (N - (i + 1))
            case measure => omega
            case rel => exact ⟨i + 1, by omega, by omega, by go_num, by rw [HS.out]; congr 1; omega, rfl⟩
          · have q2 : decide (m < x) = false := decide_eq_false hlt
            go_wp2_with (go_at_call 12; refine HA.out.mono ?_; rintro e w3 ⟨rfl, hw3⟩; rw [hw3]; clear hw3)
            go_roundg (N - (i + 1))
            case measure => omega
            case rel => exact ⟨i + 1, by omega, by omega, by go_num, by rw [HS.out]; congr 1; omega, rfl⟩
        · have q1 : decide ((i : Int) < (N : Int)) = false := decide_eq_false (by omega)
          have q1' : decide (i < N) = false := decide_eq_false hiN
          have HE := Lib.hid (show VecMath.made K (VecMath.most (lists vs)) = D ++ [m] from by
            obtain ⟨q, rfl⟩ : ∃ q, K = q + 1 := ⟨K - 1, by omega⟩
            rw [VecMath.made_succ, HDq.out, HMm.out, List.take_of_length_le (by rw [lists_len, ← HN.out]; omega)]
            rfl)
          have HO2 := Lib.hid (HOr.out.alloc (.cells #[.int .i64 m] 3))
          have HB2 := Lib.hid (HBr.out.alloc HBr.out.size (.cells #[.int .i64 m] 3))
          go_wp2_with (at_builtin; refine wpList_append_m rfl _ _ 22 rfl w.heap.size 3 ii (.int .i64 0) 8 Try.underlying22 hii hi0 hi1 hi2 rfl _ _ _ rfl HO2.out ⟨_, 0, none⟩ 1 1 [.int .i64 m] rfl rfl (one_put _ _ _ _ (by simp)) (fun u hu => by simp at hu; subst hu; rfl) (by unfold maxLen; omega) (by omega) HB2.out.size ?_; intro v2 w4 hown2 hgrow2)
          go_roundg (L - K)
          case measure => omega
          case rel => exact ⟨K + 1, by omega, by omega, by go_num, by rw [Nat.add_sub_cancel, HE.out]; exact NewVec.more hown2, HB2.out.grown hgrow2 HB2.out.size (fun q hq => (OwnsM.lt HO2.out q hq).1)⟩
    · have t1 : decide ((K : Int) ≤ (L : Int)) = false := decide_eq_false (by omega)
      have t1' : decide (K ≤ L) = false := decide_eq_false hKL
      obtain ⟨p5, c5, hv, hints, _⟩ := NewVec.slice HOr.out (by rw [HDq.out]; exact most_fits HF.out _)
      have HTr := Lib.hid (refTrim p5 c5 _ W0 hints (by omega))
      have HE := Lib.hid (show VecMath.join (lists vs) = VecMath.trim D by
        unfold VecMath.join
        rw [← HL.out, HDq.out]
        congr 2
        omega)
      obtain ⟨hp5, hc5⟩ : p4 = p5 ∧ c4 = c5 := by simpa using hv
      subst hp5 hc5
      clear hv hints
      go_wp2_with (first
        | (go_at_call 28; refine (HLg.out _ HBr.out).mono ?_; rintro e w2 ⟨rfl, hw2⟩; rw [hw2]; clear hw2)
        | (go_at_call 15; refine HTr.out.mono ?_; rintro e w2 ⟨⟨v, rfl, hv⟩, hb⟩))
      go_ret
      exact ⟨⟨_, rfl, by rw [HE.out]; exact hv.weaken HBr.out.size⟩, HBr.out.trans (hb.mono HBr.out.size)⟩

theorem few_fits {vs : List Vc} (hf : ∀ v ∈ vs, Fits v.l) (n : Nat) : Fits (VecMath.made n (VecMath.few (lists vs))) := fun z hz => by
  unfold VecMath.made at hz
  obtain ⟨i, _, rfl⟩ := List.mem_map.1 hz
  cases vs with
  | nil => show -9223372036854775808 ≤ (0 : Int) ∧ (0 : Int) ≤ 9223372036854775807; omega
  | cons v r =>
    rcases VecMath.few_or (r.map Vc.l) (VecMath.cnt v.l i) i with h | ⟨u, hu, h⟩
    · have e : VecMath.few (lists (v :: r)) i = VecMath.cnt v.l i := h
      rw [e]
      exact (hf v (by simp)).cnt i
    · obtain ⟨x, hx, rfl⟩ := List.mem_map.1 hu
      have e : VecMath.few (lists (v :: r)) i = VecMath.cnt x.l i := h
      rw [e]
      exact (hf x (by simp [hx])).cnt i
set_option maxRecDepth 100000 in
set_option maxHeartbeats 4000000 in
theorem refLeast (pp : Option Addr) (c : Nat) (vs : List Vc) (w : World) (h : VecsIn w pp vs) (hl : vs.length ≤ 10000) (hm : ∀ v ∈ vs, v.l.length ≤ 10000) :
    Calls Try.prog 21 #[.slice pp vs.length c] w fun e w' => (∃ v, e = .returned v ∧ NewVec w.heap.size w' v (VecMath.least (lists vs))) ∧ Below w.heap.size w w' := by
  obtain ⟨ii, hii, hi0, hi1, hi2⟩ := info_parts info_int
  have HLg := Lib.hid (fun w1 (hb : Below w.heap.size w w1) => refLong pp c vs w1 (h.grown hb) (by omega) (fun v hv => by have := hm v hv; omega))
  have HAt := Lib.hid (fun (v : Vc) (hv : v ∈ vs) r w1 (hz : Ints w1 v.p v.l) => refAt v.p v.c v.l r w1 hz (by have := hm v hv; omega))
  have HF := Lib.hid (show ∀ v ∈ vs, Fits v.l from fun v hv => by
    obtain ⟨i, hi⟩ := List.getElem?_of_mem hv
    obtain ⟨_, _, _, _, hz⟩ := h i v hi
    exact hz.fits)
  have hLb : VecMath.longest (lists vs) ≤ 10000 := by
    by_cases h0 : VecMath.longest (lists vs) = 0
    · omega
    · obtain ⟨u, hu, he⟩ := VecMath.longest_is (lists vs) h0
      obtain ⟨v, hv, rfl⟩ := List.mem_map.1 hu
      have := hm v hv
      omega
  obtain ⟨N, hN⟩ : ∃ N, N = vs.length := ⟨_, rfl⟩
  obtain ⟨L, hL⟩ : ∃ L, L = VecMath.longest (lists vs) := ⟨_, rfl⟩
  have HI := Lib.hid h
  have HN := Lib.hid hN
  have HL := Lib.hid hL
  rw [← hN] at hl HLg ⊢
  rw [← hL] at hLb HLg
  have HO := Lib.hid (NewVec.start (B := w.heap.size) w (Nat.le_refl _))
  have HB : Hid (Below w.heap.size w (w.alloc (.cells #[] 3))) := Lib.hid ((Below.refl _ _).alloc (Nat.le_refl _) _)
  clear h hN hL hm
  go_enter Try.func21, Try.ntmps21
  go_wp2_with fail
  go_loopg [3, 4] L (fun gh s3 s4 wx => ∃ K : Nat, K + gh = L + 1 ∧ 1 ≤ K ∧ s4 = .int .i64 (K : Int) ∧ NewVec w.heap.size wx s3 (VecMath.made (K - 1) (VecMath.few (lists vs))) ∧ Below w.heap.size w wx)
  case atStart => exact ⟨1, by omega, by omega, by go_num, HO.out, HB.out⟩
  case round =>
    obtain ⟨K, hK, hK1, rfl, ho, hb⟩ := hrel
    rename World => W0
    obtain ⟨D, hD⟩ : ∃ D, D = VecMath.made (K - 1) (VecMath.few (lists vs)) := ⟨_, rfl⟩
    rw [← hD] at ho
    have HOr := Lib.hid ho
    have HBr := Lib.hid hb
    have HDq := Lib.hid hD
    have HDl := Lib.hid (show D.length = K - 1 by rw [hD]; exact VecMath.made_len _ _)
    have hdb : D.length ≤ 20000 := by rw [HDl.out]; omega
    obtain ⟨p4, c4, rfl⟩ := OwnsM.shape ho
    clear ho hb HO HB hD
    by_cases hKL : K ≤ L
    · have t1 : decide ((K : Int) ≤ (L : Int)) = true := decide_eq_true (by omega)
      have t1' : decide (K ≤ L) = true := decide_eq_true hKL
      have hN1 : 1 ≤ N := by
        rw [HN.out]
        cases hvs : vs with
        | nil => have := HL.out; rw [hvs] at this; have : L = 0 := this; omega
        | cons v r => simp
      have HAq := Lib.hid (show ∀ v : List Int, VecMath.at_ v (K : Int) = VecMath.cnt v (K - 1) from fun v => by
        obtain ⟨q, rfl⟩ : ∃ q, K = q + 1 := ⟨K - 1, by omega⟩
        rw [VecMath.at_nat, Nat.add_sub_cancel])
      obtain ⟨v0, hv0⟩ : ∃ v, vs[0]? = some v := ⟨_, List.getElem?_eq_getElem (by rw [← HN.out]; omega)⟩
      obtain ⟨b, off, rfl, hc0, hz0⟩ := (HI.out.grown HBr.out) 0 v0 hv0
      rw [Nat.add_zero] at hc0
      have HOne := Lib.hid (show VecMath.few ((lists vs).take 1) (K - 1) = VecMath.at_ v0.l (K : Int) by rw [HAq.out]; exact VecMath.few_one (lists_at hv0) _)
      have HA0' := Lib.hid (HAt.out v0 (List.mem_of_getElem? hv0) (K : Int) W0 hz0)
      clear hv0 hz0
      go_wp2_with (first
        | (go_at_call 28; refine (HLg.out _ HBr.out).mono ?_; rintro e w2 ⟨rfl, hw2⟩; rw [hw2]; clear hw2)
        | (go_at_call 12; refine (HA0'.out).mono ?_; rintro e w3 ⟨rfl, hw3⟩; rw [hw3]; clear hw3))
      go_loopg [5, 6] (N - 1) (fun gh s5 s6 wx => ∃ i : Nat, i + gh = N ∧ 1 ≤ i ∧ s6 = .int .i64 (i : Int) ∧ s5 = .int .i64 (VecMath.few ((lists vs).take i) (K - 1)) ∧ wx = W0)
      case atStart => exact ⟨1, by omega, by omega, by go_num, by rw [HOne.out], rfl⟩
      case round =>
        obtain ⟨i, hi, hi1n, rfl, rfl, hwx⟩ := hrel
        subst hwx
        obtain ⟨m, hm⟩ : ∃ m, m = VecMath.few ((lists vs).take i) (K - 1) := ⟨_, rfl⟩
        rw [← hm]
        have HMm := Lib.hid hm
        clear hm
        by_cases hiN : i < N
        · have q1 : decide ((i : Int) < (N : Int)) = true := decide_eq_true (by omega)
          have q1' : decide (i < N) = true := decide_eq_true hiN
          obtain ⟨v, hv⟩ : ∃ v, vs[i]? = some v := ⟨_, List.getElem?_eq_getElem (by rw [← HN.out]; exact hiN)⟩
          obtain ⟨b2, off2, hp2, hcv, hzv⟩ := (HI.out.grown HBr.out) i v hv
          obtain ⟨rfl, rfl⟩ : b2 = b ∧ off2 = off := by simpa using hp2.symm
          obtain ⟨x, hx⟩ : ∃ x, x = VecMath.at_ v.l (K : Int) := ⟨_, rfl⟩
          have HA := HAt.out v (List.mem_of_getElem? hv) (K : Int) wr hzv
          rw [← hx] at HA
          have HA := Lib.hid HA
          have HS := Lib.hid (show VecMath.few ((lists vs).take (i + 1)) (K - 1) = min m x by rw [VecMath.few_take hi1n (lists_at hv), ← HMm.out, hx, HAq.out])
          clear hv hp2 hzv hx
          by_cases hlt : x < m
          · have q2 : decide (x < m) = true := decide_eq_true hlt
            go_wp2_with (go_at_call 12; refine HA.out.mono ?_; rintro e w3 ⟨rfl, hw3⟩; rw [hw3]; clear hw3)
            go_roundg (N - (i + 1))
            case measure => omega
            case rel => exact ⟨i + 1, by omega, by omega, by go_num, by rw [HS.out]; congr 1; omega, rfl⟩
          · have q2 : decide (x < m) = false := decide_eq_false hlt
            go_wp2_with (go_at_call 12; refine HA.out.mono ?_; rintro e w3 ⟨rfl, hw3⟩; rw [hw3]; clear hw3)
            go_roundg (N - (i + 1))
            case measure => omega
            case rel => exact ⟨i + 1, by omega, by omega, by go_num, by rw [HS.out]; congr 1; omega, rfl⟩
        · have q1 : decide ((i : Int) < (N : Int)) = false := decide_eq_false (by omega)
          have q1' : decide (i < N) = false := decide_eq_false hiN
          have HE := Lib.hid (show VecMath.made K (VecMath.few (lists vs)) = D ++ [m] from by
            obtain ⟨q, rfl⟩ : ∃ q, K = q + 1 := ⟨K - 1, by omega⟩
            rw [VecMath.made_succ, HDq.out, HMm.out, List.take_of_length_le (by rw [lists_len, ← HN.out]; omega)]
            rfl)
          have HO2 := Lib.hid (HOr.out.alloc (.cells #[.int .i64 m] 3))
          have HB2 := Lib.hid (HBr.out.alloc HBr.out.size (.cells #[.int .i64 m] 3))
          go_wp2_with (at_builtin; refine wpList_append_m rfl _ _ 22 rfl w.heap.size 3 ii (.int .i64 0) 8 Try.underlying22 hii hi0 hi1 hi2 rfl _ _ _ rfl HO2.out ⟨_, 0, none⟩ 1 1 [.int .i64 m] rfl rfl (one_put _ _ _ _ (by simp)) (fun u hu => by simp at hu; subst hu; rfl) (by unfold maxLen; omega) (by omega) HB2.out.size ?_; intro v2 w4 hown2 hgrow2)
          go_roundg (L - K)
          case measure => omega
          case rel => exact ⟨K + 1, by omega, by omega, by go_num, by rw [Nat.add_sub_cancel, HE.out]; exact NewVec.more hown2, HB2.out.grown hgrow2 HB2.out.size (fun q hq => (OwnsM.lt HO2.out q hq).1)⟩
    · have t1 : decide ((K : Int) ≤ (L : Int)) = false := decide_eq_false (by omega)
      have t1' : decide (K ≤ L) = false := decide_eq_false hKL
      obtain ⟨p5, c5, hv, hints, _⟩ := NewVec.slice HOr.out (by rw [HDq.out]; exact few_fits HF.out _)
      have HTr := Lib.hid (refTrim p5 c5 _ W0 hints (by omega))
      have HE := Lib.hid (show VecMath.least (lists vs) = VecMath.trim D by
        unfold VecMath.least
        rw [← HL.out, HDq.out]
        congr 2
        omega)
      obtain ⟨hp5, hc5⟩ : p4 = p5 ∧ c4 = c5 := by simpa using hv
      subst hp5 hc5
      clear hv hints
      go_wp2_with (first
        | (go_at_call 28; refine (HLg.out _ HBr.out).mono ?_; rintro e w2 ⟨rfl, hw2⟩; rw [hw2]; clear hw2)
        | (go_at_call 15; refine HTr.out.mono ?_; rintro e w2 ⟨⟨v, rfl, hv⟩, hb⟩))
      go_ret
      exact ⟨⟨_, rfl, by rw [HE.out]; exact hv.weaken HBr.out.size⟩, HBr.out.trans (hb.mono HBr.out.size)⟩
end Go.Proofs.Ytkdjfeaaojecdaa
