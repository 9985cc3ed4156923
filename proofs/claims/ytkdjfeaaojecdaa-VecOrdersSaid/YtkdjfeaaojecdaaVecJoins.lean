/-
  The contract of chapter 6's law VecJoins: of any vectors it answers true; old memory is as it was. The conditions: the contracts of Join, Least, Rel; the vectors' cells.
-/
import Derived.Test.YtkdjfeaaojecdaaVecCounts
import Derived.Test.YtkdjfeaaojecdaaVecVectors
namespace Go.Proofs.Ytkdjfeaaojecdaa
open Go.RowKit

theorem great_false {vs : List Vc} (h : greatB vs = false) : vs.length ≤ 20 ∧ ∀ v ∈ vs, v.l.length ≤ 100 := by
  unfold greatB at h
  simp only [Bool.or_eq_false_iff, decide_eq_false_iff_not] at h
  refine ⟨by omega, fun v hv => ?_⟩
  have := h.2
  rw [← Bool.not_eq_true] at this
  by_cases h1 : 100 < v.l.length
  · exact absurd (List.any_eq_true.2 ⟨v, hv, decide_eq_true h1⟩) this
  · omega
theorem longest_lists {vs : List Vc} {k : Nat} (h : ∀ v ∈ vs, v.l.length ≤ k) : VecMath.longest (lists vs) ≤ k := by
  by_cases h0 : VecMath.longest (lists vs) = 0
  · omega
  · obtain ⟨u, hu, he⟩ := VecMath.longest_is (lists vs) h0
    obtain ⟨v, hv, rfl⟩ := List.mem_map.1 hu
    have := h v hv
    omega
theorem join_fits {vs : List Vc} (hf : ∀ v ∈ vs, Fits v.l) : Fits (VecMath.join (lists vs)) := by unfold VecMath.join; exact (most_fits hf _).trim
theorem least_fits {vs : List Vc} (hf : ∀ v ∈ vs, Fits v.l) : Fits (VecMath.least (lists vs)) := by unfold VecMath.least; exact (few_fits hf _).trim
theorem join_len {vs : List Vc} {k : Nat} (h : ∀ v ∈ vs, v.l.length ≤ k) : (VecMath.join (lists vs)).length ≤ k := by
  unfold VecMath.join
  refine Nat.le_trans (VecMath.trim_len _) ?_
  rw [VecMath.made_len]
  exact longest_lists h
theorem least_len {vs : List Vc} {k : Nat} (h : ∀ v ∈ vs, v.l.length ≤ k) : (VecMath.least (lists vs)).length ≤ k := by
  unfold VecMath.least
  refine Nat.le_trans (VecMath.trim_len _) ?_
  rw [VecMath.made_len]
  exact longest_lists h
theorem VecsIn.fits {w : World} {pp : Option Addr} {vs : List Vc} (h : VecsIn w pp vs) : ∀ v ∈ vs, Fits v.l := fun v hv => by
  obtain ⟨i, hi⟩ := List.getElem?_of_mem hv
  obtain ⟨_, _, _, _, hz⟩ := h i v hi
  exact hz.fits
theorem same_below (pa pb : Option Addr) (ca cb : Nat) (a : List Int) (w1 : World) (ha : Ints w1 pa a) (hb : Ints w1 pb a) (hl : a.length ≤ 10000) :
    Calls Try.prog 13 #[.slice pa a.length ca, .slice pb a.length cb] w1 fun e w' => e = .returned (.bool true) ∧ Below w1.heap.size w1 w' :=
  (sameVec_ok pa pb ca cb a a w1 ha hb (by omega) (by omega)).mono (by
    rintro e w' ⟨rfl, k, rfl⟩
    exact ⟨by simp, ⟨rfl, rfl, rfl, Nat.le_refl _, fun _ _ => rfl⟩⟩)
set_option maxRecDepth 100000 in
set_option maxHeartbeats 4000000 in
theorem joins_true (pp : Option Addr) (c : Nat) (vs : List Vc) (w : World) (h : VecsIn w pp vs) (hs : ∀ v ∈ vs, v.l.length ≤ v.c) (hm : vs.length ≤ 9223372036854775807) (hm2 : ∀ v ∈ vs, v.l.length ≤ 9223372036854775807) (hJ : JoinOk) (hL : LeastOk) (hR : RelOk) :
    Calls Try.prog 4 #[.slice pp vs.length c] w fun e w' => e = .returned (.bool true) ∧ Below w.heap.size w w' := by
  have HAw := Lib.hid (fun w1 => awake_true w1 hJ hR)
  have HGr := Lib.hid (fun w1 (hb : Below w.heap.size w w1) => great_ok pp c vs w1 (h.grown hb) hm hm2)
  have HI := Lib.hid h
  cases hg : greatB vs with
  | true =>
    rw [hg] at HGr
    obtain ⟨N, hN⟩ : ∃ N, N = vs.length := ⟨_, rfl⟩
    rw [← hN] at HGr
    rw [← hN]
    clear h hs hm hm2 hJ hL hR hN hg
    go_enter Try.func4, Try.ntmps4
    go_wp2_with fail
    refine (HAw.out _).mono ?_
    rintro e w2 ⟨rfl, hb2⟩
    go_wp2_with fail
    refine (HGr.out _ hb2).mono ?_
    rintro e w3 ⟨rfl, hw3⟩
    rw [hw3]
    go_wp2_with fail
    go_ret
    exact ⟨rfl, hb2⟩
  | false =>
    rw [hg] at HGr
    obtain ⟨g1, g2⟩ := great_false hg
    have HVs := Lib.hid (fun w1 (hb : Below w.heap.size w w1) => vectors_ok pp c vs w1 (h.grown hb) (by omega))
    have HJp := Lib.hid (fun pv cv w1 (hv : VecsIn w1 pv vs) => hJ pv cv vs w1 hv (by omega) (fun v hv => by have := g2 v hv; omega) hs)
    have HLp := Lib.hid (fun pv cv w1 (hv : VecsIn w1 pv vs) => hL pv cv vs w1 hv (by omega) (fun v hv => by have := g2 v hv; omega) hs)
    have HJr := Lib.hid (fun w1 (hb : Below w.heap.size w w1) => refJoin pp c vs w1 (h.grown hb) (by omega) (fun v hv => by have := g2 v hv; omega))
    have HLr := Lib.hid (fun w1 (hb : Below w.heap.size w w1) => refLeast pp c vs w1 (h.grown hb) (by omega) (fun v hv => by have := g2 v hv; omega))
    have HJf := Lib.hid (join_fits h.fits)
    have HLf := Lib.hid (least_fits h.fits)
    have HJl := Lib.hid (join_len g2)
    have HLl := Lib.hid (least_len g2)
    obtain ⟨N, hN⟩ : ∃ N, N = vs.length := ⟨_, rfl⟩
    rw [← hN] at HGr HVs HJp HLp HJr HLr
    rw [← hN]
    clear h hs hm hm2 hJ hL hR hN hg g1 g2
    go_enter Try.func4, Try.ntmps4
    go_wp2_with fail
    refine (HAw.out _).mono ?_
    rintro e w2 ⟨rfl, hb2⟩
    have HB := Lib.hid hb2
    clear hb2
    go_wp2_with fail
    refine (HGr.out _ HB.out).mono ?_
    rintro e w3 ⟨rfl, hw3⟩
    rw [hw3]
    clear hw3
    go_wp2_with fail
    refine (HVs.out _ HB.out).mono ?_
    rintro e w4 ⟨⟨pv, cv, rfl, hv⟩, hb⟩
    replace HB := Lib.hid (HB.out.trans (hb.mono HB.out.size))
    have HV := Lib.hid hv
    clear hv hb
    go_wp2_with fail
    refine (HJp.out _ _ _ HV.out).mono ?_
    rintro e w5 ⟨⟨v, rfl, hv⟩, hb⟩
    obtain ⟨p1, c1, rfl, hz1, _⟩ := hv.slice HJf.out
    replace HB := Lib.hid (HB.out.trans (hb.mono HB.out.size))
    have HZ := Lib.hid hz1
    clear hv hb hz1 HV
    go_wp2_with fail
    refine (HJr.out _ HB.out).mono ?_
    rintro e w6 ⟨⟨v, rfl, hv⟩, hb⟩
    obtain ⟨p2, c2, rfl, hz2, _⟩ := hv.slice HJf.out
    replace HB := Lib.hid (HB.out.trans (hb.mono HB.out.size))
    replace HZ := Lib.hid (HZ.out.grown hb)
    have HY := Lib.hid hz2
    clear hv hb hz2
    go_wp2_with fail
    refine (same_below _ _ _ _ _ _ HZ.out HY.out (by have := HJl.out; omega)).mono ?_
    rintro e w7 ⟨rfl, hb⟩
    replace HB := Lib.hid (HB.out.trans (hb.mono HB.out.size))
    clear hb HZ HY
    go_wp2_with fail
    refine (HVs.out _ HB.out).mono ?_
    rintro e w4 ⟨⟨pv, cv, rfl, hv⟩, hb⟩
    replace HB := Lib.hid (HB.out.trans (hb.mono HB.out.size))
    have HV := Lib.hid hv
    clear hv hb
    go_wp2_with fail
    refine (HLp.out _ _ _ HV.out).mono ?_
    rintro e w5 ⟨⟨v, rfl, hv⟩, hb⟩
    obtain ⟨p1, c1, rfl, hz1, _⟩ := hv.slice HLf.out
    replace HB := Lib.hid (HB.out.trans (hb.mono HB.out.size))
    have HZ := Lib.hid hz1
    clear hv hb hz1 HV
    go_wp2_with fail
    refine (HLr.out _ HB.out).mono ?_
    rintro e w6 ⟨⟨v, rfl, hv⟩, hb⟩
    obtain ⟨p2, c2, rfl, hz2, _⟩ := hv.slice HLf.out
    replace HB := Lib.hid (HB.out.trans (hb.mono HB.out.size))
    replace HZ := Lib.hid (HZ.out.grown hb)
    have HY := Lib.hid hz2
    clear hv hb hz2
    go_wp2_with fail
    refine (same_below _ _ _ _ _ _ HZ.out HY.out (by have := HLl.out; omega)).mono ?_
    rintro e w7 ⟨rfl, hb⟩
    replace HB := Lib.hid (HB.out.trans (hb.mono HB.out.size))
    clear hb HZ HY
    go_wp2_with fail
    go_ret
    exact ⟨rfl, HB.out⟩
end Go.Proofs.Ytkdjfeaaojecdaa
