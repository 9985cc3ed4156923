/-
  The contract of chapter 6's law VecCounts: of any vector, region and count it answers true; old memory is as it was. The conditions: the contracts of At, Trim, With, Join, Rel; the vector's cells; the numbers are Go's.
-/
import Derived.Test.YtkdjfeaaojecdaaVecAwake
import Derived.Test.YtkdjfeaaojecdaaSameVec
namespace Go.Proofs.Ytkdjfeaaojecdaa
open Go.RowKit

theorem with_fits {l : List Int} {r n : Int} (hf : Fits l) (hn : -9223372036854775808 ≤ n ∧ n ≤ 9223372036854775807) : Fits (VecMath.with_ l r n) := by
  unfold VecMath.with_
  split
  · unfold VecMath.withN
    exact Fits.trim (other_fits hf hn _ _)
  · exact hf.trim
theorem with_len {l : List Int} {r n : Int} (hl : l.length ≤ 100) : (VecMath.with_ l r n).length ≤ 116 := by
  unfold VecMath.with_
  split
  · rename_i h
    unfold VecMath.withN
    refine Nat.le_trans (VecMath.trim_len _) ?_
    rw [VecMath.made_len]
    omega
  · exact Nat.le_trans (VecMath.trim_len _) (by omega)
theorem great_one (p : Option Addr) (c : Nat) (l : List Int) : greatB [⟨p, l, c⟩] = decide (100 < l.length) := by
  unfold greatB
  simp
set_option maxRecDepth 100000 in
set_option maxHeartbeats 4000000 in
theorem counts_true (p : Option Addr) (c : Nat) (l : List Int) (r n : Int) (w : World) (h : Ints w p l) (hl : l.length ≤ c) (hc : c ≤ 9223372036854775807) (hr : -9223372036854775808 ≤ r ∧ r ≤ 9223372036854775807) (hn : -9223372036854775808 ≤ n ∧ n ≤ 9223372036854775807)
    (hA : AtOk) (hT : TrimOk) (hW : WithOk) (hJ : JoinOk) (hR : RelOk) :
    Calls Try.prog 3 #[.slice p l.length c, .int .i64 r, .int .i64 n] w fun e w' => e = .returned (.bool true) ∧ Below w.heap.size w w' := by
  have HAw := Lib.hid (fun w1 => awake_true w1 hJ hR)
  have HGr := Lib.hid (fun pp cc w1 (hv : VecsIn w1 pp [⟨p, l, c⟩]) => great_ok pp cc [⟨p, l, c⟩] w1 hv (by simp) (fun v hv => by obtain rfl := List.mem_singleton.1 hv; show l.length ≤ _; omega))
  have HI := Lib.hid h
  have HF := Lib.hid h.fits
  have HWf := Lib.hid (with_fits (r := r) (n := n) h.fits hn)
  by_cases h100 : 100 < l.length
  · have HG1 := Lib.hid (show greatB [⟨p, l, c⟩] = true by rw [great_one]; exact decide_eq_true h100)
    obtain ⟨N, hN⟩ : ∃ N, N = l.length := ⟨_, rfl⟩
    rw [← hN]
    have HN := Lib.hid hN
    clear h hl hc hN h100 hA hT hW hJ hR
    go_enter Try.func3, Try.ntmps3
    go_wp2_with fail
    refine (HAw.out _).mono ?_
    rintro e w2 ⟨rfl, hb2⟩
    have HB2 := Lib.hid hb2
    clear hb2
    go_wp2_with fail
    refine (HGr.out _ 1 _ ?hv).mono ?_
    case hv =>
      refine vecs_row (T := 22) (b := w2.heap.size) (by rw [heap_alloc_new, HN.out]; rfl) ?_
      intro v hv
      obtain rfl := List.mem_singleton.1 hv
      exact HI.out.grown (HB2.out.alloc HB2.out.size _)
    rintro e w3 ⟨rfl, hw3⟩
    rw [HG1.out, hw3]
    go_wp2_with fail
    go_ret
    exact ⟨rfl, HB2.out.alloc HB2.out.size _⟩
  · have HG1 := Lib.hid (show greatB [⟨p, l, c⟩] = false by rw [great_one]; exact decide_eq_false h100)
    have hl1 : l.length ≤ 100 := by omega
    have HwL := Lib.hid (with_len (r := r) (n := n) hl1)
    have HL1 := Lib.hid hl1
    have HLc := Lib.hid hl
    have HSv := Lib.hid (fun pa pb ca cb (a : List Int) w1 (ha : Ints w1 pa a) (hb : Ints w1 pb a) (hl : a.length ≤ 10000) => (sameVec_ok pa pb ca cb a a w1 ha hb (by omega) (by omega)).mono (R' := fun e w' => e = .returned (.bool true) ∧ Below w1.heap.size w1 w') (by
      rintro e w' ⟨rfl, k, rfl⟩
      exact ⟨by simp, ⟨rfl, rfl, rfl, Nat.le_refl _, fun _ _ => rfl⟩⟩))
    have HAp := Lib.hid (fun w1 (hi : Ints w1 p l) => hA p c l r w1 hi (by omega) hr)
    have HAr := Lib.hid (fun w1 (hi : Ints w1 p l) => refAt p c l r w1 hi (by omega))
    have HTp := Lib.hid (fun w1 (hi : Ints w1 p l) => hT p c l w1 hi (by omega) hl)
    have HTr := Lib.hid (fun w1 (hi : Ints w1 p l) => refTrim p c l w1 hi (by omega))
    have HWp := Lib.hid (fun w1 (hi : Ints w1 p l) => hW p c l r n w1 hi (by omega) hl hr hn)
    have HWr := Lib.hid (fun w1 (hi : Ints w1 p l) => refWith p c l r n w1 hi (by omega) hn)
    have HAw2 := Lib.hid (fun pw cw w1 (hi : Ints w1 pw (VecMath.with_ l r n)) => hA pw cw (VecMath.with_ l r n) r w1 hi (by have := HwL.out; omega) hr)
    have HTl := Lib.hid (Nat.le_trans (VecMath.trim_len l) hl1)
    have HTf := Lib.hid (h.fits.trim)
    obtain ⟨N, hN⟩ : ∃ N, N = l.length := ⟨_, rfl⟩
    rw [← hN] at HAp HAr HTp HTr HWp HWr
    rw [← hN]
    have HN := Lib.hid hN
    obtain ⟨x, hx⟩ : ∃ x, x = VecMath.at_ l r := ⟨_, rfl⟩
    rw [← hx] at HAp HAr
    clear h hl hc hN h100 hA hT hW hJ hR hl1 hx
    go_enter Try.func3, Try.ntmps3
    go_wp2_with fail
    refine (HAw.out _).mono ?_
    rintro e w2 ⟨rfl, hb2⟩
    have HB2 := Lib.hid hb2
    clear hb2
    go_wp2_with fail
    refine (HGr.out _ 1 _ ?hv).mono ?_
    case hv =>
      refine vecs_row (T := 22) (b := w2.heap.size) (by rw [heap_alloc_new, HN.out]; rfl) ?_
      intro v hv
      obtain rfl := List.mem_singleton.1 hv
      exact HI.out.grown (HB2.out.alloc HB2.out.size _)
    rintro e w3 ⟨rfl, hw3⟩
    rw [HG1.out, hw3]
    have HB := Lib.hid (HB2.out.alloc HB2.out.size (.cells #[.slice p N c] 22))
    replace HI := Lib.hid (HI.out.grown HB.out)
    clear HB2 hw3
    go_wp2_with fail
    refine (HWp.out _ HI.out).mono ?_
    rintro e w4 ⟨⟨v, rfl, hv⟩, hb⟩
    obtain ⟨pw, cw, rfl, hwi, _⟩ := hv.slice HWf.out
    replace HI := Lib.hid (HI.out.grown hb)
    replace HB := Lib.hid (HB.out.trans (hb.mono HB.out.size))
    have HX := Lib.hid hwi
    clear hb hv hwi
    go_wp2_with fail
    refine (HAp.out _ HI.out).mono ?_
    rintro e w5 ⟨rfl, hb⟩
    replace HI := Lib.hid (HI.out.grown hb)
    replace HX := Lib.hid (HX.out.grown hb)
    replace HB := Lib.hid (HB.out.trans (hb.mono HB.out.size))
    clear hb
    go_wp2_with fail
    refine (HAr.out _ HI.out).mono ?_
    rintro e w6 ⟨rfl, hw6⟩
    rw [hw6]
    clear hw6
    go_wp2_with fail
    refine (HTp.out _ HI.out).mono ?_
    rintro e w7 ⟨⟨v, rfl, hv⟩, hb⟩
    obtain ⟨pt, ct, rfl, hti, _⟩ := hv.slice HTf.out
    replace HI := Lib.hid (HI.out.grown hb)
    replace HX := Lib.hid (HX.out.grown hb)
    replace HB := Lib.hid (HB.out.trans (hb.mono HB.out.size))
    have HY := Lib.hid hti
    clear hb hv hti
    go_wp2_with fail
    refine (HTr.out _ HI.out).mono ?_
    rintro e w8 ⟨⟨v, rfl, hv⟩, hb⟩
    obtain ⟨pu, cu, rfl, hui, _⟩ := hv.slice HTf.out
    replace HI := Lib.hid (HI.out.grown hb)
    replace HX := Lib.hid (HX.out.grown hb)
    replace HY := Lib.hid (HY.out.grown hb)
    replace HB := Lib.hid (HB.out.trans (hb.mono HB.out.size))
    have HZ := Lib.hid hui
    clear hb hv hui
    go_wp2_with fail
    refine (HSv.out _ _ _ _ _ _ HY.out HZ.out (by have := HTl.out; omega)).mono ?_
    rintro e w9 ⟨rfl, hb⟩
    replace HI := Lib.hid (HI.out.grown hb)
    replace HX := Lib.hid (HX.out.grown hb)
    replace HB := Lib.hid (HB.out.trans (hb.mono HB.out.size))
    clear hb HY HZ
    go_wp2_with fail
    refine (HWr.out _ HI.out).mono ?_
    rintro e w10 ⟨⟨v, rfl, hv⟩, hb⟩
    obtain ⟨pq, cq, rfl, hqi, _⟩ := hv.slice HWf.out
    replace HX := Lib.hid (HX.out.grown hb)
    replace HB := Lib.hid (HB.out.trans (hb.mono HB.out.size))
    have HQ := Lib.hid hqi
    clear hb hv hqi
    go_wp2_with fail
    refine (HSv.out _ _ _ _ _ _ HX.out HQ.out (by have := HwL.out; omega)).mono ?_
    rintro e w11 ⟨rfl, hb⟩
    replace HX := Lib.hid (HX.out.grown hb)
    replace HB := Lib.hid (HB.out.trans (hb.mono HB.out.size))
    clear hb HQ
    by_cases h1 : r < 1
    · have t1 : decide (r < 1) = true := decide_eq_true h1
      go_wp2_with fail
      go_ret
      exact ⟨rfl, HB.out⟩
    · have t1 : decide (r < 1) = false := decide_eq_false h1
      by_cases h2 : 16 < r
      · have t2 : decide (16 < r) = true := decide_eq_true h2
        go_wp2_with fail
        go_ret
        exact ⟨rfl, HB.out⟩
      · have t2 : decide (16 < r) = false := decide_eq_false h2
        have HE := Lib.hid (show VecMath.at_ (VecMath.with_ l r n) r = n from VecMath.with_at ⟨by omega, by omega⟩)
        go_wp2_with fail
        refine (HAw2.out _ _ _ HX.out).mono ?_
        rintro e w12 ⟨rfl, hb⟩
        rw [HE.out]
        replace HB := Lib.hid (HB.out.trans (hb.mono HB.out.size))
        clear hb
        go_wp2_with fail
        go_ret
        exact ⟨by first | rfl | simp, HB.out⟩
end Go.Proofs.Ytkdjfeaaojecdaa
