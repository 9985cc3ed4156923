/-
  The contract of chapter 6's law VecOrders: of any three vectors it answers true; old memory is as it was. The conditions: the contracts of Join, Covers, Rel; the vectors' cells.
-/
import Derived.Test.YtkdjfeaaojecdaaVecJoins
namespace Go.Proofs.Ytkdjfeaaojecdaa
open Go.RowKit

set_option maxRecDepth 100000 in
set_option maxHeartbeats 4000000 in
theorem orders_true (x y z : Vc) (w : World) (hx : Ints w x.p x.l) (hy : Ints w y.p y.l) (hz : Ints w z.p z.l) (mx : x.l.length ≤ 9223372036854775807) (my : y.l.length ≤ 9223372036854775807) (mz : z.l.length ≤ 9223372036854775807) (hJ : JoinOk) (hC : CoversOk) (hR : RelOk) :
    Calls Try.prog 5 #[x.cell, y.cell, z.cell] w fun e w' => e = .returned (.bool true) ∧ Below w.heap.size w w' := by
  have HAw := Lib.hid (fun w1 => awake_true w1 hJ hR)
  have HGr := Lib.hid (fun pp cc w1 (hv : VecsIn w1 pp [x, y, z]) => great_ok pp cc [x, y, z] w1 hv (by simp) (fun v hv => by
    simp only [List.mem_cons, List.not_mem_nil, or_false] at hv
    rcases hv with rfl | rfl | rfl <;> assumption))
  have HIv := Lib.hid (fun w1 (hb : Below w.heap.size w w1) (v : Vc) (hv : v ∈ [x, y, z]) => (show Ints w1 v.p v.l by
    simp only [List.mem_cons, List.not_mem_nil, or_false] at hv
    rcases hv with rfl | rfl | rfl
    · exact hx.grown hb
    · exact hy.grown hb
    · exact hz.grown hb))
  unfold Vc.cell
  cases hg : greatB [x, y, z] with
  | true =>
    simp only [hg] at HGr
    clear hx hy hz mx my mz hJ hC hR hg
    go_enter Try.func5, Try.ntmps5
    go_wp2_with fail
    refine (HAw.out _).mono ?_
    rintro e w2 ⟨rfl, hb2⟩
    have HB2 := Lib.hid hb2
    clear hb2
    go_wp2_with fail
    refine (HGr.out _ 3 _ ?hv).mono ?_
    case hv => exact vecs_row (T := 22) (b := w2.heap.size) (by rw [heap_alloc_new]; rfl) (HIv.out _ (HB2.out.alloc HB2.out.size _))
    rintro e w3 ⟨rfl, hw3⟩
    rw [hw3]
    go_wp2_with fail
    go_ret
    exact ⟨rfl, HB2.out.alloc HB2.out.size _⟩
  | false =>
    simp only [hg] at HGr
    obtain ⟨_, g2⟩ := great_false hg
    have lx : x.l.length ≤ 100 := g2 x (by simp)
    have ly : y.l.length ≤ 100 := g2 y (by simp)
    have lz : z.l.length ≤ 100 := g2 z (by simp)
    have HRab := Lib.hid (fun w1 (hb : Below w.heap.size w w1) => hR x.p y.p x.c y.c x.l y.l w1 (hx.grown hb) (hy.grown hb) (by omega) (by omega))
    have HRba := Lib.hid (fun w1 (hb : Below w.heap.size w w1) => hR y.p x.p y.c x.c y.l x.l w1 (hy.grown hb) (hx.grown hb) (by omega) (by omega))
    have HRr := Lib.hid (fun w1 (hb : Below w.heap.size w w1) => refRel x.p y.p x.c y.c x.l y.l w1 (hx.grown hb) (hy.grown hb) (by omega) (by omega))
    have HCab := Lib.hid (fun w1 (hb : Below w.heap.size w w1) => hC x.p y.p x.c y.c x.l y.l w1 (hx.grown hb) (hy.grown hb) (by omega) (by omega))
    have HCaa := Lib.hid (fun w1 (hb : Below w.heap.size w w1) => hC x.p x.p x.c x.c x.l x.l w1 (hx.grown hb) (hx.grown hb) (by omega) (by omega))
    have HCbc := Lib.hid (fun w1 (hb : Below w.heap.size w w1) => hC y.p z.p y.c z.c y.l z.l w1 (hy.grown hb) (hz.grown hb) (by omega) (by omega))
    have HCac := Lib.hid (fun w1 (hb : Below w.heap.size w w1) => hC x.p z.p x.c z.c x.l z.l w1 (hx.grown hb) (hz.grown hb) (by omega) (by omega))
    have HCr := Lib.hid (fun w1 (hb : Below w.heap.size w w1) => refCovers x.p y.p x.c y.c x.l y.l w1 (hx.grown hb) (hy.grown hb) (by omega) (by omega))
    have HTa := Lib.hid (fun w1 (hb : Below w.heap.size w w1) => refTrim x.p x.c x.l w1 (hx.grown hb) (by omega))
    have HTb := Lib.hid (fun w1 (hb : Below w.heap.size w w1) => refTrim y.p y.c y.l w1 (hy.grown hb) (by omega))
    have HTaf := Lib.hid hx.fits.trim
    have HTbf := Lib.hid hy.fits.trim
    obtain ⟨q, hq⟩ : ∃ q, q = VecMath.rel x.l y.l := ⟨_, rfl⟩
    obtain ⟨q', hq'⟩ : ∃ q', q' = VecMath.rel y.l x.l := ⟨_, rfl⟩
    have HSm := Lib.hid (fun pa pb ca cb w1 (ha : Ints w1 pa (VecMath.trim x.l)) (hb : Ints w1 pb (VecMath.trim y.l)) => (sameVec_ok pa pb ca cb (VecMath.trim x.l) (VecMath.trim y.l) w1 ha hb (by have := VecMath.trim_len x.l; omega) (by have := VecMath.trim_len y.l; omega)).mono (R' := fun e w' => e = .returned (.bool (q == 0)) ∧ Below w1.heap.size w1 w') (by
      rintro e w' ⟨rfl, k, rfl⟩
      refine ⟨?_, ⟨rfl, rfl, rfl, Nat.le_refl _, fun _ _ => rfl⟩⟩
      rw [show (VecMath.trim x.l == VecMath.trim y.l) = (q == 0) from by rw [Bool.eq_iff_iff, beq_iff_eq, beq_iff_eq, hq]; exact (VecMath.rel_zero x.l y.l).symm]))
    have HQ2 := Lib.hid (show (q' == 2) = (q == 2) from by rw [Bool.eq_iff_iff, beq_iff_eq, beq_iff_eq, hq, hq']; exact VecMath.rel_two y.l x.l)
    have HCt := Lib.hid (show VecMath.covers x.l y.l = true → VecMath.covers y.l z.l = true → VecMath.covers x.l z.l = true from VecMath.covers_trans)
    simp only [← hq] at HRab HRr
    simp only [← hq'] at HRba
    simp only [VecMath.covers_refl] at HCaa
    obtain ⟨s, hs⟩ : ∃ s, s = VecMath.covers x.l y.l := ⟨_, rfl⟩
    obtain ⟨t, ht⟩ : ∃ t, t = VecMath.covers y.l z.l := ⟨_, rfl⟩
    simp only [← hs] at HCab HCr HCt
    simp only [← ht] at HCbc HCt
    obtain ⟨xp, xl, xc⟩ := x
    obtain ⟨yp, yl, yc⟩ := y
    obtain ⟨zp, zl, zc⟩ := z
    simp only at *
    clear hx hy hz mx my mz hJ hC hR hg g2 hq hq' hs ht
    go_enter Try.func5, Try.ntmps5
    go_wp2_with fail
    refine (HAw.out _).mono ?_
    rintro e w2 ⟨rfl, hb2⟩
    have HB2 := Lib.hid hb2
    clear hb2
    go_wp2_with fail
    refine (HGr.out _ 3 _ ?hv).mono ?_
    case hv => exact vecs_row (T := 22) (b := w2.heap.size) (by rw [heap_alloc_new]; rfl) (HIv.out _ (HB2.out.alloc HB2.out.size _))
    rintro e w3 ⟨rfl, hw3⟩
    rw [hw3]
    have HB := Lib.hid (HB2.out.alloc HB2.out.size (.cells #[.slice xp xl.length xc, .slice yp yl.length yc, .slice zp zl.length zc] 22))
    clear HB2 hw3
    go_wp2_with fail
    refine (HRab.out _ HB.out).mono ?_
    rintro e w9 ⟨rfl, hb⟩
    replace HB := Lib.hid (HB.out.trans (hb.mono HB.out.size))
    clear hb
    go_wp2_with fail
    refine (HRr.out _ HB.out).mono ?_
    rintro e w9 ⟨rfl, hw9⟩
    rw [hw9]
    clear hw9
    go_wp2_with fail
    refine (HCab.out _ HB.out).mono ?_
    rintro e w9 ⟨rfl, hb⟩
    replace HB := Lib.hid (HB.out.trans (hb.mono HB.out.size))
    clear hb
    go_wp2_with fail
    refine (HCr.out _ HB.out).mono ?_
    rintro e w9 ⟨rfl, hw9⟩
    rw [hw9]
    clear hw9
    go_wp2_with fail
    refine (HCaa.out _ HB.out).mono ?_
    rintro e w9 ⟨rfl, hb⟩
    replace HB := Lib.hid (HB.out.trans (hb.mono HB.out.size))
    clear hb
    cases s with
    | false =>
      go_wp2_with fail
      refine (HCab.out _ HB.out).mono ?_
      rintro e w9 ⟨rfl, hb⟩
      replace HB := Lib.hid (HB.out.trans (hb.mono HB.out.size))
      clear hb
      go_wp2_with fail
      refine (HRab.out _ HB.out).mono ?_
      rintro e w9 ⟨rfl, hb⟩
      replace HB := Lib.hid (HB.out.trans (hb.mono HB.out.size))
      clear hb
      go_wp2_with fail
      refine (HTa.out _ HB.out).mono ?_
      rintro e w9 ⟨⟨v, rfl, hv⟩, hb⟩
      obtain ⟨p1, c1, rfl, hz1, _⟩ := hv.slice HTaf.out
      replace HB := Lib.hid (HB.out.trans (hb.mono HB.out.size))
      have HZ := Lib.hid hz1
      clear hv hb hz1
      go_wp2_with fail
      refine (HTb.out _ HB.out).mono ?_
      rintro e w9 ⟨⟨v, rfl, hv⟩, hb⟩
      obtain ⟨p2, c2, rfl, hz2, _⟩ := hv.slice HTbf.out
      replace HB := Lib.hid (HB.out.trans (hb.mono HB.out.size))
      replace HZ := Lib.hid (HZ.out.grown hb)
      have HY := Lib.hid hz2
      clear hv hb hz2
      go_wp2_with fail
      refine (HSm.out _ _ _ _ _ HZ.out HY.out).mono ?_
      rintro e w9 ⟨rfl, hb⟩
      replace HB := Lib.hid (HB.out.trans (hb.mono HB.out.size))
      clear hb HZ HY
      go_wp2_with fail
      refine (HRab.out _ HB.out).mono ?_
      rintro e w9 ⟨rfl, hb⟩
      replace HB := Lib.hid (HB.out.trans (hb.mono HB.out.size))
      clear hb
      go_wp2_with fail
      refine (HRba.out _ HB.out).mono ?_
      rintro e w9 ⟨rfl, hb⟩
      replace HB := Lib.hid (HB.out.trans (hb.mono HB.out.size))
      clear hb
      have hq2 := HQ2.out
      go_wp2_with fail
      go_ret
      exact ⟨by first | rfl | simp [hq2], HB.out⟩
    | true =>
      cases t with
      | false =>
        go_wp2_with fail
        refine (HCab.out _ HB.out).mono ?_
        rintro e w9 ⟨rfl, hb⟩
        replace HB := Lib.hid (HB.out.trans (hb.mono HB.out.size))
        clear hb
        go_wp2_with fail
        refine (HCbc.out _ HB.out).mono ?_
        rintro e w9 ⟨rfl, hb⟩
        replace HB := Lib.hid (HB.out.trans (hb.mono HB.out.size))
        clear hb
        go_wp2_with fail
        refine (HRab.out _ HB.out).mono ?_
        rintro e w9 ⟨rfl, hb⟩
        replace HB := Lib.hid (HB.out.trans (hb.mono HB.out.size))
        clear hb
        go_wp2_with fail
        refine (HTa.out _ HB.out).mono ?_
        rintro e w9 ⟨⟨v, rfl, hv⟩, hb⟩
        obtain ⟨p1, c1, rfl, hz1, _⟩ := hv.slice HTaf.out
        replace HB := Lib.hid (HB.out.trans (hb.mono HB.out.size))
        have HZ := Lib.hid hz1
        clear hv hb hz1
        go_wp2_with fail
        refine (HTb.out _ HB.out).mono ?_
        rintro e w9 ⟨⟨v, rfl, hv⟩, hb⟩
        obtain ⟨p2, c2, rfl, hz2, _⟩ := hv.slice HTbf.out
        replace HB := Lib.hid (HB.out.trans (hb.mono HB.out.size))
        replace HZ := Lib.hid (HZ.out.grown hb)
        have HY := Lib.hid hz2
        clear hv hb hz2
        go_wp2_with fail
        refine (HSm.out _ _ _ _ _ HZ.out HY.out).mono ?_
        rintro e w9 ⟨rfl, hb⟩
        replace HB := Lib.hid (HB.out.trans (hb.mono HB.out.size))
        clear hb HZ HY
        go_wp2_with fail
        refine (HRab.out _ HB.out).mono ?_
        rintro e w9 ⟨rfl, hb⟩
        replace HB := Lib.hid (HB.out.trans (hb.mono HB.out.size))
        clear hb
        go_wp2_with fail
        refine (HRba.out _ HB.out).mono ?_
        rintro e w9 ⟨rfl, hb⟩
        replace HB := Lib.hid (HB.out.trans (hb.mono HB.out.size))
        clear hb
        have hq2 := HQ2.out
        go_wp2_with fail
        go_ret
        exact ⟨by first | rfl | simp [hq2], HB.out⟩
      | true =>
        have hac := HCt.out rfl rfl
        simp only [hac] at HCac
        clear hac
        go_wp2_with fail
        refine (HCab.out _ HB.out).mono ?_
        rintro e w9 ⟨rfl, hb⟩
        replace HB := Lib.hid (HB.out.trans (hb.mono HB.out.size))
        clear hb
        go_wp2_with fail
        refine (HCbc.out _ HB.out).mono ?_
        rintro e w9 ⟨rfl, hb⟩
        replace HB := Lib.hid (HB.out.trans (hb.mono HB.out.size))
        clear hb
        go_wp2_with fail
        refine (HCac.out _ HB.out).mono ?_
        rintro e w9 ⟨rfl, hb⟩
        replace HB := Lib.hid (HB.out.trans (hb.mono HB.out.size))
        clear hb
        go_wp2_with fail
        refine (HRab.out _ HB.out).mono ?_
        rintro e w9 ⟨rfl, hb⟩
        replace HB := Lib.hid (HB.out.trans (hb.mono HB.out.size))
        clear hb
        go_wp2_with fail
        refine (HTa.out _ HB.out).mono ?_
        rintro e w9 ⟨⟨v, rfl, hv⟩, hb⟩
        obtain ⟨p1, c1, rfl, hz1, _⟩ := hv.slice HTaf.out
        replace HB := Lib.hid (HB.out.trans (hb.mono HB.out.size))
        have HZ := Lib.hid hz1
        clear hv hb hz1
        go_wp2_with fail
        refine (HTb.out _ HB.out).mono ?_
        rintro e w9 ⟨⟨v, rfl, hv⟩, hb⟩
        obtain ⟨p2, c2, rfl, hz2, _⟩ := hv.slice HTbf.out
        replace HB := Lib.hid (HB.out.trans (hb.mono HB.out.size))
        replace HZ := Lib.hid (HZ.out.grown hb)
        have HY := Lib.hid hz2
        clear hv hb hz2
        go_wp2_with fail
        refine (HSm.out _ _ _ _ _ HZ.out HY.out).mono ?_
        rintro e w9 ⟨rfl, hb⟩
        replace HB := Lib.hid (HB.out.trans (hb.mono HB.out.size))
        clear hb HZ HY
        go_wp2_with fail
        refine (HRab.out _ HB.out).mono ?_
        rintro e w9 ⟨rfl, hb⟩
        replace HB := Lib.hid (HB.out.trans (hb.mono HB.out.size))
        clear hb
        go_wp2_with fail
        refine (HRba.out _ HB.out).mono ?_
        rintro e w9 ⟨rfl, hb⟩
        replace HB := Lib.hid (HB.out.trans (hb.mono HB.out.size))
        clear hb
        have hq2 := HQ2.out
        go_wp2_with fail
        go_ret
        exact ⟨by first | rfl | simp [hq2], HB.out⟩
end Go.Proofs.Ytkdjfeaaojecdaa
