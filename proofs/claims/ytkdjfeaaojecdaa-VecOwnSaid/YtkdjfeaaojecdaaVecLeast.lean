/-
  The contract of chapter 6's law VecLeast: of any three vectors it answers true; old memory is as it was. The conditions: the contracts of Join, Least, Covers, Rel; the vectors' cells.
-/
import Derived.Test.YtkdjfeaaojecdaaVecOrders
namespace Go.Proofs.Ytkdjfeaaojecdaa
open Go.RowKit

theorem NewVec.room {B : Nat} {w : World} {p : Option Addr} {n c : Nat} {l : List Int} (h : NewVec B w (.slice p n c) l) : l.length ≤ c := by
  rcases h.2 with ⟨h1, h2⟩ | ⟨g, cap, cur, lo, hi, h1, _, _, _, h5, _⟩
  · omega
  · have : c = cap := by simpa using congrArg (fun v => match v with | .slice _ _ c => c | _ => 0) h1
    omega
/-- What a joining of two answers. -/
def TwoIs (w w' : World) (e : Ending) (R : List Int) : Prop := ∃ p c, e = .returned (.slice p R.length c) ∧ Ints w' p R ∧ R.length ≤ c ∧ Below w.heap.size w w'
theorem two_step {w : World} {a : Obj} {R : List Int} (hR : Fits R) {e : Ending} {w' : World} (h : (∃ v, e = .returned v ∧ NewVec (w.alloc a).heap.size w' v R) ∧ Below (w.alloc a).heap.size (w.alloc a) w') : TwoIs w w' e R := by
  obtain ⟨⟨v, rfl, hv⟩, hb⟩ := h
  obtain ⟨p, c, rfl, hz, _⟩ := hv.slice hR
  exact ⟨p, c, rfl, hz, hv.room, ((Below.refl _ _).alloc (Nat.le_refl _) a).trans (hb.mono (by simp))⟩
theorem pair_in (u v : Vc) (w : World) (hu : Ints w u.p u.l) (hv : Ints w v.p v.l) : VecsIn (w.alloc (.cells #[.slice u.p u.l.length u.c, .slice v.p v.l.length v.c] 26)) (some ⟨w.heap.size, 0, none⟩) [u, v] := by
  refine vecs_row (T := 26) (by rw [heap_alloc_new]; rfl) ?_
  intro x hx
  simp only [List.mem_cons, List.not_mem_nil, or_false] at hx
  rcases hx with rfl | rfl
  · exact hu.grown ((Below.refl _ _).alloc (Nat.le_refl _) _)
  · exact hv.grown ((Below.refl _ _).alloc (Nat.le_refl _) _)
theorem pair_all {P : Vc → Prop} {u v : Vc} (hu : P u) (hv : P v) : ∀ x ∈ [u, v], P x := fun x hx => by
  simp only [List.mem_cons, List.not_mem_nil, or_false] at hx
  rcases hx with rfl | rfl <;> assumption
theorem join_two (hJ : JoinOk) (u v : Vc) (R : List Int) (hR : VecMath.join [u.l, v.l] = R) (w : World) (hu : Ints w u.p u.l) (hv : Ints w v.p v.l) (lu : u.l.length ≤ 10000) (lv : v.l.length ≤ 10000) (cu : u.l.length ≤ u.c) (cv : v.l.length ≤ v.c) :
    Calls Try.prog 17 #[.slice (some ⟨w.heap.size, 0, none⟩) 2 2] (w.alloc (.cells #[.slice u.p u.l.length u.c, .slice v.p v.l.length v.c] 26)) fun e w' => TwoIs w w' e R := by
  refine (hJ _ 2 [u, v] _ (pair_in u v w hu hv) (by simp) (pair_all (P := fun x => x.l.length ≤ 10000) lu lv) (pair_all (P := fun x => x.l.length ≤ x.c) cu cv)).mono ?_
  rintro e w' h
  rw [show VecMath.join (lists [u, v]) = R from hR] at h
  refine two_step ?_ h
  rw [← hR]
  exact join_fits (vs := [u, v]) (pair_all (P := fun x => Fits x.l) hu.fits hv.fits)
theorem least_two (hL : LeastOk) (u v : Vc) (R : List Int) (hR : VecMath.least [u.l, v.l] = R) (w : World) (hu : Ints w u.p u.l) (hv : Ints w v.p v.l) (lu : u.l.length ≤ 10000) (lv : v.l.length ≤ 10000) (cu : u.l.length ≤ u.c) (cv : v.l.length ≤ v.c) :
    Calls Try.prog 20 #[.slice (some ⟨w.heap.size, 0, none⟩) 2 2] (w.alloc (.cells #[.slice u.p u.l.length u.c, .slice v.p v.l.length v.c] 26)) fun e w' => TwoIs w w' e R := by
  refine (hL _ 2 [u, v] _ (pair_in u v w hu hv) (by simp) (pair_all (P := fun x => x.l.length ≤ 10000) lu lv) (pair_all (P := fun x => x.l.length ≤ x.c) cu cv)).mono ?_
  rintro e w' h
  rw [show VecMath.least (lists [u, v]) = R from hR] at h
  refine two_step ?_ h
  rw [← hR]
  exact least_fits (vs := [u, v]) (pair_all (P := fun x => Fits x.l) hu.fits hv.fits)
theorem two_len {a b : List Int} {k : Nat} (ha : a.length ≤ k) (hb : b.length ≤ k) : (VecMath.join [a, b]).length ≤ k ∧ (VecMath.least [a, b]).length ≤ k :=
  ⟨join_len (vs := [⟨none, a, 0⟩, ⟨none, b, 0⟩]) (pair_all (P := fun x => x.l.length ≤ k) ha hb), least_len (vs := [⟨none, a, 0⟩, ⟨none, b, 0⟩]) (pair_all (P := fun x => x.l.length ≤ k) ha hb)⟩
set_option maxRecDepth 100000 in
set_option maxHeartbeats 4000000 in
theorem least_true (x y z : Vc) (w : World) (hx : Ints w x.p x.l) (hy : Ints w y.p y.l) (hz : Ints w z.p z.l) (sx : x.l.length ≤ x.c) (sy : y.l.length ≤ y.c) (sz : z.l.length ≤ z.c) (mx : x.l.length ≤ 9223372036854775807) (my : y.l.length ≤ 9223372036854775807) (mz : z.l.length ≤ 9223372036854775807) (hJ : JoinOk) (hL : LeastOk) (hC : CoversOk) (hR : RelOk) :
    Calls Try.prog 6 #[x.cell, y.cell, z.cell] w fun e w' => e = .returned (.bool true) ∧ Below w.heap.size w w' := by
  have HAw := Lib.hid (fun w1 => awake_true w1 hJ hR)
  have HGr := Lib.hid (fun pp cc w1 (hv : VecsIn w1 pp [x, y, z]) => great_ok pp cc [x, y, z] w1 hv (by simp) (fun v hv => by
    simp only [List.mem_cons, List.not_mem_nil, or_false] at hv
    rcases hv with rfl | rfl | rfl <;> assumption))
  have HIv := Lib.hid (fun w1 (hb : Below w.heap.size w w1) (v : Vc) (hv : v ∈ [x, y, z]) => (show Ints w1 v.p v.l by
    simp only [List.mem_cons, List.not_mem_nil, or_false] at hv
    rcases hv with rfl | rfl | rfl
    · exact hx.grown hb
    · exact hy.grown hb
    · exact hz.grown hb))
  unfold Vc.cell
  cases hg : greatB [x, y, z] with
  | true =>
    simp only [hg] at HGr
    clear hx hy hz mx my mz hJ hC hR hL hg sx sy sz
    go_enter Try.func6, Try.ntmps6
    go_wp2_with fail
    refine (HAw.out _).mono ?_
    rintro e w2 ⟨rfl, hb2⟩
    have HB2 := Lib.hid hb2
    clear hb2
    go_wp2_with fail
    refine (HGr.out _ 3 _ ?hv).mono ?_
    case hv => exact vecs_row (T := 22) (b := w2.heap.size) (by rw [heap_alloc_new]; rfl) (HIv.out _ (HB2.out.alloc HB2.out.size _))
    rintro e w3 ⟨rfl, hw3⟩
    rw [hw3]
    go_wp2_with fail
    go_ret
    exact ⟨rfl, HB2.out.alloc HB2.out.size _⟩
  | false =>
    simp only [hg] at HGr
    obtain ⟨_, g2⟩ := great_false hg
    have lx : x.l.length ≤ 100 := g2 x (by simp)
    have ly : y.l.length ≤ 100 := g2 y (by simp)
    have lz : z.l.length ≤ 100 := g2 z (by simp)
    have HJ := Lib.hid (fun (u v : Vc) (R : List Int) (hR : VecMath.join [u.l, v.l] = R) (w1 : World) => join_two hJ u v R hR w1)
    have HL := Lib.hid (fun (u v : Vc) (R : List Int) (hR : VecMath.least [u.l, v.l] = R) (w1 : World) => least_two hL u v R hR w1)
    have HC := Lib.hid (fun (u v : Vc) (r : Bool) (hr : VecMath.covers u.l v.l = r) (w1 : World) (hu : Ints w1 u.p u.l) (hv : Ints w1 v.p v.l) (lu : u.l.length ≤ 100) (lv : v.l.length ≤ 100) => (show Calls Try.prog 24 #[.slice u.p u.l.length u.c, .slice v.p v.l.length v.c] w1 fun e w' => e = .returned (.bool r) ∧ Below w1.heap.size w1 w' by rw [← hr]; exact hC u.p v.p u.c v.c u.l v.l w1 hu hv (by omega) (by omega)))
    have HX := Lib.hid hx
    have HY := Lib.hid hy
    have HZ := Lib.hid hz
    clear hx hy hz mx my mz hJ hC hR hL hg g2
    go_enter Try.func6, Try.ntmps6
    go_wp2_with fail
    refine (HAw.out _).mono ?_
    rintro e w2 ⟨rfl, hb2⟩
    have HB2 := Lib.hid hb2
    clear hb2
    go_wp2_with fail
    refine (HGr.out _ 3 _ ?hv).mono ?_
    case hv => exact vecs_row (T := 22) (b := w2.heap.size) (by rw [heap_alloc_new]; rfl) (HIv.out _ (HB2.out.alloc HB2.out.size _))
    rintro e w3 ⟨rfl, hw3⟩
    rw [hw3]
    have HB3 := Lib.hid (HB2.out.alloc HB2.out.size (.cells #[.slice x.p x.l.length x.c, .slice y.p y.l.length y.c, .slice z.p z.l.length z.c] 22))
    obtain ⟨W3, hW3⟩ : ∃ W3, W3 = w2.alloc (.cells #[.slice x.p x.l.length x.c, .slice y.p y.l.length y.c, .slice z.p z.l.length z.c] 22) := ⟨_, rfl⟩
    rw [← hW3] at HB3 ⊢
    clear HB2 hw3 hW3
    have HV := Lib.hid (show VecsIn (W3.alloc (.cells #[.slice x.p x.l.length x.c, .slice y.p y.l.length y.c, .slice z.p z.l.length z.c] 22)) (some ⟨W3.heap.size, 0, none⟩) [x, y, z] from vecs_row (T := 22) (by rw [heap_alloc_new]; rfl) (HIv.out _ (HB3.out.alloc HB3.out.size _)))
    have HB := Lib.hid (HB3.out.alloc HB3.out.size (.cells #[.slice x.p x.l.length x.c, .slice y.p y.l.length y.c, .slice z.p z.l.length z.c] 22))
    go_wp2_with fail
    obtain ⟨W4, hW4⟩ : ∃ W4, W4 = W3.alloc (.cells #[.slice x.p x.l.length x.c, .slice y.p y.l.length y.c, .slice z.p z.l.length z.c] 22) := ⟨_, rfl⟩
    rw [← hW4] at HV HB ⊢
    clear hW4
    go_loopg [24] 3 (fun gh s24 wx => ∃ i : Nat, i + gh = 3 ∧ s24 = .int .i64 (i : Int) ∧ wx = W4)
    case atStart => exact ⟨0, by omega, by go_num, rfl⟩
    case round =>
      obtain ⟨i, hi, rfl, hwx⟩ := hrel
      subst hwx
      by_cases hi3 : i < 3
      · have t1 : decide ((i : Int) < 3) = true := decide_eq_true (by omega)
        have t1' : decide (i < 3) = true := decide_eq_true hi3
        obtain ⟨v, hv⟩ : ∃ v, [x, y, z][i]? = some v := ⟨_, List.getElem?_eq_getElem (by simpa using hi3)⟩
        obtain ⟨b, off, hp, hcv, hzv⟩ := HV.out i v hv
        obtain ⟨rfl, rfl⟩ : W3.heap.size = b ∧ 0 = off := by simpa using hp
        rw [Nat.zero_add] at hcv
        have hvl : v.l.length ≤ 100 := by
          have := List.mem_of_getElem? hv
          simp only [List.mem_cons, List.not_mem_nil, or_false] at this
          rcases this with rfl | rfl | rfl <;> assumption
        obtain ⟨vp, vl, vc⟩ := v
        simp only at hcv hzv hvl
        have HZv := Lib.hid hzv
        obtain ⟨K, hK⟩ : ∃ K, K = vl.length := ⟨_, rfl⟩
        rw [← hK] at hcv hvl
        have HK := Lib.hid hK
        clear hv hp hzv hK
        go_wp2_with fail
        go_loopg [30] K (fun gh s30 wx => ∃ j : Nat, j + gh = K ∧ s30 = .int .i64 (j : Int) ∧ wx = wr)
        case atStart => exact ⟨0, by omega, by go_num, rfl⟩
        case round =>
          obtain ⟨j, hj, rfl, hwx⟩ := hrel
          subst hwx
          by_cases hjK : j < K
          · have q1 : decide ((j : Int) < (K : Int)) = true := decide_eq_true (by omega)
            have q1' : decide (j < K) = true := decide_eq_true hjK
            obtain ⟨n, hn⟩ : ∃ n, vl[j]? = some n := ⟨_, List.getElem?_eq_getElem (by rw [← HK.out]; exact hjK)⟩
            obtain ⟨_, b2, off2, rfl, hcn⟩ := HZv.out j n hn
            clear hn
            by_cases hn0 : n < 0
            · have q2 : decide (n < 0) = true := decide_eq_true hn0
              go_wp2
              go_ret
              exact ⟨rfl, HB.out⟩
            · have q2 : decide (n < 0) = false := decide_eq_false hn0
              go_wp2
              go_roundg (K - (j + 1))
              case measure => omega
              case rel => exact ⟨j + 1, by omega, by go_num, rfl⟩
          · have q1 : decide ((j : Int) < (K : Int)) = false := decide_eq_false (by omega)
            have q1' : decide (j < K) = false := decide_eq_false hjK
            go_wp2
            go_roundg (3 - (i + 1))
            case measure => omega
            case rel => exact ⟨i + 1, by omega, by go_num, rfl⟩
      · have t1 : decide ((i : Int) < 3) = false := decide_eq_false (by omega)
        have t1' : decide (i < 3) = false := decide_eq_false hi3
        clear HV
        obtain ⟨J, hJ⟩ : ∃ J, J = VecMath.join [x.l, y.l] := ⟨_, rfl⟩
        obtain ⟨K, hK⟩ : ∃ K, K = VecMath.join [J, z.l] := ⟨_, rfl⟩
        obtain ⟨M, hM⟩ : ∃ M, M = VecMath.join [y.l, z.l] := ⟨_, rfl⟩
        obtain ⟨L, hL⟩ : ∃ L, L = VecMath.least [x.l, y.l] := ⟨_, rfl⟩
        have HJl := Lib.hid (show J.length ≤ 100 by rw [hJ]; exact (two_len lx ly).1)
        have HMl := Lib.hid (show M.length ≤ 100 by rw [hM]; exact (two_len ly lz).1)
        have HKl := Lib.hid (show K.length ≤ 100 by rw [hK]; exact (two_len HJl.out lz).1)
        have HLl := Lib.hid (show L.length ≤ 100 by rw [hL]; exact (two_len lx ly).2)
        have HJx := Lib.hid (show VecMath.covers J x.l = true by rw [hJ]; exact VecMath.join_covers_left _ _)
        have HJy := Lib.hid (show VecMath.covers J y.l = true by rw [hJ]; exact VecMath.join_covers_right _ _)
        have HzJ := Lib.hid (show VecMath.covers z.l x.l = true → VecMath.covers z.l y.l = true → VecMath.covers z.l J = true by rw [hJ]; exact VecMath.join_least)
        have Eyx := Lib.hid (show VecMath.join [y.l, x.l] = J by rw [hJ]; exact VecMath.join_comm _ _)
        have EJx := Lib.hid (show VecMath.join [J, x.l] = J by rw [hJ]; exact VecMath.join_again _ _)
        have ExM := Lib.hid (show VecMath.join [x.l, M] = K by rw [hK, hJ, hM]; exact (VecMath.join_assoc _ _ _).symm)
        have HLx := Lib.hid (show VecMath.covers x.l L = true by rw [hL]; exact VecMath.least_left _ _)
        have HLy := Lib.hid (show VecMath.covers y.l L = true by rw [hL]; exact VecMath.least_right _ _)
        have EJ := Lib.hid hJ.symm
        have EK := Lib.hid hK.symm
        have EM := Lib.hid hM.symm
        have EL := Lib.hid hL.symm
        obtain ⟨s, hs⟩ : ∃ s, s = VecMath.covers z.l x.l := ⟨_, rfl⟩
        obtain ⟨t, ht⟩ : ∃ t, t = VecMath.covers z.l y.l := ⟨_, rfl⟩
        have Es := Lib.hid hs.symm
        have Et := Lib.hid ht.symm
        clear hJ hK hM hL hs ht
        go_wp2_with fail
        refine (HJ.out x y J EJ.out _ (HX.out.grown HB.out) (HY.out.grown HB.out) (by omega) (by omega) sx sy).mono ?_
        rintro e w9 ⟨pj, cj, rfl, hzz, hcc, hb⟩
        replace HB := Lib.hid (HB.out.trans (hb.mono HB.out.size))
        have Hji := Lib.hid hzz
        have Hjc := Lib.hid hcc
        clear hb hzz hcc
        go_wp2_with fail
        refine (HC.out ⟨pj, J, cj⟩ x true HJx.out _ Hji.out (HX.out.grown HB.out) (Nat.le_trans HJl.out (by omega)) (by omega)).mono ?_
        rintro e w9 ⟨rfl, hb⟩
        replace Hji := Lib.hid (Hji.out.grown hb)
        replace HB := Lib.hid (HB.out.trans (hb.mono HB.out.size))
        clear hb
        go_wp2_with fail
        refine (HC.out ⟨pj, J, cj⟩ y true HJy.out _ Hji.out (HY.out.grown HB.out) (Nat.le_trans HJl.out (by omega)) (by omega)).mono ?_
        rintro e w9 ⟨rfl, hb⟩
        replace Hji := Lib.hid (Hji.out.grown hb)
        replace HB := Lib.hid (HB.out.trans (hb.mono HB.out.size))
        clear hb
        cases s with
        | false =>
          go_wp2_with fail
          refine (HC.out z x false Es.out _ (HZ.out.grown HB.out) (HX.out.grown HB.out) (by omega) (by omega)).mono ?_
          rintro e w9 ⟨rfl, hb⟩
          replace Hji := Lib.hid (Hji.out.grown hb)
          replace HB := Lib.hid (HB.out.trans (hb.mono HB.out.size))
          clear hb
          go_wp2_with fail
          refine (HJ.out y x J Eyx.out _ (HY.out.grown HB.out) (HX.out.grown HB.out) (by omega) (by omega) sy sx).mono ?_
          rintro e w9 ⟨pk, ck, rfl, hzz, hcc, hb⟩
          replace Hji := Lib.hid (Hji.out.grown hb)
          replace HB := Lib.hid (HB.out.trans (hb.mono HB.out.size))
          have Hki := Lib.hid hzz
          have Hkc := Lib.hid hcc
          clear hb hzz hcc
          go_wp2_with fail
          refine (same_below _ _ _ _ _ _ Hji.out Hki.out (by have := HJl.out; omega)).mono ?_
          rintro e w9 ⟨rfl, hb⟩
          replace Hji := Lib.hid (Hji.out.grown hb)
          replace HB := Lib.hid (HB.out.trans (hb.mono HB.out.size))
          clear hb Hki Hkc
          go_wp2_with fail
          refine (HJ.out ⟨pj, J, cj⟩ x J EJx.out _ Hji.out (HX.out.grown HB.out) (Nat.le_trans HJl.out (by omega)) (by omega) Hjc.out sx).mono ?_
          rintro e w9 ⟨pk, ck, rfl, hzz, hcc, hb⟩
          replace Hji := Lib.hid (Hji.out.grown hb)
          replace HB := Lib.hid (HB.out.trans (hb.mono HB.out.size))
          have Hki := Lib.hid hzz
          have Hkc := Lib.hid hcc
          clear hb hzz hcc
          go_wp2_with fail
          refine (same_below _ _ _ _ _ _ Hji.out Hki.out (by have := HJl.out; omega)).mono ?_
          rintro e w9 ⟨rfl, hb⟩
          replace Hji := Lib.hid (Hji.out.grown hb)
          replace HB := Lib.hid (HB.out.trans (hb.mono HB.out.size))
          clear hb Hki Hkc
          go_wp2_with fail
          refine (HJ.out ⟨pj, J, cj⟩ z K EK.out _ Hji.out (HZ.out.grown HB.out) (Nat.le_trans HJl.out (by omega)) (by omega) Hjc.out sz).mono ?_
          rintro e w9 ⟨pk, ck, rfl, hzz, hcc, hb⟩
          replace Hji := Lib.hid (Hji.out.grown hb)
          replace HB := Lib.hid (HB.out.trans (hb.mono HB.out.size))
          have Hki := Lib.hid hzz
          have Hkc := Lib.hid hcc
          clear hb hzz hcc
          go_wp2_with fail
          refine (HJ.out y z M EM.out _ (HY.out.grown HB.out) (HZ.out.grown HB.out) (by omega) (by omega) sy sz).mono ?_
          rintro e w9 ⟨pm, cm, rfl, hzz, hcc, hb⟩
          replace Hji := Lib.hid (Hji.out.grown hb)
          replace Hki := Lib.hid (Hki.out.grown hb)
          replace HB := Lib.hid (HB.out.trans (hb.mono HB.out.size))
          have Hmi := Lib.hid hzz
          have Hmc := Lib.hid hcc
          clear hb hzz hcc
          go_wp2_with fail
          refine (HJ.out x ⟨pm, M, cm⟩ K ExM.out _ (HX.out.grown HB.out) Hmi.out (by omega) (Nat.le_trans HMl.out (by omega)) sx Hmc.out).mono ?_
          rintro e w9 ⟨pq, cq, rfl, hzz, hcc, hb⟩
          replace Hji := Lib.hid (Hji.out.grown hb)
          replace Hki := Lib.hid (Hki.out.grown hb)
          replace Hmi := Lib.hid (Hmi.out.grown hb)
          replace HB := Lib.hid (HB.out.trans (hb.mono HB.out.size))
          have Hqi := Lib.hid hzz
          have Hqc := Lib.hid hcc
          clear hb hzz hcc
          go_wp2_with fail
          refine (same_below _ _ _ _ _ _ Hki.out Hqi.out (by have := HKl.out; omega)).mono ?_
          rintro e w9 ⟨rfl, hb⟩
          replace HB := Lib.hid (HB.out.trans (hb.mono HB.out.size))
          clear hb Hki Hkc Hmi Hmc Hqi Hqc Hji Hjc
          go_wp2_with fail
          refine (HL.out x y L EL.out _ (HX.out.grown HB.out) (HY.out.grown HB.out) (by omega) (by omega) sx sy).mono ?_
          rintro e w9 ⟨pl, cl, rfl, hzz, hcc, hb⟩
          replace HB := Lib.hid (HB.out.trans (hb.mono HB.out.size))
          have Hli := Lib.hid hzz
          have Hlc := Lib.hid hcc
          clear hb hzz hcc
          go_wp2_with fail
          refine (HC.out x ⟨pl, L, cl⟩ true HLx.out _ (HX.out.grown HB.out) Hli.out (by omega) (Nat.le_trans HLl.out (by omega))).mono ?_
          rintro e w9 ⟨rfl, hb⟩
          replace Hli := Lib.hid (Hli.out.grown hb)
          replace HB := Lib.hid (HB.out.trans (hb.mono HB.out.size))
          clear hb
          go_wp2_with fail
          refine (HL.out x y L EL.out _ (HX.out.grown HB.out) (HY.out.grown HB.out) (by omega) (by omega) sx sy).mono ?_
          rintro e w9 ⟨pn, cn, rfl, hzz, hcc, hb⟩
          replace Hli := Lib.hid (Hli.out.grown hb)
          replace HB := Lib.hid (HB.out.trans (hb.mono HB.out.size))
          have Hni := Lib.hid hzz
          have Hnc := Lib.hid hcc
          clear hb hzz hcc
          go_wp2_with fail
          refine (HC.out y ⟨pn, L, cn⟩ true HLy.out _ (HY.out.grown HB.out) Hni.out (by omega) (Nat.le_trans HLl.out (by omega))).mono ?_
          rintro e w9 ⟨rfl, hb⟩
          replace Hli := Lib.hid (Hli.out.grown hb)
          replace Hni := Lib.hid (Hni.out.grown hb)
          replace HB := Lib.hid (HB.out.trans (hb.mono HB.out.size))
          clear hb
          go_wp2_with fail
          go_ret
          exact ⟨rfl, HB.out⟩
        | true =>
          cases t with
          | false =>
            go_wp2_with fail
            refine (HC.out z x true Es.out _ (HZ.out.grown HB.out) (HX.out.grown HB.out) (by omega) (by omega)).mono ?_
            rintro e w9 ⟨rfl, hb⟩
            replace Hji := Lib.hid (Hji.out.grown hb)
            replace HB := Lib.hid (HB.out.trans (hb.mono HB.out.size))
            clear hb
            go_wp2_with fail
            refine (HC.out z y false Et.out _ (HZ.out.grown HB.out) (HY.out.grown HB.out) (by omega) (by omega)).mono ?_
            rintro e w9 ⟨rfl, hb⟩
            replace Hji := Lib.hid (Hji.out.grown hb)
            replace HB := Lib.hid (HB.out.trans (hb.mono HB.out.size))
            clear hb
            go_wp2_with fail
            refine (HJ.out y x J Eyx.out _ (HY.out.grown HB.out) (HX.out.grown HB.out) (by omega) (by omega) sy sx).mono ?_
            rintro e w9 ⟨pk, ck, rfl, hzz, hcc, hb⟩
            replace Hji := Lib.hid (Hji.out.grown hb)
            replace HB := Lib.hid (HB.out.trans (hb.mono HB.out.size))
            have Hki := Lib.hid hzz
            have Hkc := Lib.hid hcc
            clear hb hzz hcc
            go_wp2_with fail
            refine (same_below _ _ _ _ _ _ Hji.out Hki.out (by have := HJl.out; omega)).mono ?_
            rintro e w9 ⟨rfl, hb⟩
            replace Hji := Lib.hid (Hji.out.grown hb)
            replace HB := Lib.hid (HB.out.trans (hb.mono HB.out.size))
            clear hb Hki Hkc
            go_wp2_with fail
            refine (HJ.out ⟨pj, J, cj⟩ x J EJx.out _ Hji.out (HX.out.grown HB.out) (Nat.le_trans HJl.out (by omega)) (by omega) Hjc.out sx).mono ?_
            rintro e w9 ⟨pk, ck, rfl, hzz, hcc, hb⟩
            replace Hji := Lib.hid (Hji.out.grown hb)
            replace HB := Lib.hid (HB.out.trans (hb.mono HB.out.size))
            have Hki := Lib.hid hzz
            have Hkc := Lib.hid hcc
            clear hb hzz hcc
            go_wp2_with fail
            refine (same_below _ _ _ _ _ _ Hji.out Hki.out (by have := HJl.out; omega)).mono ?_
            rintro e w9 ⟨rfl, hb⟩
            replace Hji := Lib.hid (Hji.out.grown hb)
            replace HB := Lib.hid (HB.out.trans (hb.mono HB.out.size))
            clear hb Hki Hkc
            go_wp2_with fail
            refine (HJ.out ⟨pj, J, cj⟩ z K EK.out _ Hji.out (HZ.out.grown HB.out) (Nat.le_trans HJl.out (by omega)) (by omega) Hjc.out sz).mono ?_
            rintro e w9 ⟨pk, ck, rfl, hzz, hcc, hb⟩
            replace Hji := Lib.hid (Hji.out.grown hb)
            replace HB := Lib.hid (HB.out.trans (hb.mono HB.out.size))
            have Hki := Lib.hid hzz
            have Hkc := Lib.hid hcc
            clear hb hzz hcc
            go_wp2_with fail
            refine (HJ.out y z M EM.out _ (HY.out.grown HB.out) (HZ.out.grown HB.out) (by omega) (by omega) sy sz).mono ?_
            rintro e w9 ⟨pm, cm, rfl, hzz, hcc, hb⟩
            replace Hji := Lib.hid (Hji.out.grown hb)
            replace Hki := Lib.hid (Hki.out.grown hb)
            replace HB := Lib.hid (HB.out.trans (hb.mono HB.out.size))
            have Hmi := Lib.hid hzz
            have Hmc := Lib.hid hcc
            clear hb hzz hcc
            go_wp2_with fail
            refine (HJ.out x ⟨pm, M, cm⟩ K ExM.out _ (HX.out.grown HB.out) Hmi.out (by omega) (Nat.le_trans HMl.out (by omega)) sx Hmc.out).mono ?_
            rintro e w9 ⟨pq, cq, rfl, hzz, hcc, hb⟩
            replace Hji := Lib.hid (Hji.out.grown hb)
            replace Hki := Lib.hid (Hki.out.grown hb)
            replace Hmi := Lib.hid (Hmi.out.grown hb)
            replace HB := Lib.hid (HB.out.trans (hb.mono HB.out.size))
            have Hqi := Lib.hid hzz
            have Hqc := Lib.hid hcc
            clear hb hzz hcc
            go_wp2_with fail
            refine (same_below _ _ _ _ _ _ Hki.out Hqi.out (by have := HKl.out; omega)).mono ?_
            rintro e w9 ⟨rfl, hb⟩
            replace HB := Lib.hid (HB.out.trans (hb.mono HB.out.size))
            clear hb Hki Hkc Hmi Hmc Hqi Hqc Hji Hjc
            go_wp2_with fail
            refine (HL.out x y L EL.out _ (HX.out.grown HB.out) (HY.out.grown HB.out) (by omega) (by omega) sx sy).mono ?_
            rintro e w9 ⟨pl, cl, rfl, hzz, hcc, hb⟩
            replace HB := Lib.hid (HB.out.trans (hb.mono HB.out.size))
            have Hli := Lib.hid hzz
            have Hlc := Lib.hid hcc
            clear hb hzz hcc
            go_wp2_with fail
            refine (HC.out x ⟨pl, L, cl⟩ true HLx.out _ (HX.out.grown HB.out) Hli.out (by omega) (Nat.le_trans HLl.out (by omega))).mono ?_
            rintro e w9 ⟨rfl, hb⟩
            replace Hli := Lib.hid (Hli.out.grown hb)
            replace HB := Lib.hid (HB.out.trans (hb.mono HB.out.size))
            clear hb
            go_wp2_with fail
            refine (HL.out x y L EL.out _ (HX.out.grown HB.out) (HY.out.grown HB.out) (by omega) (by omega) sx sy).mono ?_
            rintro e w9 ⟨pn, cn, rfl, hzz, hcc, hb⟩
            replace Hli := Lib.hid (Hli.out.grown hb)
            replace HB := Lib.hid (HB.out.trans (hb.mono HB.out.size))
            have Hni := Lib.hid hzz
            have Hnc := Lib.hid hcc
            clear hb hzz hcc
            go_wp2_with fail
            refine (HC.out y ⟨pn, L, cn⟩ true HLy.out _ (HY.out.grown HB.out) Hni.out (by omega) (Nat.le_trans HLl.out (by omega))).mono ?_
            rintro e w9 ⟨rfl, hb⟩
            replace Hli := Lib.hid (Hli.out.grown hb)
            replace Hni := Lib.hid (Hni.out.grown hb)
            replace HB := Lib.hid (HB.out.trans (hb.mono HB.out.size))
            clear hb
            go_wp2_with fail
            go_ret
            exact ⟨rfl, HB.out⟩
          | true =>
            have HzJ2 := Lib.hid (HzJ.out Es.out Et.out)
            go_wp2_with fail
            refine (HC.out z x true Es.out _ (HZ.out.grown HB.out) (HX.out.grown HB.out) (by omega) (by omega)).mono ?_
            rintro e w9 ⟨rfl, hb⟩
            replace Hji := Lib.hid (Hji.out.grown hb)
            replace HB := Lib.hid (HB.out.trans (hb.mono HB.out.size))
            clear hb
            go_wp2_with fail
            refine (HC.out z y true Et.out _ (HZ.out.grown HB.out) (HY.out.grown HB.out) (by omega) (by omega)).mono ?_
            rintro e w9 ⟨rfl, hb⟩
            replace Hji := Lib.hid (Hji.out.grown hb)
            replace HB := Lib.hid (HB.out.trans (hb.mono HB.out.size))
            clear hb
            go_wp2_with fail
            refine (HC.out z ⟨pj, J, cj⟩ true HzJ2.out _ (HZ.out.grown HB.out) Hji.out (by omega) (Nat.le_trans HJl.out (by omega))).mono ?_
            rintro e w9 ⟨rfl, hb⟩
            replace Hji := Lib.hid (Hji.out.grown hb)
            replace HB := Lib.hid (HB.out.trans (hb.mono HB.out.size))
            clear hb
            go_wp2_with fail
            refine (HJ.out y x J Eyx.out _ (HY.out.grown HB.out) (HX.out.grown HB.out) (by omega) (by omega) sy sx).mono ?_
            rintro e w9 ⟨pk, ck, rfl, hzz, hcc, hb⟩
            replace Hji := Lib.hid (Hji.out.grown hb)
            replace HB := Lib.hid (HB.out.trans (hb.mono HB.out.size))
            have Hki := Lib.hid hzz
            have Hkc := Lib.hid hcc
            clear hb hzz hcc
            go_wp2_with fail
            refine (same_below _ _ _ _ _ _ Hji.out Hki.out (by have := HJl.out; omega)).mono ?_
            rintro e w9 ⟨rfl, hb⟩
            replace Hji := Lib.hid (Hji.out.grown hb)
            replace HB := Lib.hid (HB.out.trans (hb.mono HB.out.size))
            clear hb Hki Hkc
            go_wp2_with fail
            refine (HJ.out ⟨pj, J, cj⟩ x J EJx.out _ Hji.out (HX.out.grown HB.out) (Nat.le_trans HJl.out (by omega)) (by omega) Hjc.out sx).mono ?_
            rintro e w9 ⟨pk, ck, rfl, hzz, hcc, hb⟩
            replace Hji := Lib.hid (Hji.out.grown hb)
            replace HB := Lib.hid (HB.out.trans (hb.mono HB.out.size))
            have Hki := Lib.hid hzz
            have Hkc := Lib.hid hcc
            clear hb hzz hcc
            go_wp2_with fail
            refine (same_below _ _ _ _ _ _ Hji.out Hki.out (by have := HJl.out; omega)).mono ?_
            rintro e w9 ⟨rfl, hb⟩
            replace Hji := Lib.hid (Hji.out.grown hb)
            replace HB := Lib.hid (HB.out.trans (hb.mono HB.out.size))
            clear hb Hki Hkc
            go_wp2_with fail
            refine (HJ.out ⟨pj, J, cj⟩ z K EK.out _ Hji.out (HZ.out.grown HB.out) (Nat.le_trans HJl.out (by omega)) (by omega) Hjc.out sz).mono ?_
            rintro e w9 ⟨pk, ck, rfl, hzz, hcc, hb⟩
            replace Hji := Lib.hid (Hji.out.grown hb)
            replace HB := Lib.hid (HB.out.trans (hb.mono HB.out.size))
            have Hki := Lib.hid hzz
            have Hkc := Lib.hid hcc
            clear hb hzz hcc
            go_wp2_with fail
            refine (HJ.out y z M EM.out _ (HY.out.grown HB.out) (HZ.out.grown HB.out) (by omega) (by omega) sy sz).mono ?_
            rintro e w9 ⟨pm, cm, rfl, hzz, hcc, hb⟩
            replace Hji := Lib.hid (Hji.out.grown hb)
            replace Hki := Lib.hid (Hki.out.grown hb)
            replace HB := Lib.hid (HB.out.trans (hb.mono HB.out.size))
            have Hmi := Lib.hid hzz
            have Hmc := Lib.hid hcc
            clear hb hzz hcc
            go_wp2_with fail
            refine (HJ.out x ⟨pm, M, cm⟩ K ExM.out _ (HX.out.grown HB.out) Hmi.out (by omega) (Nat.le_trans HMl.out (by omega)) sx Hmc.out).mono ?_
            rintro e w9 ⟨pq, cq, rfl, hzz, hcc, hb⟩
            replace Hji := Lib.hid (Hji.out.grown hb)
            replace Hki := Lib.hid (Hki.out.grown hb)
            replace Hmi := Lib.hid (Hmi.out.grown hb)
            replace HB := Lib.hid (HB.out.trans (hb.mono HB.out.size))
            have Hqi := Lib.hid hzz
            have Hqc := Lib.hid hcc
            clear hb hzz hcc
            go_wp2_with fail
            refine (same_below _ _ _ _ _ _ Hki.out Hqi.out (by have := HKl.out; omega)).mono ?_
            rintro e w9 ⟨rfl, hb⟩
            replace HB := Lib.hid (HB.out.trans (hb.mono HB.out.size))
            clear hb Hki Hkc Hmi Hmc Hqi Hqc Hji Hjc
            go_wp2_with fail
            refine (HL.out x y L EL.out _ (HX.out.grown HB.out) (HY.out.grown HB.out) (by omega) (by omega) sx sy).mono ?_
            rintro e w9 ⟨pl, cl, rfl, hzz, hcc, hb⟩
            replace HB := Lib.hid (HB.out.trans (hb.mono HB.out.size))
            have Hli := Lib.hid hzz
            have Hlc := Lib.hid hcc
            clear hb hzz hcc
            go_wp2_with fail
            refine (HC.out x ⟨pl, L, cl⟩ true HLx.out _ (HX.out.grown HB.out) Hli.out (by omega) (Nat.le_trans HLl.out (by omega))).mono ?_
            rintro e w9 ⟨rfl, hb⟩
            replace Hli := Lib.hid (Hli.out.grown hb)
            replace HB := Lib.hid (HB.out.trans (hb.mono HB.out.size))
            clear hb
            go_wp2_with fail
            refine (HL.out x y L EL.out _ (HX.out.grown HB.out) (HY.out.grown HB.out) (by omega) (by omega) sx sy).mono ?_
            rintro e w9 ⟨pn, cn, rfl, hzz, hcc, hb⟩
            replace Hli := Lib.hid (Hli.out.grown hb)
            replace HB := Lib.hid (HB.out.trans (hb.mono HB.out.size))
            have Hni := Lib.hid hzz
            have Hnc := Lib.hid hcc
            clear hb hzz hcc
            go_wp2_with fail
            refine (HC.out y ⟨pn, L, cn⟩ true HLy.out _ (HY.out.grown HB.out) Hni.out (by omega) (Nat.le_trans HLl.out (by omega))).mono ?_
            rintro e w9 ⟨rfl, hb⟩
            replace Hli := Lib.hid (Hli.out.grown hb)
            replace Hni := Lib.hid (Hni.out.grown hb)
            replace HB := Lib.hid (HB.out.trans (hb.mono HB.out.size))
            clear hb
            go_wp2_with fail
            go_ret
            exact ⟨rfl, HB.out⟩
end Go.Proofs.Ytkdjfeaaojecdaa
