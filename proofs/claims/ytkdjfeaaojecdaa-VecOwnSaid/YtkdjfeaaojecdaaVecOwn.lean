/-
  The contract of chapter 6's law VecOwn: of any two vectors and region it answers true; old memory is as it was. The conditions: the contracts of Trim, With, Join, Least, Rel; the vectors' cells.
-/
import Derived.Test.YtkdjfeaaojecdaaVecLeast
import Derived.Test.YtkdjfeaaojecdaaMark2
import Derived.Deep.Cut
namespace Go.Proofs.Ytkdjfeaaojecdaa
open Go.RowKit

theorem one_in (u : Vc) (w : World) (hu : Ints w u.p u.l) : VecsIn (w.alloc (.cells #[.slice u.p u.l.length u.c] 26)) (some ⟨w.heap.size, 0, none⟩) [u] := by
  refine vecs_row (T := 26) (by rw [heap_alloc_new]; rfl) ?_
  intro x hx
  obtain rfl := List.mem_singleton.1 hx
  exact hu.grown ((Below.refl _ _).alloc (Nat.le_refl _) _)
/-- Rows that are still whole, from the i-th on. -/
def Live (rs : List (Value × List Int)) (B : Nat) (w : World) (i : Nat) : Prop := ∀ (k : Nat) (x : Value × List Int), rs[k]? = some x → i ≤ k → OwnsM w B 3 x.1 x.2.length (x.2.map (Value.int .i64))
/-- Rows in blocks of their own. -/
def Sep (rs : List (Value × List Int)) : Prop := rs.Pairwise fun x y => ∀ g, x.1.ownBlock = some g → y.1.ownBlock = some g → False
/-- Cells that can be written. -/
def Has (w : World) (g m : Nat) : Prop := ∀ j, j < m → (∃ u, w.cell? ⟨g, j, none⟩ = some u) ∧ w.frozen? ⟨g, j, none⟩ = false
theorem has_of {w : World} {g m : Nat} {xs : List Value} (h : ∀ j, j < m → w.cell? ⟨g, j, none⟩ = xs[j]?) (hf : ∀ j, j < m → w.frozen? ⟨g, j, none⟩ = false) (hl : xs.length = m) : Has w g m := fun j hj =>
  ⟨⟨xs[j]'(by omega), by rw [h j hj]; exact List.getElem?_eq_getElem (by omega)⟩, hf j hj⟩
theorem Has.set {w : World} {g m j : Nat} {u : Value} (h : Has w g m) : Has (w.setCell ⟨g, j, none⟩ u) g m := fun i hi => by
  obtain ⟨⟨x, hx⟩, hf⟩ := h i hi
  refine ⟨?_, by rw [World.frozen?_setCell]; exact hf⟩
  by_cases hij : i = j
  · subst hij
    exact ⟨u, World.cell?_setCell_same _ _ _ hx⟩
  · exact ⟨x, by rw [World.cell?_setCell_other _ ⟨g, j, none⟩ ⟨g, i, none⟩ _ (by first | (simp; done) | (simp; omega))]; exact hx⟩
theorem grown_alloc {w w' : World} {o : Obj} {row : Option Nat} (h : (w.alloc o).grownBy w' row) : w.grownBy w' row :=
  ⟨h.os, h.tape, h.output, Nat.le_trans (by simp) h.size, fun k hk hne => (h.block k (by simp; omega) hne).trans (heap_alloc_old _ _ hk)⟩
theorem grown_set {w w' : World} {row : Option Nat} {g j : Nat} {u : Value} (h : w.grownBy w' row) (hg : row = some g ∨ w.heap.size ≤ g) : w.grownBy (w'.setCell ⟨g, j, none⟩ u) row :=
  ⟨h.os, h.tape, h.output, by simpa [World.setCell] using h.size, fun k hk hne => (Below.heap_setCell _ _ _ _ (by
    rcases hg with rfl | hg
    · exact fun e => hne (by rw [e])
    · show k ≠ g
      omega)).trans (h.block k hk hne)⟩
theorem sep_ne {rs : List (Value × List Int)} (h : Sep rs) {i k : Nat} {a b : Value × List Int} (ha : rs[i]? = some a) (hb : rs[k]? = some b) (hik : i < k) : ∀ g, a.1.ownBlock = some g → b.1.ownBlock = some g → False := by
  obtain ⟨h1, rfl⟩ := List.getElem?_eq_some_iff.1 ha
  obtain ⟨h2, rfl⟩ := List.getElem?_eq_some_iff.1 hb
  exact List.pairwise_iff_getElem.1 h i k h1 h2 hik
/-- A new vector, its block within bounds. -/
def Got (w w' : World) (e : Ending) (v : Value) (l : List Int) : Prop := e = .returned v ∧ NewVec w.heap.size w' v l ∧ Below w.heap.size w w'
theorem got_of {w : World} {a : Obj} {R : List Int} {e : Ending} {w' : World} (h : (∃ v, e = .returned v ∧ NewVec (w.alloc a).heap.size w' v R) ∧ Below (w.alloc a).heap.size (w.alloc a) w') : ∃ v, Got w w' e v R := by
  obtain ⟨⟨v, rfl, hv⟩, hb⟩ := h
  exact ⟨v, rfl, hv.weaken (by simp), ((Below.refl _ _).alloc (Nat.le_refl _) a).trans (hb.mono (by simp))⟩
theorem news_ints {w : World} {p : Option Addr} {l : List Int} (h : Ints w p l) : ∀ (j : Nat) (u : Value), (l.map (Value.int .i64))[j]? = some u → ∃ ad, p = some ad ∧ w.cell? (ad.add j) = some u := fun j u hj => by
  rw [List.getElem?_map, Option.map_eq_some_iff] at hj
  obtain ⟨z, hz, rfl⟩ := hj
  obtain ⟨_, b, off, rfl, hc⟩ := h j z hz
  exact ⟨_, rfl, by rw [WideShapes.add_plain]; exact hc⟩
theorem one_ints (l : List Int) : ∀ u ∈ l.map (Value.int .i64), u.oneCell' = true := fun u hu => by
  obtain ⟨z, _, rfl⟩ := List.mem_map.1 hu
  rfl
theorem got_row {B : Nat} {w : World} {v : Value} {l : List Int} {n : Nat} (hn : (l.map (Value.int .i64)).length = n) (h : OwnsM w B 3 v (0 + n) ([] ++ l.map (Value.int .i64))) : NewVec B w v l := by
  unfold NewVec
  rw [Nat.zero_add, List.nil_append, ← hn, List.length_map] at h
  exact h
set_option maxRecDepth 100000 in
set_option maxHeartbeats 4000000 in
theorem own_true (x y : Vc) (r : Int) (w : World) (hx : Ints w x.p x.l) (hy : Ints w y.p y.l) (sx : x.l.length ≤ x.c) (sy : y.l.length ≤ y.c) (mx : x.c ≤ maxLen) (my : y.c ≤ maxLen) (hr : -9223372036854775808 ≤ r ∧ r ≤ 9223372036854775807) (hT : TrimOk) (hW : WithOk) (hJ : JoinOk) (hL : LeastOk) (hR : RelOk) :
    Calls Try.prog 7 #[x.cell, y.cell, .int .i64 r] w fun e w' => e = .returned (.bool true) ∧ Below w.heap.size w w' := by
  obtain ⟨ii, hii, hi0, hi1, hi2⟩ := info_parts info_int
  have HAw := Lib.hid (fun w1 => awake_true w1 hJ hR)
  have mx2 : x.l.length ≤ 9223372036854775807 := by unfold maxLen at mx; omega
  have my2 : y.l.length ≤ 9223372036854775807 := by unfold maxLen at my; omega
  have HGr := Lib.hid (fun pp cc w1 (hv : VecsIn w1 pp [x, y]) => great_ok pp cc [x, y] w1 hv (by simp) (pair_all (P := fun v => v.l.length ≤ 9223372036854775807) mx2 my2))
  unfold Vc.cell
  cases hg : greatB [x, y] with
  | true =>
    simp only [hg] at HGr
    have HX := Lib.hid hx
    have HY := Lib.hid hy
    clear hx hy mx my hT hW hJ hL hR hg sx sy mx2 my2 hr
    go_enter Try.func7, Try.ntmps7
    go_wp2_with fail
    refine (HAw.out _).mono ?_
    rintro e w2 ⟨rfl, hb2⟩
    have HB2 := Lib.hid hb2
    clear hb2
    go_wp2_with fail
    refine (HGr.out _ 2 _ ?hv).mono ?_
    case hv => exact vecs_row (T := 22) (b := w2.heap.size) (by rw [heap_alloc_new]; rfl) (pair_all (P := fun v => Ints _ v.p v.l) (HX.out.grown (HB2.out.alloc HB2.out.size _)) (HY.out.grown (HB2.out.alloc HB2.out.size _)))
    rintro e w3 ⟨rfl, hw3⟩
    rw [hw3]
    go_wp2_with fail
    go_ret
    exact ⟨rfl, HB2.out.alloc HB2.out.size _⟩
  | false =>
    simp only [hg] at HGr
    obtain ⟨_, g2⟩ := great_false hg
    have lx : x.l.length ≤ 100 := g2 x (by simp)
    have ly : y.l.length ≤ 100 := g2 y (by simp)
    have HTr := Lib.hid (fun w1 (hi : Ints w1 x.p x.l) => hT x.p x.c x.l w1 hi (by omega) sx)
    have HWi := Lib.hid (fun w1 (hi : Ints w1 x.p x.l) => hW x.p x.c x.l r 7 w1 hi (by omega) sx hr (by omega))
    have HJ1 := Lib.hid (fun w1 (hi : Ints w1 x.p x.l) => (hJ _ 1 [x] _ (one_in x w1 hi) (by simp) (fun v hv => by obtain rfl := List.mem_singleton.1 hv; omega) (fun v hv => by obtain rfl := List.mem_singleton.1 hv; exact sx)).mono (fun e w' h => got_of h))
    have HJ2 := Lib.hid (fun w1 (hi : Ints w1 x.p x.l) (hk : Ints w1 y.p y.l) => (hJ _ 2 [x, y] _ (pair_in x y w1 hi hk) (by simp) (pair_all (P := fun v => v.l.length ≤ 10000) (by omega) (by omega)) (pair_all (P := fun v => v.l.length ≤ v.c) sx sy)).mono (fun e w' h => got_of h))
    have HL1 := Lib.hid (fun w1 (hi : Ints w1 x.p x.l) => (hL _ 1 [x] _ (one_in x w1 hi) (by simp) (fun v hv => by obtain rfl := List.mem_singleton.1 hv; omega) (fun v hv => by obtain rfl := List.mem_singleton.1 hv; exact sx)).mono (fun e w' h => got_of h))
    have HL2 := Lib.hid (fun w1 (hi : Ints w1 x.p x.l) (hk : Ints w1 y.p y.l) => (hL _ 2 [y, x] _ (pair_in y x w1 hk hi) (by simp) (pair_all (P := fun v => v.l.length ≤ 10000) (by omega) (by omega)) (pair_all (P := fun v => v.l.length ≤ v.c) sy sx)).mono (fun e w' h => got_of h))
    have HX := Lib.hid hx
    have HY := Lib.hid hy
    clear hx hy mx my hT hW hJ hL hR hg g2 mx2 my2 hr
    go_enter Try.func7, Try.ntmps7
    go_wp2_with fail
    refine (HAw.out _).mono ?_
    rintro e w2 ⟨rfl, hb2⟩
    have HB2 := Lib.hid hb2
    clear hb2
    go_wp2_with fail
    refine (HGr.out _ 2 _ ?hv).mono ?_
    case hv => exact vecs_row (T := 22) (b := w2.heap.size) (by rw [heap_alloc_new]; rfl) (pair_all (P := fun v => Ints _ v.p v.l) (HX.out.grown (HB2.out.alloc HB2.out.size _)) (HY.out.grown (HB2.out.alloc HB2.out.size _)))
    rintro e w3 ⟨rfl, hw3⟩
    rw [hw3]
    have HB3 := Lib.hid (HB2.out.alloc HB2.out.size (.cells #[.slice x.p x.l.length x.c, .slice y.p y.l.length y.c] 22))
    obtain ⟨W3, hW3⟩ : ∃ W3, W3 = w2.alloc (.cells #[.slice x.p x.l.length x.c, .slice y.p y.l.length y.c] 22) := ⟨_, rfl⟩
    rw [← hW3] at HB3 ⊢
    clear HB2 hw3 hW3
    have HO1 := Lib.hid (show OwnsM (W3.alloc (.cells #[] 3)) W3.heap.size 3 (.slice (some ⟨W3.heap.size, 0, none⟩) 0 0) 0 [] from NewVec.start (B := W3.heap.size) W3 (Nat.le_refl _))
    have HN1 := Lib.hid (news_ints (HX.out.grown (HB3.out.alloc HB3.out.size (.cells #[] 3))))
    obtain ⟨nx, hnx⟩ : ∃ nx, nx = x.l.length := ⟨_, rfl⟩
    obtain ⟨ny, hny⟩ : ∃ ny, ny = y.l.length := ⟨_, rfl⟩
    have HNx := Lib.hid hnx
    have HNy := Lib.hid hny
    have hlx : (x.l.map (Value.int .i64)).length = nx := by rw [List.length_map, hnx]
    have hly : (y.l.map (Value.int .i64)).length = ny := by rw [List.length_map, hny]
    have HLx := Lib.hid hlx
    have HLy := Lib.hid hly
    have hn1 : nx ≤ 100 := by omega
    have hn2 : ny ≤ 100 := by omega
    rw [← hnx, ← hny]
    rw [← hnx] at HTr HWi HJ1 HL1
    rw [← hnx, ← hny] at HJ2 HL2
    clear hnx hny hlx hly
    go_wp2_with (first
      | (at_builtin; refine wpList_append_any rfl _ _ 22 22 rfl W3.heap.size 3 3 ii (.int .i64 0) 8 Try.underlying22 Try.underlying22 hii hi0 hi1 hi2 rfl _ _ _ rfl HO1.out x.p nx x.c (x.l.map (Value.int .i64)) rfl HLx.out HN1.out (one_ints _) (by unfold maxLen; omega) (by omega) (by simp) ?_; intro v4 w4 hown4 hgrow4; have hb4 : Below W3.heap.size W3 w4 := (((Below.refl _ _).alloc (Nat.le_refl _) _) : Below W3.heap.size W3 (W3.alloc (.cells #[] 3))).grown hgrow4 (by simp) (fun q hq => (OwnsM.lt HO1.out q hq).1); have HB4 := Lib.hid (HB3.out.trans (hb4.mono HB3.out.size)); have HV4 := Lib.hid (got_row HLx.out hown4); have HO2 := Lib.hid (show OwnsM (w4.alloc (.cells #[] 3)) w4.heap.size 3 (.slice (some ⟨w4.heap.size, 0, none⟩) 0 0) 0 [] from NewVec.start (B := w4.heap.size) w4 (Nat.le_refl _)); have HN2 := Lib.hid (news_ints (HY.out.grown (HB4.out.alloc HB4.out.size (.cells #[] 3)))); clear hown4 hgrow4 hb4 HN1 HO1)
      | (at_builtin; refine wpList_append_any rfl _ _ 22 22 rfl w4.heap.size 3 3 ii (.int .i64 0) 8 Try.underlying22 Try.underlying22 hii hi0 hi1 hi2 rfl _ _ _ rfl HO2.out y.p ny y.c (y.l.map (Value.int .i64)) rfl HLy.out HN2.out (one_ints _) (by unfold maxLen; omega) (by omega) (by simp) ?_; intro v5 w5 hown5 hgrow5; have hb5 : Below w4.heap.size w4 w5 := (((Below.refl _ _).alloc (Nat.le_refl _) _) : Below w4.heap.size w4 (w4.alloc (.cells #[] 3))).grown hgrow5 (by simp) (fun q hq => (OwnsM.lt HO2.out q hq).1); have HB5 := Lib.hid (HB4.out.trans (hb5.mono HB4.out.size)); have HV5 := Lib.hid (got_row HLy.out hown5); replace HV4 := Lib.hid (HV4.out.grown hb5); clear hown5 hgrow5 hb5 HN2 HO2))
    have HB := HB5
    have H0 := Lib.hid (Below.refl w5.heap.size w5)
    go_wp2_with fail
    refine (HTr.out _ (HX.out.grown HB.out)).mono ?_
    rintro e w6 ⟨⟨u1, rfl, hu⟩, hb⟩
    have HU1 := Lib.hid (hu.weaken (B' := w5.heap.size) H0.out.size)
    have HT1 := Lib.hid (show ∀ g, u1.ownBlock = some g → w5.heap.size ≤ g ∧ g < w6.heap.size from OwnsM.lt hu)
    have HS1 := Lib.hid hb.size
    replace HB := Lib.hid (HB.out.trans (hb.mono HB.out.size))
    replace H0 := Lib.hid (H0.out.trans (hb.mono H0.out.size))
    clear hu hb
    go_wp2_with fail
    refine (HWi.out _ (HX.out.grown HB.out)).mono ?_
    rintro e w7 ⟨⟨u2, rfl, hu⟩, hb⟩
    replace HU1 := Lib.hid (HU1.out.grown hb)
    have HU2 := Lib.hid (hu.weaken (B' := w5.heap.size) H0.out.size)
    have HT2 := Lib.hid (show ∀ g, u2.ownBlock = some g → w6.heap.size ≤ g ∧ g < w7.heap.size from OwnsM.lt hu)
    have HS2 := Lib.hid hb.size
    replace HB := Lib.hid (HB.out.trans (hb.mono HB.out.size))
    replace H0 := Lib.hid (H0.out.trans (hb.mono H0.out.size))
    clear hu hb
    go_wp2_with fail
    refine (HJ1.out _ (HX.out.grown HB.out)).mono ?_
    rintro e w8 ⟨u3, rfl, hu, hb⟩
    replace HU1 := Lib.hid (HU1.out.grown hb)
    replace HU2 := Lib.hid (HU2.out.grown hb)
    have HU3 := Lib.hid (hu.weaken (B' := w5.heap.size) H0.out.size)
    have HT3 := Lib.hid (show ∀ g, u3.ownBlock = some g → w7.heap.size ≤ g ∧ g < w8.heap.size from OwnsM.lt hu)
    have HS3 := Lib.hid hb.size
    replace HB := Lib.hid (HB.out.trans (hb.mono HB.out.size))
    replace H0 := Lib.hid (H0.out.trans (hb.mono H0.out.size))
    clear hu hb
    go_wp2_with fail
    refine (HJ2.out _ (HX.out.grown HB.out) (HY.out.grown HB.out)).mono ?_
    rintro e w9 ⟨u4, rfl, hu, hb⟩
    replace HU1 := Lib.hid (HU1.out.grown hb)
    replace HU2 := Lib.hid (HU2.out.grown hb)
    replace HU3 := Lib.hid (HU3.out.grown hb)
    have HU4 := Lib.hid (hu.weaken (B' := w5.heap.size) H0.out.size)
    have HT4 := Lib.hid (show ∀ g, u4.ownBlock = some g → w8.heap.size ≤ g ∧ g < w9.heap.size from OwnsM.lt hu)
    have HS4 := Lib.hid hb.size
    replace HB := Lib.hid (HB.out.trans (hb.mono HB.out.size))
    replace H0 := Lib.hid (H0.out.trans (hb.mono H0.out.size))
    clear hu hb
    go_wp2_with fail
    refine (HL1.out _ (HX.out.grown HB.out)).mono ?_
    rintro e w10 ⟨u5, rfl, hu, hb⟩
    replace HU1 := Lib.hid (HU1.out.grown hb)
    replace HU2 := Lib.hid (HU2.out.grown hb)
    replace HU3 := Lib.hid (HU3.out.grown hb)
    replace HU4 := Lib.hid (HU4.out.grown hb)
    have HU5 := Lib.hid (hu.weaken (B' := w5.heap.size) H0.out.size)
    have HT5 := Lib.hid (show ∀ g, u5.ownBlock = some g → w9.heap.size ≤ g ∧ g < w10.heap.size from OwnsM.lt hu)
    have HS5 := Lib.hid hb.size
    replace HB := Lib.hid (HB.out.trans (hb.mono HB.out.size))
    replace H0 := Lib.hid (H0.out.trans (hb.mono H0.out.size))
    clear hu hb
    go_wp2_with fail
    refine (HL2.out _ (HX.out.grown HB.out) (HY.out.grown HB.out)).mono ?_
    rintro e w11 ⟨u6, rfl, hu, hb⟩
    replace HU1 := Lib.hid (HU1.out.grown hb)
    replace HU2 := Lib.hid (HU2.out.grown hb)
    replace HU3 := Lib.hid (HU3.out.grown hb)
    replace HU4 := Lib.hid (HU4.out.grown hb)
    replace HU5 := Lib.hid (HU5.out.grown hb)
    have HU6 := Lib.hid (hu.weaken (B' := w5.heap.size) H0.out.size)
    have HT6 := Lib.hid (show ∀ g, u6.ownBlock = some g → w10.heap.size ≤ g ∧ g < w11.heap.size from OwnsM.lt hu)
    have HS6 := Lib.hid hb.size
    replace HB := Lib.hid (HB.out.trans (hb.mono HB.out.size))
    replace H0 := Lib.hid (H0.out.trans (hb.mono H0.out.size))
    clear hu hb
    clear HTr HWi HJ1 HJ2 HL1 HL2
    obtain ⟨R1, hR1⟩ : ∃ R, R = VecMath.trim x.l := ⟨_, rfl⟩
    rw [← hR1] at HU1
    have hl1 : R1.length ≤ 200 := by rw [hR1]; exact Nat.le_trans (VecMath.trim_len _) (by omega)
    obtain ⟨q1, d1, rfl⟩ := OwnsM.shape HU1.out
    clear hR1
    obtain ⟨R2, hR2⟩ : ∃ R, R = VecMath.with_ x.l r 7 := ⟨_, rfl⟩
    rw [← hR2] at HU2
    have hl2 : R2.length ≤ 200 := by rw [hR2]; exact Nat.le_trans (with_len lx) (by omega)
    obtain ⟨q2, d2, rfl⟩ := OwnsM.shape HU2.out
    clear hR2
    obtain ⟨R3, hR3⟩ : ∃ R, R = VecMath.join (lists [x]) := ⟨_, rfl⟩
    rw [← hR3] at HU3
    have hl3 : R3.length ≤ 200 := by rw [hR3]; exact join_len (vs := [x]) (k := 200) (fun v hv => by obtain rfl := List.mem_singleton.1 hv; omega)
    obtain ⟨q3, d3, rfl⟩ := OwnsM.shape HU3.out
    clear hR3
    obtain ⟨R4, hR4⟩ : ∃ R, R = VecMath.join (lists [x, y]) := ⟨_, rfl⟩
    rw [← hR4] at HU4
    have hl4 : R4.length ≤ 200 := by rw [hR4]; exact join_len (vs := [x, y]) (k := 200) (pair_all (P := fun v => v.l.length ≤ 200) (by omega) (by omega))
    obtain ⟨q4, d4, rfl⟩ := OwnsM.shape HU4.out
    clear hR4
    obtain ⟨R5, hR5⟩ : ∃ R, R = VecMath.least (lists [x]) := ⟨_, rfl⟩
    rw [← hR5] at HU5
    have hl5 : R5.length ≤ 200 := by rw [hR5]; exact least_len (vs := [x]) (k := 200) (fun v hv => by obtain rfl := List.mem_singleton.1 hv; omega)
    obtain ⟨q5, d5, rfl⟩ := OwnsM.shape HU5.out
    clear hR5
    obtain ⟨R6, hR6⟩ : ∃ R, R = VecMath.least (lists [y, x]) := ⟨_, rfl⟩
    rw [← hR6] at HU6
    have hl6 : R6.length ≤ 200 := by rw [hR6]; exact least_len (vs := [y, x]) (k := 200) (pair_all (P := fun v => v.l.length ≤ 200) (by omega) (by omega))
    obtain ⟨q6, d6, rfl⟩ := OwnsM.shape HU6.out
    clear hR6
    obtain ⟨rs, hrs⟩ : ∃ rs : List (Value × List Int), rs = [(.slice q1 R1.length d1, R1), (.slice q2 R2.length d2, R2), (.slice q3 R3.length d3, R3), (.slice q4 R4.length d4, R4), (.slice q5 R5.length d5, R5), (.slice q6 R6.length d6, R6)] := ⟨_, rfl⟩
    have HLive := Lib.hid (show Live rs w5.heap.size w11 0 from by
      rw [hrs]
      intro k x hk _
      match k, hk with
      | 0, hk => obtain rfl := Option.some.inj hk; exact HU1.out
      | 1, hk => obtain rfl := Option.some.inj hk; exact HU2.out
      | 2, hk => obtain rfl := Option.some.inj hk; exact HU3.out
      | 3, hk => obtain rfl := Option.some.inj hk; exact HU4.out
      | 4, hk => obtain rfl := Option.some.inj hk; exact HU5.out
      | 5, hk => obtain rfl := Option.some.inj hk; exact HU6.out
      | k + 6, hk => simp at hk)
    have HSep := Lib.hid (show Sep rs from by
      rw [hrs]
      have s1 := HS1.out; have s2 := HS2.out; have s3 := HS3.out; have s4 := HS4.out; have s5 := HS5.out; have s6 := HS6.out
      simp only [Sep, List.pairwise_cons, List.mem_cons, List.not_mem_nil, or_false, List.Pairwise.nil, and_true, forall_eq_or_imp, forall_eq, false_imp_iff, implies_true]
      have t1 := HT1.out; have t2 := HT2.out; have t3 := HT3.out; have t4 := HT4.out; have t5 := HT5.out; have t6 := HT6.out
      refine ⟨⟨?_, ?_, ?_, ?_, ?_⟩, ⟨?_, ?_, ?_, ?_⟩, ⟨?_, ?_, ?_⟩, ⟨?_, ?_⟩, ?_⟩ <;> intro g h1 h2 <;> (first | (have a := t1 g h1) | (have a := t2 g h1) | (have a := t3 g h1) | (have a := t4 g h1) | (have a := t5 g h1)) <;> (first | (have b := t6 g h2) | (have b := t5 g h2) | (have b := t4 g h2) | (have b := t3 g h2) | (have b := t2 g h2)) <;> omega)
    have HBnd := Lib.hid (show ∀ x ∈ rs, x.2.length ≤ 200 ∧ ∀ g, x.1.ownBlock = some g → g < w11.heap.size from by
      rw [hrs]
      have s1 := HS1.out; have s2 := HS2.out; have s3 := HS3.out; have s4 := HS4.out; have s5 := HS5.out; have s6 := HS6.out
      simp only [List.mem_cons, List.not_mem_nil, or_false, forall_eq_or_imp, forall_eq]
      refine ⟨⟨hl1, fun g h => ?_⟩, ⟨hl2, fun g h => ?_⟩, ⟨hl3, fun g h => ?_⟩, ⟨hl4, fun g h => ?_⟩, ⟨hl5, fun g h => ?_⟩, ⟨hl6, fun g h => ?_⟩⟩
      · have := HT1.out g h; omega
      · have := HT2.out g h; omega
      · have := HT3.out g h; omega
      · have := HT4.out g h; omega
      · have := HT5.out g h; omega
      · have := HT6.out g h; omega)
    have HRs := Lib.hid hrs
    clear hrs
    go_wp2_with fail
    obtain ⟨G, hG⟩ : ∃ G, G = w11.heap.size := ⟨_, rfl⟩
    obtain ⟨W12, hW12⟩ : ∃ W12, W12 = w11.alloc (.cells #[.slice q1 R1.length d1, .slice q2 R2.length d2, .slice q3 R3.length d3, .slice q4 R4.length d4, .slice q5 R5.length d5, .slice q6 R6.length d6] 26) := ⟨_, rfl⟩
    rw [← hW12]
    have HRow := Lib.hid (show W12.heap[G]? = some (.cells (rs.map (·.1)).toArray 26 (0, 0)) from by rw [hW12, hG, heap_alloc_new, HRs.out]; rfl)
    have HLv := Lib.hid (show Live rs w5.heap.size W12 0 from fun k x hk h => by rw [hW12]; exact (HLive.out k x hk h).alloc _)
    have H12 := Lib.hid (show Below w5.heap.size w5 W12 from by rw [hW12]; exact H0.out.alloc H0.out.size _)
    have HLen := Lib.hid (show rs.length = 6 from by rw [HRs.out]; rfl)
    rw [← hG] at HBnd ⊢
    have hGb : w5.heap.size ≤ G := by rw [hG]; exact H0.out.size
    clear hG hW12 HLive H0 HRs
    go_loopg [45] 6 (fun gh s45 wx => ∃ i : Nat, i + gh = 6 ∧ s45 = .int .i64 (i : Int) ∧ Below w5.heap.size w5 wx ∧ Live rs w5.heap.size wx i ∧ wx.heap[G]? = some (.cells (rs.map (·.1)).toArray 26 (0, 0)))
    case atStart => exact ⟨0, by omega, by go_num, H12.out, HLv.out, HRow.out⟩
    case round =>
      obtain ⟨i, hi, rfl, hb, hlv, hrow⟩ := hrel
      have HB0 := Lib.hid hb
      have HLr := Lib.hid hlv
      have HRr := Lib.hid hrow
      clear hb hlv hrow H12 HLv HRow
      by_cases hi6 : i < 6
      · have t1 : decide ((i : Int) < 6) = true := decide_eq_true (by omega)
        have t1' : decide (i < 6) = true := decide_eq_true hi6
        obtain ⟨⟨u, R⟩, hu⟩ : ∃ u, rs[i]? = some u := ⟨_, List.getElem?_eq_getElem (by rw [HLen.out]; exact hi6)⟩
        have ho := HLr.out i _ hu (Nat.le_refl _)
        obtain ⟨hRl, hub⟩ := HBnd.out _ (List.mem_of_getElem? hu)
        have hcu : wr.cell? ⟨G, i, none⟩ = some u := by rw [cell_of_row wr G i _ _ (0, 0) HRr.out]; simp [hu]
        have HU := Lib.hid hu
        have HUb := Lib.hid hub
        simp only at ho hRl
        obtain ⟨q, d, rfl⟩ := OwnsM.shape ho
        have hroom : R.length ≤ d := NewVec.room (B := w5.heap.size) ho
        have HO := Lib.hid (ho.alloc (.cells #[.int .i64 9] 3))
        have HBa := Lib.hid (HB0.out.alloc HB0.out.size (.cells #[.int .i64 9] 3))
        obtain ⟨n, hn⟩ : ∃ n, n = R.length := ⟨_, rfl⟩
        rw [← hn] at hcu hRl hroom HO
        have HNn := Lib.hid hn
        clear hu ho hub hn
        have HLt := Lib.hid (show ∀ k, (Value.slice q n d).ownBlock = some k → w5.heap.size ≤ k ∧ k < wr.heap.size from HNn.out ▸ OwnsM.lt (HLr.out i _ HU.out (Nat.le_refl _)))
        go_wp2_with (at_builtin; refine wpList_append_far rfl _ _ 26 rfl w5.heap.size 3 ii (.int .i64 0) 8 Try.underlying26 hii hi0 hi1 hi2 rfl _ n _ rfl HO.out ⟨_, 0, none⟩ 1 1 [.int .i64 9] rfl rfl (one_put _ _ _ _ (by simp)) (fun u hu => by simp at hu; subst hu; rfl) (by unfold maxLen; omega) (by omega) HBa.out.size ?_; intro v2 W13 hown hgrow hfar; obtain ⟨g, cap2, rfl, hg1, hg2, hnc, hcm, hcells, hfree⟩ := OwnsM.open hown (by omega); have HK := Lib.hid (grown_alloc hgrow); have HFar := Lib.hid (show (Value.slice q n d).ownBlock = some g ∨ wr.heap.size ≤ g from (hfar g rfl).imp id (fun h => Nat.le_of_succ_le (by simpa using h))); have HHas := Lib.hid (show Has W13 g (n + 1) from has_of hcells hfree (by rw [List.length_append, List.length_map, ← HNn.out]; rfl)); clear hown hgrow hfar hcells hfree)
        go_loopg [59] (n + 1) (fun gh s59 wx => ∃ j : Nat, j + gh = n + 1 ∧ s59 = .int .i64 (j : Int) ∧ wr.grownBy wx (Value.slice q n d).ownBlock ∧ Has wx g (n + 1))
        case atStart => exact ⟨0, by omega, by go_num, HK.out, HHas.out⟩
        case round =>
          obtain ⟨j, hj, rfl, hk, hhas⟩ := hrel
          have HKr := Lib.hid hk
          have HHr := Lib.hid hhas
          clear hk hhas HK HHas
          by_cases hjn : j < n + 1
          · have q1 : decide ((j : Int) < (n : Int) + 1) = true := decide_eq_true (by omega)
            have q1' : decide (j < n + 1) = true := decide_eq_true hjn
            obtain ⟨⟨u, hcu⟩, hfu⟩ := HHr.out j hjn
            go_wp2
            go_roundg (n + 1 - (j + 1))
            case measure => omega
            case rel => exact ⟨j + 1, by omega, by go_num, grown_set HKr.out HFar.out, HHr.out.set⟩
          · have q1 : decide ((j : Int) < (n : Int) + 1) = false := decide_eq_false (by omega)
            have q1' : decide (j < n + 1) = false := decide_eq_false hjn
            go_wp2
            go_roundg (6 - (i + 1))
            case measure => omega
            case rel =>
              refine ⟨i + 1, by omega, by go_num, HB0.out.grown HKr.out HB0.out.size (fun k hk => (HLt.out k hk).1), fun k x hx hk => ?_, ?_⟩
              · refine OwnsM.kept (HLr.out k x hx (by omega)) HKr.out ?_
                cases h : x.1.ownBlock with
                | none => exact Or.inl rfl
                | some g' =>
                  refine Or.inr fun e => ?_
                  exact sep_ne HSep.out HU.out hx (by omega) g' (by rw [← HNn.out]; exact e.symm) h
              · refine (HKr.out.block G ?_ ?_).trans HRr.out
                · exact (Array.getElem?_eq_some_iff.1 HRr.out).1
                · intro e
                  have := HUb.out G (by show (Value.slice q R.length d).ownBlock = some G; rw [← HNn.out]; exact e.symm)
                  omega
      · have t1 : decide ((i : Int) < 6) = false := decide_eq_false (by omega)
        have t1' : decide (i < 6) = false := decide_eq_false hi6
        have HBw := Lib.hid (HB5.out.trans (HB0.out.mono HB5.out.size))
        obtain ⟨p4, c4, hv4, hz4, _⟩ := HV4.out.slice (HX.out.fits)
        obtain ⟨p5, c5, hv5, hz5, _⟩ := HV5.out.slice (HY.out.fits)
        have HS4 := Lib.hid (same_below x.p p4 x.c c4 x.l wr (HX.out.grown HBw.out) (hz4.grown HB0.out) (by omega))
        have HS5 := Lib.hid (fun w1 (hb : Below wr.heap.size wr w1) => same_below y.p p5 y.c c5 y.l w1 ((HY.out.grown HBw.out).grown hb) ((hz5.grown HB0.out).grown hb) (by omega))
        rw [← HNx.out] at hv4 HS4
        rw [← HNy.out] at hv5 HS5
        subst hv4 hv5
        clear hz4 hz5 HV4 HV5
        go_wp2_with fail
        refine HS4.out.mono ?_
        rintro e w13 ⟨rfl, hb13⟩
        go_wp2_with fail
        refine (HS5.out _ hb13).mono ?_
        rintro e w14 ⟨rfl, hb14⟩
        go_wp2_with fail
        go_ret
        exact ⟨rfl, HBw.out.trans ((hb13.trans (hb14.mono hb13.size)).mono HBw.out.size)⟩
end Go.Proofs.Ytkdjfeaaojecdaa
