/-
  Texts of one claim, merged.
  StoreRef4: The document's own Sweep and Shows of chapter 16. The conditions: the rows lie in memory; at most 50,000.
  StoreMakesRows: rows of chapter 16's laws: rows as the program has them. The conditions: the rows lie in memory; at most 50,000.
  StoreRef5: The document's own Shows of chapter 16. The conditions: the rows lie in memory; at most 50,000.
-/
import Derived.Test.YtgbhfhnbmgkaoaaGreatDoorPart08
import Derived.Deep.Cut
import Derived.Deep.CutRange
import Derived.Deep.RegionHeld3
namespace Go.Proofs.YtgbhfhnbmgkaoaaGreatDoor
open Go.RowKit TextNat RegMath

theorem info_refrow : (Tryz.prog.info? 35).map (fun i => (i.zero, i.size, i.bytes)) = some (some (.agg #[.string ⟨#[]⟩, .string ⟨#[]⟩, .int .i64 0, .int .i64 0, .string ⟨#[]⟩, .bool false, .int .i64 0]), 7, 80) := by kernel_rfl
theorem ownS_made {w : World} {B g : Nat} {T : TypeId} (hg : w.heap[g]? = some (.cells #[] T (0, 0))) (hB : B ≤ g) : OwnS T w B (.slice (some ⟨g, 0, none⟩) 0 0) [] :=
  ⟨rfl, .inr ⟨g, 0, #[], rfl, hB, hg, Nat.le_refl _, by unfold maxLen; omega, rfl, rfl⟩⟩
/-- What a sweep leaves. -/
def keptV (f : Int) (x : RowV) : Bool := !x.cell.gone || decide (f < x.cell.time)
def sweepV (xs : List RowV) (f : Int) : List RowV := xs.filter (keptV f)
theorem take_filter {p : RowV → Bool} {xs : List RowV} {i : Nat} {x : RowV} (h : xs[i]? = some x) : (xs.take (i + 1)).filter p = (xs.take i).filter p ++ (if p x = true then [x] else []) := by
  rw [List.take_add_one, h, List.filter_append]
  congr 1
  show List.filter p [x] = _
  by_cases hp : p x = true
  · rw [if_pos hp, List.filter_cons_of_pos hp]
    rfl
  · rw [if_neg hp, List.filter_cons_of_neg hp]
    rfl
theorem kept_no {f : Int} {x : RowV} (h : keptV f x = false) : x.cell.gone = true ∧ decide (f < x.cell.time) = false := by
  unfold keptV at h
  rw [Bool.or_eq_false_iff, Bool.not_eq_false'] at h
  exact h
theorem kept_yes {f : Int} {x : RowV} (h : keptV f x = true) : x.cell.gone = false ∨ (x.cell.gone = true ∧ decide (f < x.cell.time) = true) := by
  unfold keptV at h
  cases hg : x.cell.gone with
  | false => exact .inl rfl
  | true =>
    rw [hg] at h
    exact .inr ⟨rfl, by simpa using h⟩
theorem sweep_r (xs : List RowV) (f : Int) : StoreMath.sweep (xs.map RowV.r) f = (sweepV xs f).map RowV.r := by
  unfold StoreMath.sweep sweepV
  rw [List.filter_map]
  rfl
end Go.Proofs.YtgbhfhnbmgkaoaaGreatDoor
namespace Go.Proofs.YtgbhfhnbmgkaoaaGreatDoor
open Go.RowKit TextNat RegMath

theorem info_storerow : (Tryz.prog.info? 60).map (fun i => (i.zero, i.size, i.bytes)) = some (some (.agg #[.string ⟨#[]⟩, .string ⟨#[]⟩, .int .i64 0, .int .i64 0, .string ⟨#[]⟩, .bool false, .int .i64 0]), 7, 80) := by kernel_rfl
set_option maxRecDepth 100000 in
set_option maxHeartbeats 8000000 in
theorem rows16 (pp : Option Addr) (c : Nat) (xs : List RowV) (w : World) (h : RowsIn w pp xs) (hn : xs.length ≤ 50000) :
    Calls Tryz.prog 7 #[.slice pp xs.length c] w fun e w' => (∃ v, e = .returned v ∧ OwnS 60 w' w.heap.size v xs) ∧ Below w.heap.size w w' := by
  obtain ⟨N, hN⟩ : ∃ N, N = xs.length := ⟨_, rfl⟩
  have HN := Lib.hid hN
  have HI := Lib.hid h
  rw [← hN] at hn ⊢
  clear h hN
  go_enter Tryz.func7, Tryz.ntmps7
  go_wp2_with fail
  go_loopg [3, 9] N (fun gh s3 s9 wx => ∃ i : Nat, i + gh = N ∧ s9 = .int .i64 (i : Int) ∧ Hid (OwnS 60 wx w.heap.size s3 (xs.take i)) ∧ Hid (Below w.heap.size w wx))
  case atStart => exact ⟨0, by omega, by go_num, Lib.hid (OwnS.nil _ _ _), Lib.hid (Below.refl _ _)⟩
  case round =>
    obtain ⟨i, hi, rfl, HO, HB⟩ := hrel
    rename World => W1
    by_cases hlt : i < N
    · have t1 : decide ((i : Int) < (N : Int)) = true := decide_eq_true (by omega)
      have t1' : decide (i < N) = true := decide_eq_true hlt
      have q0 : (i : Int) < (N : Int) := by omega
      obtain ⟨x, hx⟩ : ∃ x, xs[i]? = some x := ⟨_, List.getElem?_eq_getElem (by rw [← HN.out]; exact hlt)⟩
      obtain ⟨b1, o1, rfl⟩ := HI.out.addr (by rw [← HN.out]; omega)
      obtain ⟨d0, d1, d2, d3, d4, d5, d6⟩ := (HI.out.grown HB.out).look hx
      have HX := Lib.hid hx
      have HIn := Lib.hid (And.intro hi hlt)
      have HT := Lib.hid (show xs.take (i + 1) = xs.take i ++ [x] by rw [List.take_add_one, hx]; rfl)
      have HLn := Lib.hid (show (xs.take i).length ≤ 50000 by rw [List.length_take]; omega)
      obtain ⟨A, hA⟩ : ∃ A, A = xs.take i := ⟨_, rfl⟩
      rw [← hA] at HO HT HLn
      obtain ⟨p5, c5, hs5, _, _⟩ := HO.out.shape
      subst hs5
      obtain ⟨x1, xk, ⟨xt, xr, xv, xg, xl⟩⟩ := x
      simp only at d0 d1 d2 d3 d4 d5 d6
      obtain ⟨W2, hW2⟩ : ∃ W2, W2 = W1.alloc (.cells #[.string x1, .string xk, .int .i64 xt, .int .i64 xr, .string xv, .bool xg, .int .i64 xl] 35) := ⟨_, rfl⟩
      obtain ⟨W3, hW3⟩ : ∃ W3, W3 = W2.alloc (.cells #[.string x1, .string xk, .int .i64 0, .int .i64 0, .string ⟨#[]⟩, .bool false, .int .i64 0] 60) := ⟨_, rfl⟩
      obtain ⟨g5, hg5⟩ : ∃ g, g = W1.heap.size := ⟨_, rfl⟩
      obtain ⟨g6, hg6⟩ : ∃ g, g = W1.heap.size + 1 := ⟨_, rfl⟩
      have b2 : Below W1.heap.size W1 W2 := by rw [hW2]; exact (Below.refl _ _).alloc (Nat.le_refl _) _
      have b3 : Below W2.heap.size W2 W3 := by rw [hW3]; exact (Below.refl _ _).alloc (Nat.le_refl _) _
      have sz2 : W2.heap.size = g6 := by rw [hW2, hg6]; simp
      have HL5 := Lib.hid (show Lies W3 g5 [.string x1, .string xk, .int .i64 xt, .int .i64 xr, .string xv, .bool xg, .int .i64 xl] 35 by rw [hg5]; exact Lies.below (by rw [hW2]; exact Lies.new W1 _ _) b3)
      have HL6 := Lib.hid (show Lies W3 g6 [.string x1, .string xk, .int .i64 0, .int .i64 0, .string ⟨#[]⟩, .bool false, .int .i64 0] 60 by rw [← sz2, hW3]; exact Lies.new W2 _ _)
      have HB3 := Lib.hid (b2.trans (b3.mono b2.size))
      have HW := Lib.hid (show W3 = (W1.alloc (.cells #[.string x1, .string xk, .int .i64 xt, .int .i64 xr, .string xv, .bool xg, .int .i64 xl] 35)).alloc (.cells #[.string x1, .string xk, .int .i64 0, .int .i64 0, .string ⟨#[]⟩, .bool false, .int .i64 0] 60) by rw [hW3, hW2])
      have HG5 := Lib.hid hg5
      have HG6 := Lib.hid hg6
      clear hx hi hlt hA hW2 hW3 hg5 hg6 b2 b3 sz2
      go_upto_region 6 with fail
      rw [← HW.out, ← HG6.out, ← HG5.out]
      clear d0 d1 d2 d3 d4 d5 d6
      have r0 := HL5.out.cell (i := 0) rfl; have r1 := HL5.out.cell (i := 1) rfl; have r2 := HL5.out.cell (i := 2) rfl; have r3 := HL5.out.cell (i := 3) rfl; have r4 := HL5.out.cell (i := 4) rfl; have r5 := HL5.out.cell (i := 5) rfl; have r6 := HL5.out.cell (i := 6) rfl
      have s2 := HL6.out.cell (i := 2) rfl; have s3 := HL6.out.cell (i := 3) rfl; have s4 := HL6.out.cell (i := 4) rfl; have s5 := HL6.out.cell (i := 5) rfl; have s6 := HL6.out.cell (i := 6) rfl
      have f2 := HL6.out.free 2; have f3 := HL6.out.free 3; have f4 := HL6.out.free 4; have f5 := HL6.out.free 5; have f6 := HL6.out.free 6
      have n56 : ¬ g5 = g6 := by rw [HG5.out, HG6.out]; omega
      have n65 : ¬ g6 = g5 := by rw [HG5.out, HG6.out]; omega
      go_region
      obtain ⟨W4, hW4⟩ : ∃ W4, W4 = (((((W3.setCell ⟨g6, 2, none⟩ (.int .i64 xt)).setCell ⟨g6, 3, none⟩ (.int .i64 xr)).setCell ⟨g6, 4, none⟩ (.string xv)).setCell ⟨g6, 5, none⟩ (.bool xg)).setCell ⟨g6, 6, none⟩ (.int .i64 xl)) := ⟨_, rfl⟩
      have HL4 := Lib.hid (show Lies W4 g6 [.string x1, .string xk, .int .i64 xt, .int .i64 xr, .string xv, .bool xg, .int .i64 xl] 60 by rw [hW4]; exact ((((HL6.out.set 2 _).set 3 _).set 4 _).set 5 _).set 6 _)
      have hbt : But g6 W3 W4 := by rw [hW4]; exact ((((But.set g6 2 W3 _).trans (But.set g6 3 _ _)).trans (But.set g6 4 _ _)).trans (But.set g6 5 _ _)).trans (But.set g6 6 _ _)
      have HB4 := Lib.hid (show Below W1.heap.size W1 W4 from HB3.out.trans ((hbt.below (Nat.le_of_lt HL6.out.lt)).mono (by rw [HG6.out]; omega)))
      rw [← hW4]
      clear hW4 hbt r0 r1 r2 r3 r4 r5 r6 s2 s3 s4 s5 s6 f2 f3 f4 f5 f6
      have r0 := HL4.out.cell (i := 0) rfl; have r1 := HL4.out.cell (i := 1) rfl; have r2 := HL4.out.cell (i := 2) rfl; have r3 := HL4.out.cell (i := 3) rfl; have r4 := HL4.out.cell (i := 4) rfl; have r5 := HL4.out.cell (i := 5) rfl; have r6 := HL4.out.cell (i := 6) rfl
      have al5 : Below W4.heap.size W4 (W4.alloc (.cells #[.string x1, .string xk, .int .i64 xt, .int .i64 xr, .string xv, .bool xg, .int .i64 xl] 60)) := (Below.refl _ _).alloc (Nat.le_refl _) _
      have HON := Lib.hid (one_rows (a := ⟨x1, xk, ⟨xt, xr, xv, xg, xl⟩⟩) (Lies.new W4 [.string x1, .string xk, .int .i64 xt, .int .i64 xr, .string xv, .bool xg, .int .i64 xl] 60))
      have HOa := Lib.hid (HO.out.below (HB4.out.trans (al5.mono HB4.out.size)))
      have HBa := Lib.hid (HB.out.trans ((HB4.out.trans (al5.mono HB4.out.size)).mono HB.out.size))
      clear al5
      have hz : A.length + [(⟨x1, xk, ⟨xt, xr, xv, xg, xl⟩⟩ : RowV)].length ≤ 100000 := by have := HLn.out; show A.length + 1 ≤ 100000; omega
      go_wp2_with (at_builtin; refine app_rows rfl _ _ 41 60 info_storerow Tryz.underlying41 rfl w.heap.size _ A [⟨x1, xk, ⟨xt, xr, xv, xg, xl⟩⟩] rfl HOa.out (some ⟨W4.heap.size, 0, none⟩) 1 1 rfl rfl HON.out hz HBa.out.size ?_; intro v5 w5 h1 h2 _ _; have HO5 := Lib.hid h1; have HB5 := Lib.hid (HBa.out.drew.trans h2); clear h1 h2)
      go_roundg (N - (i + 1))
      case measure => have := HIn.out; omega
      case rel => exact ⟨i + 1, by have := HIn.out; omega, by go_num, by rw [HT.out]; exact HO5, HB5⟩
    · have t1 : decide ((i : Int) < (N : Int)) = false := decide_eq_false (by omega)
      have t1' : decide (i < N) = false := decide_eq_false hlt
      have HT := Lib.hid (show xs.take i = xs from List.take_of_length_le (by rw [← HN.out]; omega))
      rw [HT.out] at HO
      clear hlt hi
      go_wp2
      go_ret
      exact ⟨⟨_, rfl, HO.out⟩, HB.out⟩
end Go.Proofs.YtgbhfhnbmgkaoaaGreatDoor
namespace Go.Proofs.YtgbhfhnbmgkaoaaGreatDoor
open Go.RowKit TextNat RegMath

/-- Does a row show? -/
def showV (xs : List RowV) (x : RowV) : Bool := visV x.cell && visV (headV xs x.session)
def showsV (xs : List RowV) : List RowV := xs.filter (showV xs)
theorem shows_r (xs : List RowV) : StoreMath.shows (xs.map RowV.r) = (showsV xs).map RowV.r := by
  unfold StoreMath.shows showsV
  rw [List.filter_map]
  congr 1
  refine List.filter_congr fun x _ => ?_
  show (StoreMath.visible x.cell.c && StoreMath.visible (StoreMath.head (xs.map RowV.r) (nats x.session))) = showV xs x
  rw [head_v, visV_c, visV_c]
  rfl
set_option maxRecDepth 100000 in
set_option maxHeartbeats 4000000 in
theorem refShows16 (b : Nat) (xs : List RowV) (w : World) (h : RefSto w b xs) (hn : xs.length ≤ 50000) :
    Calls Tryz.prog 39 #[.pointer (some ⟨b, 0, none⟩)] w fun e w' => (∃ v, e = .returned v ∧ OwnS 35 w' w.heap.size v (showsV xs)) ∧ Below w.heap.size w w' := by
  have HR := Lib.hid h
  obtain ⟨N, hN⟩ : ∃ N, N = xs.length := ⟨_, rfl⟩
  have HN := Lib.hid hN
  obtain ⟨W, hW⟩ : ∃ W, W = w.alloc (.cells #[] 35) := ⟨_, rfl⟩
  have HB0 := Lib.hid (show Below w.heap.size w W by rw [hW]; exact (Below.refl _ _).alloc (Nat.le_refl _) _)
  have HO0 := Lib.hid (show OwnS 35 W w.heap.size (.slice (some ⟨w.heap.size, 0, none⟩) 0 0) [] from ownS_made (by rw [hW]; exact heap_alloc_new w _) (Nat.le_refl _))
  have HHd := Lib.hid (fun s w1 (hb : Below w.heap.size w w1) => refHead16 b xs s w1 (h.below hb))
  obtain ⟨pp, c, h1, h2, h3, h4⟩ := h
  have HL := Lib.hid h1
  have HI := Lib.hid h4
  have HC := Lib.hid (And.intro h2 h3)
  have HW := Lib.hid hW
  rw [← hN] at hn HL
  clear h1 h2 h3 h4 hN hW
  go_enter Tryz.func39, Tryz.ntmps39
  go_wp2_with fail
  rw [← HW.out]
  go_loopg [3, 4] N (fun gh s3 s4 wx => ∃ i : Nat, i + gh = N ∧ s4 = .int .i64 (i : Int) ∧ Hid (OwnS 35 wx w.heap.size s3 ((xs.take i).filter (showV xs))) ∧ Hid (Below w.heap.size w wx))
  case atStart => exact ⟨0, by omega, by go_num, Lib.hid HO0.out, Lib.hid HB0.out⟩
  case round =>
    obtain ⟨i, hi, rfl, HO, HB⟩ := hrel
    rename World => W1
    have l1 := HL.out.below HB.out
    have x0 := Lies.cell (i := 0) l1 rfl
    by_cases hlt : i < N
    · have t1 : decide ((i : Int) < (N : Int)) = true := decide_eq_true (by omega)
      have t1' : decide (i < N) = true := decide_eq_true hlt
      have q0 : (i : Int) < (N : Int) := by omega
      obtain ⟨x, hx⟩ : ∃ x, xs[i]? = some x := ⟨_, List.getElem?_eq_getElem (by rw [← HN.out]; exact hlt)⟩
      obtain ⟨b1, o1, rfl⟩ := HI.out.addr (by rw [← HN.out]; omega)
      have HX := Lib.hid hx
      obtain ⟨d0, d1, d2, d3, d4, d5, d6⟩ := (HI.out.grown HB.out).look hx
      have HT := Lib.hid (take_filter (p := showV xs) hx)
      have HIn := Lib.hid (And.intro hi hlt)
      have HLn := Lib.hid (show ((xs.take i).filter (showV xs)).length ≤ 50000 from Nat.le_trans (List.length_filter_le _ _) (by rw [List.length_take]; omega))
      have HKp := Lib.hid (show showV xs x = (visV x.cell && visV (headV xs x.session)) from rfl)
      have HVx := Lib.hid (fun w => refVisible15 x.cell w)
      have HVh := Lib.hid (fun w => refVisible15 (headV xs x.session) w)
      have HHx := Lib.hid (HHd.out x.session)
      have HON := Lib.hid (fun (W2 : World) => show RowsIn (W2.alloc (.cells x.cells.toArray 35)) (some ⟨W2.heap.size, 0, none⟩) [x] from one_rows (Lies.new W2 x.cells _))
      have HAl := Lib.hid (fun (W2 : World) => show Below W2.heap.size W2 (W2.alloc (.cells x.cells.toArray 35)) from (Below.refl _ _).alloc (Nat.le_refl _) _)
      obtain ⟨p5, c5, hs5, _, _⟩ := HO.out.shape
      subst hs5
      obtain ⟨hv, hvE⟩ : ∃ hv, hv = visV (headV xs x.session) := ⟨_, rfl⟩
      rw [← hvE] at HKp
      rw [show (decide (0 < (headV xs x.session).time) && !(headV xs x.session).gone) = hv from hvE.symm] at HVh
      obtain ⟨hd, hdE⟩ : ∃ hd, hd = headV xs x.session := ⟨_, rfl⟩
      rw [← hdE] at HVh HHx
      obtain ⟨xs1, xk, ⟨xt, xr, xv, xg, xl⟩⟩ := x
      simp only [RowV.cells, RegV.val] at d0 d1 d2 d3 d4 d5 d6 HKp HT HON HAl HVx HHx HVh
      clear hx hi hlt hvE hdE l1
      cases hvx : visV ⟨xt, xr, xv, xg, xl⟩ with
      | false =>
        rw [show (decide (0 < xt) && !xg) = false from hvx] at HVx
        rw [hvx] at HKp
        replace HT := Lib.hid (HT.out.trans (by rw [if_neg (by rw [HKp.out]; simp), List.append_nil]))
        clear hvx
        go_wp2_with (go_at_call 51; refine (HVx.out _).mono ?_; rintro e w5 ⟨rfl, hb⟩; have HB5 := Lib.hid (HB.out.trans (hb.mono HB.out.size)); have HO5 := Lib.hid (HO.out.below hb); clear hb)
        go_roundg (N - (i + 1))
        case measure => have := HIn.out; omega
        case rel => exact ⟨i + 1, by have := HIn.out; omega, by go_num, by rw [HT.out]; exact HO5, HB5⟩
      | true =>
        rw [show (decide (0 < xt) && !xg) = true from hvx] at HVx
        rw [hvx] at HKp
        clear hvx
        cases hv with
        | false =>
          replace HT := Lib.hid (HT.out.trans (by rw [if_neg (by rw [HKp.out]; decide), List.append_nil]))
          go_wp2_with fail
          refine (HVx.out _).mono ?_
          rintro e w5 ⟨rfl, hb⟩
          have HB5 := Lib.hid (HB.out.trans (hb.mono HB.out.size))
          have HO5 := Lib.hid (HO.out.below hb)
          clear hb x0 d0 d1 d2 d3 d4 d5 d6
          have x0 := Lies.cell (i := 0) (HL.out.below HB5.out) rfl
          obtain ⟨d0, d1, d2, d3, d4, d5, d6⟩ := (HI.out.grown HB5.out).look HX.out
          go_wp2_with (first
            | (go_at_call 29; refine (HHx.out _ HB5.out).mono ?_; rintro e w6 ⟨rfl, hb⟩; have HB6 := Lib.hid (HB5.out.trans (hb.mono HB5.out.size)); have HO6 := Lib.hid (HO5.out.below hb); clear hb)
            | (go_at_call 51; refine (HVh.out _).mono ?_; rintro e w7 ⟨rfl, hb⟩; have HB7 := Lib.hid (HB6.out.trans (hb.mono HB6.out.size)); have HO7 := Lib.hid (HO6.out.below hb); clear hb))
          go_roundg (N - (i + 1))
          case measure => have := HIn.out; omega
          case rel => exact ⟨i + 1, by have := HIn.out; omega, by go_num, by rw [HT.out]; exact HO7, HB7⟩
        | true =>
          replace HT := Lib.hid (HT.out.trans (by rw [if_pos (by rw [HKp.out]; rfl)]))
          go_wp2_with fail
          refine (HVx.out _).mono ?_
          rintro e w5 ⟨rfl, hb⟩
          have HB5 := Lib.hid (HB.out.trans (hb.mono HB.out.size))
          have HO5 := Lib.hid (HO.out.below hb)
          clear hb x0 d0 d1 d2 d3 d4 d5 d6
          have x0 := Lies.cell (i := 0) (HL.out.below HB5.out) rfl
          obtain ⟨d0, d1, d2, d3, d4, d5, d6⟩ := (HI.out.grown HB5.out).look HX.out
          go_wp2_with fail
          refine (HHx.out _ HB5.out).mono ?_
          rintro e w6 ⟨rfl, hb⟩
          have HB6 := Lib.hid (HB5.out.trans (hb.mono HB5.out.size))
          have HO6 := Lib.hid (HO5.out.below hb)
          clear hb x0 d0 d1 d2 d3 d4 d5 d6
          go_wp2_with fail
          refine (HVh.out _).mono ?_
          rintro e w7 ⟨rfl, hb⟩
          have HB7 := Lib.hid (HB6.out.trans (hb.mono HB6.out.size))
          have HO7 := Lib.hid (HO6.out.below hb)
          clear hb
          have x0 := Lies.cell (i := 0) (HL.out.below HB7.out) rfl
          obtain ⟨d0, d1, d2, d3, d4, d5, d6⟩ := (HI.out.grown HB7.out).look HX.out
          have HBa := Lib.hid (HB7.out.trans ((HAl.out w7).mono HB7.out.size))
          have HOa := Lib.hid (HO7.out.below (HAl.out w7))
          go_wp2_with (at_builtin; refine app_rows rfl _ _ 22 35 info_refrow Tryz.underlying22 rfl w.heap.size _ _ [_] rfl HOa.out (some ⟨w7.heap.size, 0, none⟩) 1 1 rfl rfl (HON.out w7) (by have := HLn.out; show _ + 1 ≤ 100000; omega) HBa.out.size ?_; intro v8 w8 h1 h2 _ _; have HO8 := Lib.hid h1; have HB8 := Lib.hid (HBa.out.trans h2); clear h1 h2)
          go_roundg (N - (i + 1))
          case measure => have := HIn.out; omega
          case rel => exact ⟨i + 1, by have := HIn.out; omega, by go_num, by rw [HT.out]; exact HO8, HB8⟩
    · have t1 : decide ((i : Int) < (N : Int)) = false := decide_eq_false (by omega)
      have t1' : decide (i < N) = false := decide_eq_false hlt
      have HT := Lib.hid (show (xs.take i).filter (showV xs) = showsV xs by rw [List.take_of_length_le (by rw [← HN.out]; omega)]; rfl)
      rw [HT.out] at HO
      clear hlt hi l1
      go_wp2
      go_ret
      exact ⟨⟨_, rfl, HO.out⟩, HB.out⟩
end Go.Proofs.YtgbhfhnbmgkaoaaGreatDoor
