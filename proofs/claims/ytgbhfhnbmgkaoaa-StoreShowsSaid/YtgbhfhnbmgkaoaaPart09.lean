/-
  Texts of one claim, merged.
  StoreRef4: The document's own Sweep and Shows of chapter 16. The conditions: the rows lie in memory; at most 50,000.
  StoreRef5: The document's own Shows of chapter 16. The conditions: the rows lie in memory; at most 50,000.
  StoreRef6: The document's own Keys and Lives of chapter 16. The conditions: the rows lie in memory; at most 50,000.
-/
import Derived.Test.YtgbhfhnbmgkaoaaPart08
import Derived.Deep.Cut
import Derived.Deep.CutRange
namespace Go.Proofs.Ytgbhfhnbmgkaoaa
open Go.RowKit TextNat RegMath

theorem info_refrow : (Try.prog.info? 78).map (fun i => (i.zero, i.size, i.bytes)) = some (some (.agg #[.string ⟨#[]⟩, .string ⟨#[]⟩, .int .i64 0, .int .i64 0, .string ⟨#[]⟩, .bool false, .int .i64 0]), 7, 80) := by kernel_rfl
theorem ownS_made {w : World} {B g : Nat} {T : TypeId} (hg : w.heap[g]? = some (.cells #[] T (0, 0))) (hB : B ≤ g) : OwnS T w B (.slice (some ⟨g, 0, none⟩) 0 0) [] :=
  ⟨rfl, .inr ⟨g, 0, #[], rfl, hB, hg, Nat.le_refl _, by unfold maxLen; omega, rfl, rfl⟩⟩
/-- What a sweep leaves. -/
def keptV (f : Int) (x : RowV) : Bool := !x.cell.gone || decide (f < x.cell.time)
def sweepV (xs : List RowV) (f : Int) : List RowV := xs.filter (keptV f)
theorem take_filter {p : RowV → Bool} {xs : List RowV} {i : Nat} {x : RowV} (h : xs[i]? = some x) : (xs.take (i + 1)).filter p = (xs.take i).filter p ++ (if p x = true then [x] else []) := by
  rw [List.take_add_one, h, List.filter_append]
  congr 1
  show List.filter p [x] = _
  by_cases hp : p x = true
  · rw [if_pos hp, List.filter_cons_of_pos hp]
    rfl
  · rw [if_neg hp, List.filter_cons_of_neg hp]
    rfl
theorem kept_no {f : Int} {x : RowV} (h : keptV f x = false) : x.cell.gone = true ∧ decide (f < x.cell.time) = false := by
  unfold keptV at h
  rw [Bool.or_eq_false_iff, Bool.not_eq_false'] at h
  exact h
theorem kept_yes {f : Int} {x : RowV} (h : keptV f x = true) : x.cell.gone = false ∨ (x.cell.gone = true ∧ decide (f < x.cell.time) = true) := by
  unfold keptV at h
  cases hg : x.cell.gone with
  | false => exact .inl rfl
  | true =>
    rw [hg] at h
    exact .inr ⟨rfl, by simpa using h⟩
theorem sweep_r (xs : List RowV) (f : Int) : StoreMath.sweep (xs.map RowV.r) f = (sweepV xs f).map RowV.r := by
  unfold StoreMath.sweep sweepV
  rw [List.filter_map]
  rfl
set_option maxRecDepth 100000 in
set_option maxHeartbeats 4000000 in
theorem refSweep16 (b : Nat) (xs : List RowV) (f : Int) (w : World) (h : RefSto w b xs) (hn : xs.length ≤ 50000) :
    Calls Try.prog 15 #[.pointer (some ⟨b, 0, none⟩), .int .i64 f] w fun e w' => e = .returned (.int .i64 ((xs.length : Int) - ((sweepV xs f).length : Int))) ∧ RefStoX w w' b xs (sweepV xs f) ∧ But b w w' := by
  have HR := Lib.hid h
  obtain ⟨N, hN⟩ : ∃ N, N = xs.length := ⟨_, rfl⟩
  have HN := Lib.hid hN
  obtain ⟨W, hW⟩ : ∃ W, W = w.alloc (.cells #[] 78) := ⟨_, rfl⟩
  have HB0 := Lib.hid (show Below w.heap.size w W by rw [hW]; exact (Below.refl _ _).alloc (Nat.le_refl _) _)
  have HO0 := Lib.hid (show OwnS 78 W w.heap.size (.slice (some ⟨w.heap.size, 0, none⟩) 0 0) [] from ownS_made (by rw [hW]; exact heap_alloc_new w _) (Nat.le_refl _))
  obtain ⟨pp, c, h1, h2, h3, h4⟩ := h
  have HL := Lib.hid h1
  have HI := Lib.hid h4
  have HC := Lib.hid (And.intro h2 h3)
  have HLt := Lib.hid h1.lt
  have HW := Lib.hid hW
  rw [← hN] at hn HL ⊢
  clear h1 h2 h3 h4 hN hW
  go_enter Try.func15, Try.ntmps15
  go_wp2_with fail
  rw [← HW.out]
  go_loopg [5, 6] N (fun gh s5 s6 wx => ∃ i : Nat, i + gh = N ∧ s6 = .int .i64 (i : Int) ∧ Hid (OwnS 78 wx w.heap.size s5 ((xs.take i).filter (keptV f))) ∧ Hid (Below w.heap.size w wx))
  case atStart => exact ⟨0, by omega, by go_num, Lib.hid HO0.out, Lib.hid HB0.out⟩
  case round =>
    obtain ⟨i, hi, rfl, HO, HB⟩ := hrel
    rename World => W1
    have l1 := HL.out.below HB.out
    have x0 := Lies.cell (i := 0) l1 rfl
    by_cases hlt : i < N
    · have t1 : decide ((i : Int) < (N : Int)) = true := decide_eq_true (by omega)
      have t1' : decide (i < N) = true := decide_eq_true hlt
      have q0 : (i : Int) < (N : Int) := by omega
      obtain ⟨x, hx⟩ : ∃ x, xs[i]? = some x := ⟨_, List.getElem?_eq_getElem (by rw [← HN.out]; exact hlt)⟩
      obtain ⟨b1, o1, rfl⟩ := HI.out.addr (by rw [← HN.out]; omega)
      obtain ⟨d0, d1, d2, d3, d4, d5, d6⟩ := (HI.out.grown HB.out).look hx
      have HT := Lib.hid (take_filter (p := keptV f) hx)
      have HIn := Lib.hid (And.intro hi hlt)
      have HLn := Lib.hid (show ((xs.take i).filter (keptV f)).length ≤ 50000 from Nat.le_trans (List.length_filter_le _ _) (by rw [List.length_take]; omega))
      have HKp := Lib.hid (show keptV f x = (!x.cell.gone || decide (f < x.cell.time)) from rfl)
      have hone : RowsIn (W1.alloc (.cells x.cells.toArray 78)) (some ⟨W1.heap.size, 0, none⟩) [x] := one_rows (Lies.new W1 x.cells _)
      have hal : Below W1.heap.size W1 (W1.alloc (.cells x.cells.toArray 78)) := (Below.refl _ _).alloc (Nat.le_refl _) _
      have HON := Lib.hid hone
      have HAl := Lib.hid hal
      obtain ⟨p5, c5, hs5, _, _⟩ := HO.out.shape
      subst hs5
      obtain ⟨xs1, xk, ⟨xt, xr, xv, xg, xl⟩⟩ := x
      simp only [RowV.cells] at d0 d1 d2 d3 d4 d5 d6 HKp HT HON HAl
      clear hx hi hlt hone hal
      cases hk : keptV f ⟨xs1, xk, ⟨xt, xr, xv, xg, xl⟩⟩ with
      | false =>
        rw [hk] at HKp HT
        replace HT := Lib.hid (HT.out.trans (by rw [if_neg (by decide), List.append_nil]))
        obtain ⟨hg, ht⟩ : xg = true ∧ decide (f < xt) = false := kept_no hk
        subst hg
        clear hk
        go_wp2
        go_roundg (N - (i + 1))
        case measure => have := HIn.out; omega
        case rel => exact ⟨i + 1, by have := HIn.out; omega, by go_num, by rw [HT.out]; exact HO, HB⟩
      | true =>
        rw [hk] at HKp HT
        replace HT := Lib.hid (HT.out.trans (by rw [if_pos rfl]))
        have HBa := Lib.hid (HB.out.trans (HAl.out.mono HB.out.size))
        have HOa := Lib.hid (HO.out.below HAl.out)
        have hcs : xg = false ∨ (xg = true ∧ decide (f < xt) = true) := kept_yes hk
        clear hk
        rcases hcs with rfl | ⟨rfl, ht⟩
        all_goals
          go_wp2_with (at_builtin; refine app_rows rfl _ _ 28 78 info_refrow Try.underlying28 rfl w.heap.size _ _ [_] rfl HOa.out (some ⟨W1.heap.size, 0, none⟩) 1 1 rfl rfl HON.out (by have := HLn.out; show _ + 1 ≤ 100000; omega) HBa.out.size ?_; intro v5 w5 h1 h2 _ _; have HO5 := Lib.hid h1; have HB5 := Lib.hid (HBa.out.trans h2); clear h1 h2)
          go_roundg (N - (i + 1))
          case measure => have := HIn.out; omega
          case rel => exact ⟨i + 1, by have := HIn.out; omega, by go_num, by rw [HT.out]; exact HO5, HB5⟩
    · have t1 : decide ((i : Int) < (N : Int)) = false := decide_eq_false (by omega)
      have t1' : decide (i < N) = false := decide_eq_false hlt
      have HT := Lib.hid (show (xs.take i).filter (keptV f) = sweepV xs f by rw [List.take_of_length_le (by rw [← HN.out]; omega)]; rfl)
      rw [HT.out] at HO
      obtain ⟨p5, c5, rfl, hc5, hm5⟩ := HO.out.shape
      obtain ⟨M, hM⟩ : ∃ M, M = (sweepV xs f).length := ⟨_, rfl⟩
      rw [← hM]
      have HM := Lib.hid hM
      have f0 := Lies.free l1 0
      have HML := Lib.hid (show M ≤ N by rw [hM, HN.out]; exact List.length_filter_le _ _)
      have n1 : IntKind.i64.wrap ((N : Int) - (M : Int)) = (N : Int) - (M : Int) := by rw [IntKind.wrap_i64]; have := HML.out; omega
      have HC5 := Lib.hid (And.intro hc5 hm5)
      have HL1 := Lib.hid l1
      clear hlt hi hM hc5 hm5 l1
      go_wp2
      go_ret
      refine ⟨by rw [← HM.out]; rfl, ⟨p5, c5, ?_, HC5.out.1, HC5.out.2, ?_, .inl (new_set HO.out (Nat.le_refl _))⟩, ?_⟩
      · rw [← HM.out]
        exact HL1.out.set 0 _
      · intro j y hy
        obtain ⟨b2, o2, hp, hh⟩ := HO.out.rows j y hy
        refine ⟨b2, o2, hp, fun m u hu => ?_⟩
        have hc := hh m u hu
        refine ((But.set b 0 W1 _).cell (World.block_lt_of_cell? W1 _ hc) (fun e => ?_)).trans hc
        subst hp
        clear n1
        have g1 : w.heap.size ≤ b2 := (World.ownsRow.lt HO.out b2 rfl).1
        have g2 : b < w.heap.size := HLt.out
        have g3 : b2 = b := e
        omega
      · exact (But.of HB.out).trans (But.set b 0 W1 _)
end Go.Proofs.Ytgbhfhnbmgkaoaa
namespace Go.Proofs.Ytgbhfhnbmgkaoaa
open Go.RowKit TextNat RegMath

/-- Does a row show? -/
def showV (xs : List RowV) (x : RowV) : Bool := visV x.cell && visV (headV xs x.session)
def showsV (xs : List RowV) : List RowV := xs.filter (showV xs)
theorem shows_r (xs : List RowV) : StoreMath.shows (xs.map RowV.r) = (showsV xs).map RowV.r := by
  unfold StoreMath.shows showsV
  rw [List.filter_map]
  congr 1
  refine List.filter_congr fun x _ => ?_
  show (StoreMath.visible x.cell.c && StoreMath.visible (StoreMath.head (xs.map RowV.r) (nats x.session))) = showV xs x
  rw [head_v, visV_c, visV_c]
  rfl
set_option maxRecDepth 100000 in
set_option maxHeartbeats 4000000 in
theorem refShows16 (b : Nat) (xs : List RowV) (w : World) (h : RefSto w b xs) (hn : xs.length ≤ 50000) :
    Calls Try.prog 42 #[.pointer (some ⟨b, 0, none⟩)] w fun e w' => (∃ v, e = .returned v ∧ OwnS 78 w' w.heap.size v (showsV xs)) ∧ Below w.heap.size w w' := by
  have HR := Lib.hid h
  obtain ⟨N, hN⟩ : ∃ N, N = xs.length := ⟨_, rfl⟩
  have HN := Lib.hid hN
  obtain ⟨W, hW⟩ : ∃ W, W = w.alloc (.cells #[] 78) := ⟨_, rfl⟩
  have HB0 := Lib.hid (show Below w.heap.size w W by rw [hW]; exact (Below.refl _ _).alloc (Nat.le_refl _) _)
  have HO0 := Lib.hid (show OwnS 78 W w.heap.size (.slice (some ⟨w.heap.size, 0, none⟩) 0 0) [] from ownS_made (by rw [hW]; exact heap_alloc_new w _) (Nat.le_refl _))
  have HHd := Lib.hid (fun s w1 (hb : Below w.heap.size w w1) => refHead16 b xs s w1 (h.below hb))
  obtain ⟨pp, c, h1, h2, h3, h4⟩ := h
  have HL := Lib.hid h1
  have HI := Lib.hid h4
  have HC := Lib.hid (And.intro h2 h3)
  have HW := Lib.hid hW
  rw [← hN] at hn HL
  clear h1 h2 h3 h4 hN hW
  go_enter Try.func42, Try.ntmps42
  go_wp2_with fail
  rw [← HW.out]
  go_loopg [3, 4] N (fun gh s3 s4 wx => ∃ i : Nat, i + gh = N ∧ s4 = .int .i64 (i : Int) ∧ Hid (OwnS 78 wx w.heap.size s3 ((xs.take i).filter (showV xs))) ∧ Hid (Below w.heap.size w wx))
  case atStart => exact ⟨0, by omega, by go_num, Lib.hid HO0.out, Lib.hid HB0.out⟩
  case round =>
    obtain ⟨i, hi, rfl, HO, HB⟩ := hrel
    rename World => W1
    have l1 := HL.out.below HB.out
    have x0 := Lies.cell (i := 0) l1 rfl
    by_cases hlt : i < N
    · have t1 : decide ((i : Int) < (N : Int)) = true := decide_eq_true (by omega)
      have t1' : decide (i < N) = true := decide_eq_true hlt
      have q0 : (i : Int) < (N : Int) := by omega
      obtain ⟨x, hx⟩ : ∃ x, xs[i]? = some x := ⟨_, List.getElem?_eq_getElem (by rw [← HN.out]; exact hlt)⟩
      obtain ⟨b1, o1, rfl⟩ := HI.out.addr (by rw [← HN.out]; omega)
      have HX := Lib.hid hx
      obtain ⟨d0, d1, d2, d3, d4, d5, d6⟩ := (HI.out.grown HB.out).look hx
      have HT := Lib.hid (take_filter (p := showV xs) hx)
      have HIn := Lib.hid (And.intro hi hlt)
      have HLn := Lib.hid (show ((xs.take i).filter (showV xs)).length ≤ 50000 from Nat.le_trans (List.length_filter_le _ _) (by rw [List.length_take]; omega))
      have HKp := Lib.hid (show showV xs x = (visV x.cell && visV (headV xs x.session)) from rfl)
      have HVx := Lib.hid (fun w => refVisible15 x.cell w)
      have HVh := Lib.hid (fun w => refVisible15 (headV xs x.session) w)
      have HHx := Lib.hid (HHd.out x.session)
      have HON := Lib.hid (fun (W2 : World) => show RowsIn (W2.alloc (.cells x.cells.toArray 78)) (some ⟨W2.heap.size, 0, none⟩) [x] from one_rows (Lies.new W2 x.cells _))
      have HAl := Lib.hid (fun (W2 : World) => show Below W2.heap.size W2 (W2.alloc (.cells x.cells.toArray 78)) from (Below.refl _ _).alloc (Nat.le_refl _) _)
      obtain ⟨p5, c5, hs5, _, _⟩ := HO.out.shape
      subst hs5
      obtain ⟨hv, hvE⟩ : ∃ hv, hv = visV (headV xs x.session) := ⟨_, rfl⟩
      rw [← hvE] at HKp
      rw [show (decide (0 < (headV xs x.session).time) && !(headV xs x.session).gone) = hv from hvE.symm] at HVh
      obtain ⟨hd, hdE⟩ : ∃ hd, hd = headV xs x.session := ⟨_, rfl⟩
      rw [← hdE] at HVh HHx
      obtain ⟨xs1, xk, ⟨xt, xr, xv, xg, xl⟩⟩ := x
      simp only [RowV.cells, RegV.val] at d0 d1 d2 d3 d4 d5 d6 HKp HT HON HAl HVx HHx HVh
      clear hx hi hlt hvE hdE l1
      cases hvx : visV ⟨xt, xr, xv, xg, xl⟩ with
      | false =>
        rw [show (decide (0 < xt) && !xg) = false from hvx] at HVx
        rw [hvx] at HKp
        replace HT := Lib.hid (HT.out.trans (by rw [if_neg (by rw [HKp.out]; simp), List.append_nil]))
        clear hvx
        go_wp2_with (go_at_call 60; refine (HVx.out _).mono ?_; rintro e w5 ⟨rfl, hb⟩; have HB5 := Lib.hid (HB.out.trans (hb.mono HB.out.size)); have HO5 := Lib.hid (HO.out.below hb); clear hb)
        go_roundg (N - (i + 1))
        case measure => have := HIn.out; omega
        case rel => exact ⟨i + 1, by have := HIn.out; omega, by go_num, by rw [HT.out]; exact HO5, HB5⟩
      | true =>
        rw [show (decide (0 < xt) && !xg) = true from hvx] at HVx
        rw [hvx] at HKp
        clear hvx
        cases hv with
        | false =>
          replace HT := Lib.hid (HT.out.trans (by rw [if_neg (by rw [HKp.out]; decide), List.append_nil]))
          go_wp2_with fail
          refine (HVx.out _).mono ?_
          rintro e w5 ⟨rfl, hb⟩
          have HB5 := Lib.hid (HB.out.trans (hb.mono HB.out.size))
          have HO5 := Lib.hid (HO.out.below hb)
          clear hb x0 d0 d1 d2 d3 d4 d5 d6
          have x0 := Lies.cell (i := 0) (HL.out.below HB5.out) rfl
          obtain ⟨d0, d1, d2, d3, d4, d5, d6⟩ := (HI.out.grown HB5.out).look HX.out
          go_wp2_with (first
            | (go_at_call 38; refine (HHx.out _ HB5.out).mono ?_; rintro e w6 ⟨rfl, hb⟩; have HB6 := Lib.hid (HB5.out.trans (hb.mono HB5.out.size)); have HO6 := Lib.hid (HO5.out.below hb); clear hb)
            | (go_at_call 60; refine (HVh.out _).mono ?_; rintro e w7 ⟨rfl, hb⟩; have HB7 := Lib.hid (HB6.out.trans (hb.mono HB6.out.size)); have HO7 := Lib.hid (HO6.out.below hb); clear hb))
          go_roundg (N - (i + 1))
          case measure => have := HIn.out; omega
          case rel => exact ⟨i + 1, by have := HIn.out; omega, by go_num, by rw [HT.out]; exact HO7, HB7⟩
        | true =>
          replace HT := Lib.hid (HT.out.trans (by rw [if_pos (by rw [HKp.out]; rfl)]))
          go_wp2_with fail
          refine (HVx.out _).mono ?_
          rintro e w5 ⟨rfl, hb⟩
          have HB5 := Lib.hid (HB.out.trans (hb.mono HB.out.size))
          have HO5 := Lib.hid (HO.out.below hb)
          clear hb x0 d0 d1 d2 d3 d4 d5 d6
          have x0 := Lies.cell (i := 0) (HL.out.below HB5.out) rfl
          obtain ⟨d0, d1, d2, d3, d4, d5, d6⟩ := (HI.out.grown HB5.out).look HX.out
          go_wp2_with fail
          refine (HHx.out _ HB5.out).mono ?_
          rintro e w6 ⟨rfl, hb⟩
          have HB6 := Lib.hid (HB5.out.trans (hb.mono HB5.out.size))
          have HO6 := Lib.hid (HO5.out.below hb)
          clear hb x0 d0 d1 d2 d3 d4 d5 d6
          go_wp2_with fail
          refine (HVh.out _).mono ?_
          rintro e w7 ⟨rfl, hb⟩
          have HB7 := Lib.hid (HB6.out.trans (hb.mono HB6.out.size))
          have HO7 := Lib.hid (HO6.out.below hb)
          clear hb
          have x0 := Lies.cell (i := 0) (HL.out.below HB7.out) rfl
          obtain ⟨d0, d1, d2, d3, d4, d5, d6⟩ := (HI.out.grown HB7.out).look HX.out
          have HBa := Lib.hid (HB7.out.trans ((HAl.out w7).mono HB7.out.size))
          have HOa := Lib.hid (HO7.out.below (HAl.out w7))
          go_wp2_with (at_builtin; refine app_rows rfl _ _ 28 78 info_refrow Try.underlying28 rfl w.heap.size _ _ [_] rfl HOa.out (some ⟨w7.heap.size, 0, none⟩) 1 1 rfl rfl (HON.out w7) (by have := HLn.out; show _ + 1 ≤ 100000; omega) HBa.out.size ?_; intro v8 w8 h1 h2 _ _; have HO8 := Lib.hid h1; have HB8 := Lib.hid (HBa.out.trans h2); clear h1 h2)
          go_roundg (N - (i + 1))
          case measure => have := HIn.out; omega
          case rel => exact ⟨i + 1, by have := HIn.out; omega, by go_num, by rw [HT.out]; exact HO8, HB8⟩
    · have t1 : decide ((i : Int) < (N : Int)) = false := decide_eq_false (by omega)
      have t1' : decide (i < N) = false := decide_eq_false hlt
      have HT := Lib.hid (show (xs.take i).filter (showV xs) = showsV xs by rw [List.take_of_length_le (by rw [← HN.out]; omega)]; rfl)
      rw [HT.out] at HO
      clear hlt hi l1
      go_wp2
      go_ret
      exact ⟨⟨_, rfl, HO.out⟩, HB.out⟩
end Go.Proofs.Ytgbhfhnbmgkaoaa
namespace Go.Proofs.Ytgbhfhnbmgkaoaa
open Go.RowKit TextNat RegMath

theorem info_text16 : (Try.prog.info? 9).map (fun i => (i.zero, i.size, i.bytes)) = some (some (.string ⟨#[]⟩), 1, 16) := by kernel_rfl
/-- Texts that stand from the address pp on. -/
def TextsAt (w : World) (pp : Option Addr) (ts : List ByteArray) : Prop := ∀ (i : Nat) (x : ByteArray), ts[i]? = some x → ∃ b off, pp = some ⟨b, off, none⟩ ∧ w.cell? ⟨b, off + i, none⟩ = some (.string x)
theorem TextsAt.grown {w w' : World} {pp : Option Addr} {ts : List ByteArray} (h : TextsAt w pp ts) (hb : Below w.heap.size w w') : TextsAt w' pp ts := fun i a ha => by
  obtain ⟨b, off, hp, hc⟩ := h i a ha
  exact ⟨b, off, hp, (hb.cell (p := ⟨b, off + i, none⟩) (World.block_lt_of_cell? w _ hc)).trans hc⟩
/-- A row of one's own that holds these texts. -/
def OwnT16 (w : World) (B : Nat) (v : Value) (A : List ByteArray) : Prop := w.ownsRow B 9 1 v A.length (A.map Value.string)
theorem OwnT16.nil (w : World) (B : Nat) : OwnT16 w B (.slice none 0 0) [] := World.ownsRow_nil w B _ 1
theorem OwnT16.shape {w : World} {B : Nat} {v : Value} {A : List ByteArray} (h : OwnT16 w B v A) : ∃ p c, v = .slice p A.length c ∧ A.length ≤ c ∧ c ≤ 9223372036854775807 := by
  rcases h.2 with ⟨rfl, h0⟩ | ⟨g, cap, cur, rfl, _, _, h1, h2, _⟩
  · exact ⟨none, 0, by rw [h0], by omega, by omega⟩
  · exact ⟨_, _, rfl, h1, by unfold maxLen at h2; omega⟩
theorem OwnT16.below {w w' : World} {B : Nat} {v : Value} {A : List ByteArray} (h : OwnT16 w B v A) (hb : Below w.heap.size w w') : OwnT16 w' B v A := by
  refine ⟨h.1, ?_⟩
  rcases h.2 with h2 | ⟨g, cap, cur, h3, h4, h5, h6⟩
  · exact .inl h2
  · exact .inr ⟨g, cap, cur, h3, h4, (hb.block g (Array.getElem?_eq_some_iff.1 h5).1).trans h5, h6⟩
theorem OwnT16.texts {w : World} {B n c : Nat} {p : Option Addr} {A : List ByteArray} (h : OwnT16 w B (.slice p n c) A) : TextsAt w p A := fun i a ha => by
  have hi := (List.getElem?_eq_some_iff.1 ha).1
  rcases h.2 with ⟨_, h2⟩ | ⟨g, cap, cur, h3, h4, h5, h6⟩
  · omega
  · have hv : Value.slice p n c = .slice (some ⟨g, 0, none⟩) A.length cap := h3
    obtain ⟨rfl, rfl, rfl⟩ : p = some ⟨g, 0, none⟩ ∧ n = A.length ∧ c = cap := by simpa using hv
    have h' : w.ownsRow B 9 1 (.slice (some ⟨g, 0, none⟩) A.length c) A.length (A.map Value.string) := h
    refine ⟨g, 0, rfl, ?_⟩
    rw [Nat.zero_add, h'.cellAt _ (by omega), List.getElem?_map, ha]
    rfl
theorem ownT16_made {w : World} {B g : Nat} (hg : w.heap[g]? = some (.cells #[] 9 (0, 0))) (hB : B ≤ g) : OwnT16 w B (.slice (some ⟨g, 0, none⟩) 0 0) [] :=
  ⟨rfl, .inr ⟨g, 0, #[], rfl, hB, hg, Nat.le_refl _, by unfold maxLen; omega, rfl, rfl⟩⟩
/-- append of one text onto a row of one's own, as one operation. -/
theorem app_text16 {ops : Array Oper} {rest : List Oper} {o : Oper} {ac : Act} {Q : Exit → Act → World → Prop} {w : World} (hgd : o.guard = none) (s x : Operand)
    (ho : o.op = .call { callee := .builtin .append, args := #[s, x], argTypes := #[56, 56] })
    (B : Nat) (v : Value) (A : List ByteArray) (a : ByteArray) (hs : ac.eval s = v) (hown : OwnT16 w B v A) (g c : Nat) (hx : ac.eval x = .slice (some ⟨g, 0, none⟩) 1 c)
    (hnews : w.cell? ⟨g, 0, none⟩ = some (.string a)) (hz : A.length ≤ 100000) (hB : B ≤ w.heap.size)
    (h : ∀ v' w', OwnT16 w' B v' (A ++ [a]) → Below B w w' → wpList Try.prog ops Q rest (ac.put o.dst v') w') : wpList Try.prog ops Q (o :: rest) ac w := by
  obtain ⟨ii, hii, hi0, hi1, hi2⟩ := info_parts info_text16
  refine wpList_keep hgd s x 56 ho B 9 ii _ 1 16 Try.underlying56 hii hi0 hi1 hi2 rfl (by decide) v A.length (A.map Value.string) hs hown (some ⟨g, 0, none⟩) 1 c [.string a] hx rfl (fun j u hu => ?_) (fun u hu => ?_) (by unfold maxLen; omega) (by omega) hB ?_
  · have hj : j = 0 := by have := (List.getElem?_eq_some_iff.1 hu).1; simp at this; exact this
    subst hj
    obtain rfl : Value.string a = u := by simpa using hu
    exact ⟨_, rfl, by simpa [Addr.add] using hnews⟩
  · rw [List.mem_singleton.1 hu]
    rfl
  · intro v' w' h1 h2 h3 _
    refine h v' w' ?_ ((Below.refl B w).grown h2 hB fun q hq => (World.ownsRow.lt hown q hq).1)
    unfold OwnT16
    rw [List.length_append, List.map_append]
    exact h1
theorem take_map {p : RowV → Bool} {f : RowV → ByteArray} {xs : List RowV} {i : Nat} {x : RowV} (h : xs[i]? = some x) : ((xs.take (i + 1)).filter p).map f = ((xs.take i).filter p).map f ++ (if p x = true then [f x] else []) := by
  rw [take_filter h, List.map_append]
  congr 1
  split <;> rfl
def keyV (s : ByteArray) (x : RowV) : Bool := decide (x.session = s) && (decide (0 < x.key.size) && visV x.cell)
def keysV (xs : List RowV) (s : ByteArray) : List ByteArray := (xs.filter (keyV s)).map RowV.key
def liveV (x : RowV) : Bool := decide (x.key.size = 0) && visV x.cell
def livesV (xs : List RowV) : List ByteArray := (xs.filter liveV).map RowV.session
theorem nats_none (s : ByteArray) : (nats s).isEmpty = decide (s.size = 0) := by
  rw [Bool.eq_iff_iff, List.isEmpty_iff, decide_eq_true_eq, ← nats_len]
  exact ⟨fun h => by rw [h]; rfl, fun h => List.eq_nil_of_length_eq_zero h⟩
theorem keys_r (xs : List RowV) (s : ByteArray) : StoreMath.keys (xs.map RowV.r) (nats s) = (keysV xs s).map nats := by
  unfold StoreMath.keys keysV
  rw [List.filter_map, List.map_map, List.map_map]
  rw [show xs.filter ((fun r : StoreMath.Row => r.k.1 == nats s && (!r.k.2.isEmpty && StoreMath.visible r.c)) ∘ RowV.r) = xs.filter (keyV s) from List.filter_congr fun x _ => by
    show (nats x.session == nats s && (!(nats x.key).isEmpty && StoreMath.visible x.cell.c)) = keyV s x
    unfold keyV
    rw [visV_c, nats_none]
    congr 1
    · rw [Bool.eq_iff_iff, beq_iff_eq, decide_eq_true_eq]
      exact ⟨fun e => by rw [← txt_nats x.session, e, txt_nats], fun e => by rw [e]⟩
    · congr 1
      by_cases h0 : x.key.size = 0
      · rw [decide_eq_true h0, decide_eq_false (by omega)]
        rfl
      · rw [decide_eq_false h0, decide_eq_true (by omega)]
        rfl]
  rfl
theorem lives_r (xs : List RowV) : StoreMath.lives (xs.map RowV.r) = (livesV xs).map nats := by
  unfold StoreMath.lives livesV
  rw [List.filter_map, List.map_map, List.map_map]
  rw [show xs.filter ((fun r : StoreMath.Row => r.k.2.isEmpty && StoreMath.visible r.c) ∘ RowV.r) = xs.filter liveV from List.filter_congr fun x _ => by
    show ((nats x.key).isEmpty && StoreMath.visible x.cell.c) = liveV x
    unfold liveV
    rw [visV_c, nats_none]]
  rfl
set_option maxRecDepth 100000 in
set_option maxHeartbeats 4000000 in
theorem refKeys16 (b : Nat) (xs : List RowV) (s : ByteArray) (w : World) (h : RefSto w b xs) (hn : xs.length ≤ 50000) :
    Calls Try.prog 40 #[.pointer (some ⟨b, 0, none⟩), .string s] w fun e w' => (∃ v, e = .returned v ∧ OwnT16 w' w.heap.size v (keysV xs s)) ∧ Below w.heap.size w w' := by
  obtain ⟨N, hN⟩ : ∃ N, N = xs.length := ⟨_, rfl⟩
  have HN := Lib.hid hN
  obtain ⟨W, hW⟩ : ∃ W, W = w.alloc (.cells #[] 9) := ⟨_, rfl⟩
  have HB0 := Lib.hid (show Below w.heap.size w W by rw [hW]; exact (Below.refl _ _).alloc (Nat.le_refl _) _)
  have HO0 := Lib.hid (show OwnT16 W w.heap.size (.slice (some ⟨w.heap.size, 0, none⟩) 0 0) [] from ownT16_made (by rw [hW]; exact heap_alloc_new w _) (Nat.le_refl _))
  obtain ⟨pp, c, h1, h2, h3, h4⟩ := h
  have HL := Lib.hid h1
  have HI := Lib.hid h4
  have HC := Lib.hid (And.intro h2 h3)
  have HW := Lib.hid hW
  rw [← hN] at hn HL
  clear h1 h2 h3 h4 hN hW
  go_enter Try.func40, Try.ntmps40
  go_wp2_with fail
  rw [← HW.out]
  go_loopg [5, 6] N (fun gh so si wx => ∃ i : Nat, i + gh = N ∧ si = .int .i64 (i : Int) ∧ Hid (OwnT16 wx w.heap.size so (((xs.take i).filter (keyV s)).map RowV.key)) ∧ Hid (Below w.heap.size w wx))
  case atStart => exact ⟨0, by omega, by go_num, Lib.hid HO0.out, Lib.hid HB0.out⟩
  case round =>
    obtain ⟨i, hi, rfl, HO, HB⟩ := hrel
    rename World => W1
    have l1 := HL.out.below HB.out
    have x0 := Lies.cell (i := 0) l1 rfl
    by_cases hlt : i < N
    · have t1 : decide ((i : Int) < (N : Int)) = true := decide_eq_true (by omega)
      have t1' : decide (i < N) = true := decide_eq_true hlt
      have q0 : (i : Int) < (N : Int) := by omega
      obtain ⟨x, hx⟩ : ∃ x, xs[i]? = some x := ⟨_, List.getElem?_eq_getElem (by rw [← HN.out]; exact hlt)⟩
      obtain ⟨b1, o1, rfl⟩ := HI.out.addr (by rw [← HN.out]; omega)
      have HX := Lib.hid hx
      obtain ⟨d0, d1, d2, d3, d4, d5, d6⟩ := (HI.out.grown HB.out).look hx
      have HT := Lib.hid (take_map (p := keyV s) (f := RowV.key) hx)
      have HIn := Lib.hid (And.intro hi hlt)
      have HLn := Lib.hid (show (((xs.take i).filter (keyV s)).map RowV.key).length ≤ 50000 by rw [List.length_map]; exact Nat.le_trans (List.length_filter_le _ _) (by rw [List.length_take]; omega))
      have HVx := Lib.hid (fun w => refVisible15 x.cell w)
      have HAl := Lib.hid (fun (W2 : World) (s : ByteArray) => show Below W2.heap.size W2 (W2.alloc (.cells #[.string s] 9)) from (Below.refl _ _).alloc (Nat.le_refl _) _)
      have HNw := Lib.hid (fun (W2 : World) (s : ByteArray) => show (W2.alloc (.cells #[.string s] 9)).cell? ⟨W2.heap.size, 0, none⟩ = some (.string s) from Lies.cell (i := 0) (Lies.new W2 [.string s] 9) rfl)
      obtain ⟨A, hA⟩ : ∃ A, A = ((xs.take i).filter (keyV s)).map RowV.key := ⟨_, rfl⟩
      rw [← hA] at HO HT HLn
      clear hA
      obtain ⟨p5, c5, hs5, _, _⟩ := HO.out.shape
      subst hs5
      obtain ⟨xs1, xk, ⟨xt, xr, xv, xg, xl⟩⟩ := x
      simp only [RegV.val] at d0 d1 d2 d3 d4 d5 d6 HT HVx
      clear hx hi hlt l1
      by_cases hs : xs1 = s
      · subst hs
        by_cases hk : 0 < xk.size
        · have s1 : decide ((0 : Int) < (xk.size : Int)) = true := decide_eq_true (by omega)
          have s1' : decide (0 < xk.size) = true := decide_eq_true hk
          have hE : keyV xs1 ⟨xs1, xk, ⟨xt, xr, xv, xg, xl⟩⟩ = (true && (true && visV ⟨xt, xr, xv, xg, xl⟩)) := by unfold keyV; simp only; rw [s1']; simp
          cases hvx : visV ⟨xt, xr, xv, xg, xl⟩ with
          | false =>
            rw [show (decide (0 < xt) && !xg) = false from hvx] at HVx
            replace HT := Lib.hid (HT.out.trans (by rw [if_neg (by rw [hE, hvx]; decide), List.append_nil]))
            clear hvx hE hk
            go_wp2_with (go_at_call 60; refine (HVx.out _).mono ?_; rintro e w5 ⟨rfl, hb⟩; have HB5 := Lib.hid (HB.out.trans (hb.mono HB.out.size)); have HO5 := Lib.hid (HO.out.below hb); clear hb)
            go_roundg (N - (i + 1))
            case measure => have := HIn.out; omega
            case rel => exact ⟨i + 1, by have := HIn.out; omega, by go_num, by rw [HT.out]; exact HO5, HB5⟩
          | true =>
            rw [show (decide (0 < xt) && !xg) = true from hvx] at HVx
            replace HT := Lib.hid (HT.out.trans (by rw [if_pos (by rw [hE, hvx]; rfl)]))
            clear hvx hE hk
            go_wp2_with fail
            refine (HVx.out _).mono ?_
            rintro e w5 ⟨rfl, hb⟩
            have HB5 := Lib.hid (HB.out.trans (hb.mono HB.out.size))
            have HO5 := Lib.hid (HO.out.below hb)
            clear hb x0 d0 d1 d2 d3 d4 d5 d6
            have x0 := Lies.cell (i := 0) (HL.out.below HB5.out) rfl
            obtain ⟨d0, d1, d2, d3, d4, d5, d6⟩ := (HI.out.grown HB5.out).look HX.out
            have HBa := Lib.hid (HB5.out.trans ((HAl.out w5 xk).mono HB5.out.size))
            have HOa := Lib.hid (HO5.out.below (HAl.out w5 xk))
            go_wp2_with (at_builtin; refine app_text16 rfl _ _ rfl w.heap.size _ _ xk rfl HOa.out w5.heap.size 1 rfl (HNw.out w5 xk) (by have := HLn.out; omega) HBa.out.size ?_; intro v8 w8 h1 h2; have HO8 := Lib.hid h1; have HB8 := Lib.hid (HBa.out.trans h2); clear h1 h2)
            go_roundg (N - (i + 1))
            case measure => have := HIn.out; omega
            case rel => exact ⟨i + 1, by have := HIn.out; omega, by go_num, by rw [HT.out]; exact HO8, HB8⟩
        · have s1 : decide ((0 : Int) < (xk.size : Int)) = false := decide_eq_false (by omega)
          have s1' : decide (0 < xk.size) = false := decide_eq_false hk
          have hE : keyV xs1 ⟨xs1, xk, ⟨xt, xr, xv, xg, xl⟩⟩ = false := by unfold keyV; simp only; rw [s1']; simp
          replace HT := Lib.hid (HT.out.trans (by rw [if_neg (by rw [hE]; decide), List.append_nil]))
          clear hE hk
          go_wp2
          go_roundg (N - (i + 1))
          case measure => have := HIn.out; omega
          case rel => exact ⟨i + 1, by have := HIn.out; omega, by go_num, by rw [HT.out]; exact HO, HB⟩
      · have k1 := text_list hs
        have k1' : (xs1.toList == s.toList) = false := beq_eq_false_iff_ne.2 k1
        have hE : keyV s ⟨xs1, xk, ⟨xt, xr, xv, xg, xl⟩⟩ = false := by unfold keyV; simp only; rw [decide_eq_false hs]; rfl
        replace HT := Lib.hid (HT.out.trans (by rw [if_neg (by rw [hE]; decide), List.append_nil]))
        clear hE hs
        go_wp2
        go_roundg (N - (i + 1))
        case measure => have := HIn.out; omega
        case rel => exact ⟨i + 1, by have := HIn.out; omega, by go_num, by rw [HT.out]; exact HO, HB⟩
    · have t1 : decide ((i : Int) < (N : Int)) = false := decide_eq_false (by omega)
      have t1' : decide (i < N) = false := decide_eq_false hlt
      have HT := Lib.hid (show ((xs.take i).filter (keyV s)).map RowV.key = keysV xs s by rw [List.take_of_length_le (by rw [← HN.out]; omega)]; rfl)
      rw [HT.out] at HO
      clear hlt hi l1
      go_wp2
      go_ret
      exact ⟨⟨_, rfl, HO.out⟩, HB.out⟩
set_option maxRecDepth 100000 in
set_option maxHeartbeats 4000000 in
theorem refLives16 (b : Nat) (xs : List RowV) (w : World) (h : RefSto w b xs) (hn : xs.length ≤ 50000) :
    Calls Try.prog 41 #[.pointer (some ⟨b, 0, none⟩)] w fun e w' => (∃ v, e = .returned v ∧ OwnT16 w' w.heap.size v (livesV xs)) ∧ Below w.heap.size w w' := by
  obtain ⟨N, hN⟩ : ∃ N, N = xs.length := ⟨_, rfl⟩
  have HN := Lib.hid hN
  obtain ⟨W, hW⟩ : ∃ W, W = w.alloc (.cells #[] 9) := ⟨_, rfl⟩
  have HB0 := Lib.hid (show Below w.heap.size w W by rw [hW]; exact (Below.refl _ _).alloc (Nat.le_refl _) _)
  have HO0 := Lib.hid (show OwnT16 W w.heap.size (.slice (some ⟨w.heap.size, 0, none⟩) 0 0) [] from ownT16_made (by rw [hW]; exact heap_alloc_new w _) (Nat.le_refl _))
  obtain ⟨pp, c, h1, h2, h3, h4⟩ := h
  have HL := Lib.hid h1
  have HI := Lib.hid h4
  have HC := Lib.hid (And.intro h2 h3)
  have HW := Lib.hid hW
  rw [← hN] at hn HL
  clear h1 h2 h3 h4 hN hW
  go_enter Try.func41, Try.ntmps41
  go_wp2_with fail
  rw [← HW.out]
  go_loopg [3, 4] N (fun gh so si wx => ∃ i : Nat, i + gh = N ∧ si = .int .i64 (i : Int) ∧ Hid (OwnT16 wx w.heap.size so (((xs.take i).filter (liveV)).map RowV.session)) ∧ Hid (Below w.heap.size w wx))
  case atStart => exact ⟨0, by omega, by go_num, Lib.hid HO0.out, Lib.hid HB0.out⟩
  case round =>
    obtain ⟨i, hi, rfl, HO, HB⟩ := hrel
    rename World => W1
    have l1 := HL.out.below HB.out
    have x0 := Lies.cell (i := 0) l1 rfl
    by_cases hlt : i < N
    · have t1 : decide ((i : Int) < (N : Int)) = true := decide_eq_true (by omega)
      have t1' : decide (i < N) = true := decide_eq_true hlt
      have q0 : (i : Int) < (N : Int) := by omega
      obtain ⟨x, hx⟩ : ∃ x, xs[i]? = some x := ⟨_, List.getElem?_eq_getElem (by rw [← HN.out]; exact hlt)⟩
      obtain ⟨b1, o1, rfl⟩ := HI.out.addr (by rw [← HN.out]; omega)
      have HX := Lib.hid hx
      obtain ⟨d0, d1, d2, d3, d4, d5, d6⟩ := (HI.out.grown HB.out).look hx
      have HT := Lib.hid (take_map (p := liveV) (f := RowV.session) hx)
      have HIn := Lib.hid (And.intro hi hlt)
      have HLn := Lib.hid (show (((xs.take i).filter (liveV)).map RowV.session).length ≤ 50000 by rw [List.length_map]; exact Nat.le_trans (List.length_filter_le _ _) (by rw [List.length_take]; omega))
      have HVx := Lib.hid (fun w => refVisible15 x.cell w)
      have HAl := Lib.hid (fun (W2 : World) (s : ByteArray) => show Below W2.heap.size W2 (W2.alloc (.cells #[.string s] 9)) from (Below.refl _ _).alloc (Nat.le_refl _) _)
      have HNw := Lib.hid (fun (W2 : World) (s : ByteArray) => show (W2.alloc (.cells #[.string s] 9)).cell? ⟨W2.heap.size, 0, none⟩ = some (.string s) from Lies.cell (i := 0) (Lies.new W2 [.string s] 9) rfl)
      obtain ⟨A, hA⟩ : ∃ A, A = ((xs.take i).filter (liveV)).map RowV.session := ⟨_, rfl⟩
      rw [← hA] at HO HT HLn
      clear hA
      obtain ⟨p5, c5, hs5, _, _⟩ := HO.out.shape
      subst hs5
      obtain ⟨xs1, xk, ⟨xt, xr, xv, xg, xl⟩⟩ := x
      simp only [RegV.val] at d0 d1 d2 d3 d4 d5 d6 HT HVx
      clear hx hi hlt l1
      by_cases hk : xk.size = 0
      · have s1 : ((xk.size : Int) == 0) = true := by rw [beq_iff_eq]; omega
        have s1' : (xk.size == 0) = true := by rw [beq_iff_eq]; exact hk
        have hE : liveV ⟨xs1, xk, ⟨xt, xr, xv, xg, xl⟩⟩ = (true && visV ⟨xt, xr, xv, xg, xl⟩) := by unfold liveV; simp only; rw [decide_eq_true hk]
        cases hvx : visV ⟨xt, xr, xv, xg, xl⟩ with
        | false =>
          rw [show (decide (0 < xt) && !xg) = false from hvx] at HVx
          replace HT := Lib.hid (HT.out.trans (by rw [if_neg (by rw [hE, hvx]; decide), List.append_nil]))
          clear hvx hE hk
          go_wp2_with (go_at_call 60; refine (HVx.out _).mono ?_; rintro e w5 ⟨rfl, hb⟩; have HB5 := Lib.hid (HB.out.trans (hb.mono HB.out.size)); have HO5 := Lib.hid (HO.out.below hb); clear hb)
          go_roundg (N - (i + 1))
          case measure => have := HIn.out; omega
          case rel => exact ⟨i + 1, by have := HIn.out; omega, by go_num, by rw [HT.out]; exact HO5, HB5⟩
        | true =>
          rw [show (decide (0 < xt) && !xg) = true from hvx] at HVx
          replace HT := Lib.hid (HT.out.trans (by rw [if_pos (by rw [hE, hvx]; rfl)]))
          clear hvx hE hk
          go_wp2_with fail
          refine (HVx.out _).mono ?_
          rintro e w5 ⟨rfl, hb⟩
          have HB5 := Lib.hid (HB.out.trans (hb.mono HB.out.size))
          have HO5 := Lib.hid (HO.out.below hb)
          clear hb x0 d0 d1 d2 d3 d4 d5 d6
          have x0 := Lies.cell (i := 0) (HL.out.below HB5.out) rfl
          obtain ⟨d0, d1, d2, d3, d4, d5, d6⟩ := (HI.out.grown HB5.out).look HX.out
          have HBa := Lib.hid (HB5.out.trans ((HAl.out w5 xs1).mono HB5.out.size))
          have HOa := Lib.hid (HO5.out.below (HAl.out w5 xs1))
          go_wp2_with (at_builtin; refine app_text16 rfl _ _ rfl w.heap.size _ _ xs1 rfl HOa.out w5.heap.size 1 rfl (HNw.out w5 xs1) (by have := HLn.out; omega) HBa.out.size ?_; intro v8 w8 h1 h2; have HO8 := Lib.hid h1; have HB8 := Lib.hid (HBa.out.trans h2); clear h1 h2)
          go_roundg (N - (i + 1))
          case measure => have := HIn.out; omega
          case rel => exact ⟨i + 1, by have := HIn.out; omega, by go_num, by rw [HT.out]; exact HO8, HB8⟩
      · have s1 : ((xk.size : Int) == 0) = false := by rw [beq_eq_false_iff_ne]; omega
        have s1' : (xk.size == 0) = false := by rw [beq_eq_false_iff_ne]; exact hk
        have hE : liveV ⟨xs1, xk, ⟨xt, xr, xv, xg, xl⟩⟩ = false := by unfold liveV; simp only; rw [decide_eq_false hk]; rfl
        replace HT := Lib.hid (HT.out.trans (by rw [if_neg (by rw [hE]; decide), List.append_nil]))
        clear hE hk
        go_wp2
        go_roundg (N - (i + 1))
        case measure => have := HIn.out; omega
        case rel => exact ⟨i + 1, by have := HIn.out; omega, by go_num, by rw [HT.out]; exact HO, HB⟩
    · have t1 : decide ((i : Int) < (N : Int)) = false := decide_eq_false (by omega)
      have t1' : decide (i < N) = false := decide_eq_false hlt
      have HT := Lib.hid (show ((xs.take i).filter (liveV)).map RowV.session = livesV xs by rw [List.take_of_length_le (by rw [← HN.out]; omega)]; rfl)
      rw [HT.out] at HO
      clear hlt hi l1
      go_wp2
      go_ret
      exact ⟨⟨_, rfl, HO.out⟩, HB.out⟩
end Go.Proofs.Ytgbhfhnbmgkaoaa
