/-
  Of: a store of rows, its cells in a map of maps. The conditions: at most 1000 rows, texts of at most 1000 bytes.
-/
import Derived.Test.YtgbhfhnbmgkaoaaGreatDoorNest6
import Derived.Deep.RegionHeld3
import Derived.Deep.LoopGhost
namespace Go.Proofs.YtgbhfhnbmgkaoaaGreatDoor
open Go.RowKit Go.Maps TextNat RegMath

theorem rises_take {xs : List RowV} {n : Nat} (h : ∀ j, j + 1 < n → risesAt xs j = true) : StoreMath.Rising ((xs.take n).map RowV.r) := by
  refine wrong_rises ?_
  cases n with
  | zero => simp [wrongV]
  | succ n =>
    refine wrong_none (i := n) (fun j hj => ?_) (by rw [List.length_take]; omega)
    have := h j (by omega)
    unfold risesAt at this ⊢
    rw [List.getElem?_take_of_lt (by omega), List.getElem?_take_of_lt (by omega)]
    exact this
/-- A row that is above all that were put. -/
theorem next_perm {xs : List RowV} {i : Nat} {x : RowV} (hx : xs[i]? = some x) (hr : StoreMath.Rising ((xs.take (i + 1)).map RowV.r)) : ((⟨x.session, x.key, x.cell⟩ : RowV) :: (xs.take i).filter fun r => !atV x.session x.key r).Perm (xs.take (i + 1)) := by
  have ht : xs.take (i + 1) = xs.take i ++ [x] := by rw [List.take_add_one, hx]; rfl
  have hp : (xs.take (i + 1)).Pairwise fun a b => StoreMath.klt a.r.k b.r.k = true := List.pairwise_map.1 hr
  rw [ht] at hp ⊢
  rw [List.filter_eq_self.2 fun y hy => by
    have := (List.pairwise_append.1 hp).2.2 y hy x (by simp)
    unfold atV
    rw [decide_eq_false fun ⟨e1, e2⟩ => by
      have e3 : y.r.k = x.r.k := by show (nats y.session, nats y.key) = (nats x.session, nats x.key); rw [e1, e2]
      rw [e3, StoreMath.strict_key.irr] at this
      cases this]
    rfl]
  exact (List.perm_append_comm (l₁ := [x]) (l₂ := xs.take i))
theorem full_next {os os8 : List (ByteArray × Nat)} {xs xs8 : List RowV} {s k : ByteArray} {c : RegV} (hf : Full16 os xs) (h : ∀ p ∈ os8, p ∈ os ∨ p.1 = s) (hp : ((⟨s, k, c⟩ : RowV) :: xs.filter fun r => !atV s k r).Perm xs8) : Full16 os8 xs8 := fun p hp8 => by
  have key : ∃ x ∈ ((⟨s, k, c⟩ : RowV) :: xs.filter fun r => !atV s k r), x.session = p.1 := by
    rcases h p hp8 with h | h
    · obtain ⟨x, hx, e⟩ := hf p h
      by_cases e2 : p.1 = s
      · exact ⟨_, List.mem_cons_self .., e2.symm⟩
      · exact ⟨x, List.mem_cons_of_mem _ (List.mem_filter.2 ⟨hx, by unfold atV; rw [decide_eq_false (fun h => e2 (e.symm.trans h.1))]; rfl⟩), e⟩
    · exact ⟨_, List.mem_cons_self .., h.symm⟩
  obtain ⟨x, hx, e⟩ := key
  exact ⟨x, hp.mem_iff.1 hx, e⟩
theorem below_step {W w w' : World} (h : Below W.heap.size W w) (hb : Below w.heap.size w w') : Below W.heap.size W w' := h.trans (hb.mono h.size)
theorem gtr_text16 (a b : ByteArray) (w : World) : (binOp .gtr 9 (.string a) (.string b)).run Tryz.prog w = .ok (.bool (lex (nats b) (nats a))) w := by
  by_cases h : a = b
  · subst h
    rw [show binOp .gtr 9 (.string a) (.string a) = pure (.bool (!(Go.Op.bytesLess a.toList a.toList || a.toList == a.toList))) by simp [binOp, Go.Op.stringOp], lex_irr]
    simp
  · exact gtr_text h w
set_option maxRecDepth 100000 in
theorem above16 (x y : RowV) (w : World) : Calls Tryz.prog 17 #[.agg x.cells.toArray, .agg y.cells.toArray] w fun e w' => e = .returned (.bool (StoreMath.klt y.r.k x.r.k)) ∧ Below w.heap.size w w' := by
  rw [klt_v]
  obtain ⟨xs, xk, xc⟩ := x
  obtain ⟨ys, yk, yc⟩ := y
  have HB := Lib.hid (((Below.refl w.heap.size w).alloc (Nat.le_refl _) (.cells #[.string xs, .string xk, .int .i64 xc.time, .int .i64 xc.region, .string xc.value, .bool xc.gone, .int .i64 xc.life] 60)).alloc (by simp) (.cells #[.string ys, .string yk, .int .i64 yc.time, .int .i64 yc.region, .string yc.value, .bool yc.gone, .int .i64 yc.life] 60))
  have q1 := fun w => gtr_text16 xs ys w
  have q2 := fun w => gtr_text16 xk yk w
  obtain ⟨p1, hp1⟩ : ∃ p, p = lex (nats ys) (nats xs) := ⟨_, rfl⟩
  obtain ⟨p2, hp2⟩ : ∃ p, p = lex (nats yk) (nats xk) := ⟨_, rfl⟩
  simp only [RowV.cells] at *
  rw [← hp1] at q1 ⊢
  rw [← hp2] at q2 ⊢
  by_cases h : ys = xs
  · subst h
    rw [lex_irr] at hp1
    subst hp1
    rw [decide_eq_true rfl]
    clear hp2
    cases p2
    all_goals
      go_enter Tryz.func17, Tryz.ntmps17
      go_wp2
      go_ret
      exact ⟨rfl, HB.out⟩
  · rw [decide_eq_false h]
    have k := text_list (fun e : xs = ys => h e.symm)
    have k' : (xs.toList == ys.toList) = false := beq_eq_false_iff_ne.2 k
    clear h hp1 hp2
    cases p1
    all_goals
      go_enter Tryz.func17, Tryz.ntmps17
      go_wp2
      go_ret
      exact ⟨rfl, HB.out⟩
/-- What Of answers. -/
def OfSays (w : World) (xs : List RowV) (r : Option Nat) (e : Ending) (w' : World) : Prop := match r with
  | none => ∃ b S, e = .returned (.tuple #[ptr16 b, .nilIface]) ∧ sto16.at_ w' b S xs ∧ ∀ k, S k → w.heap.size ≤ k
  | some i => ∃ x, e = .returned (.tuple #[.pointer none, x]) ∧ ErrAt w' name16 ((i + 1 : Nat) : Int) 1 x
set_option maxRecDepth 100000 in
set_option maxHeartbeats 8000000 in
theorem of16 : Of16 sto16 := by
  intro p c xs w hI hc hcm hl hts
  suffices hsuf : Calls Tryz.prog 6 #[.slice p xs.length c] w (fun e w' => OfSays w xs (wrongV xs) e w' ∧ Below w.heap.size w w') from hsuf
  obtain ⟨N, hN⟩ : ∃ N, N = xs.length := ⟨_, rfl⟩
  have HN := Lib.hid hN
  have HI0 := Lib.hid hI
  have HTx := Lib.hid hts
  have HNw := Lib.hid (fun w => new16 w)
  rw [← hN] at hc hl ⊢
  clear hI hts hN
  go_enter Tryz.func6, Tryz.ntmps6
  go_wp2_with fail
  refine (HNw.out w).mono ?_
  rintro e w1 ⟨⟨b, S, rfl, ⟨m0, os0, hF, hfu, rfl⟩, hS⟩, hb⟩
  have HS1 := Lib.hid hS
  have HF1 := Lib.hid hF
  have HU1 := Lib.hid hfu
  have HB1 := Lib.hid hb
  clear hS hF hb hfu
  go_wp2_with fail
  go_loopg [10] N (fun gh s10 wx => ∃ (i : Nat) (mm : Option Nat) (os : List (ByteArray × Nat)), i + gh = N ∧ s10 = .int .i64 (i : Int) ∧ Hid (Nest wx b mm os (xs.take i)) ∧ Hid (Full16 os (xs.take i)) ∧ Hid (∀ k, NestS b mm os k → w.heap.size ≤ k) ∧ Hid (Below w.heap.size w wx) ∧ Hid (∀ j, j + 1 < i → risesAt xs j = true))
  case atStart => exact ⟨0, m0, os0, by omega, by go_num, HF1, HU1, HS1, HB1, Lib.hid (fun j hj => by omega)⟩
  case round =>
    obtain ⟨i, mm, os, hi, rfl, HNs, HFu, HSt, HB, HJ⟩ := hrel
    rename World => W1
    by_cases hlt : i < N
    case neg =>
      have q1 : decide ((i : Int) < (N : Int)) = false := decide_eq_false (by omega)
      have q1' : decide (i < N) = false := decide_eq_false hlt
      obtain rfl : i = N := by omega
      have HW := Lib.hid (show wrongV xs = none from wrong_none (i := i - 1) (fun j hj => HJ.out j (by omega)) (by rw [← HN.out]; omega))
      have e : xs.take i = xs := List.take_of_length_le (by rw [HN.out]; exact Nat.le_refl _)
      rw [e] at HNs HFu
      clear hlt hi e
      go_wp2
      go_ret2
      rw [HW.out]
      exact ⟨⟨b, _, rfl, ⟨mm, os, HNs.out, HFu.out, rfl⟩, HSt.out⟩, HB.out⟩
    case pos =>
    have q1 : decide ((i : Int) < (N : Int)) = true := decide_eq_true (by omega)
    have q1' : decide (i < N) = true := decide_eq_true hlt
    have dI : (i : Int) < (N : Int) := by omega
    obtain ⟨x, hx⟩ : ∃ x, xs[i]? = some x := ⟨_, List.getElem?_eq_getElem (by rw [← HN.out]; exact hlt)⟩
    have HXi := Lib.hid hx
    have HTe := Lib.hid (HTx.out x (List.mem_of_getElem? hx))
    have HOl := Lib.hid (show os.length ≤ 1000 from Nat.le_trans (few_sessions HNs.out.keys HFu.out) (by rw [List.length_take]; omega))
    have HEl := Lib.hid (show (entS (xs.take i) x.session).length ≤ 1000 by
      unfold entS
      rw [List.length_map]
      exact Nat.le_trans (List.length_filter_le _ _) (by rw [List.length_take]; omega))
    obtain ⟨pb, off, rfl⟩ := HI0.out.addr (by rw [← HN.out]; omega)
    obtain ⟨y0, y1, y2, y3, y4, y5, y6⟩ := (HI0.out.grown HB.out).look hx
    have HIn := Lib.hid (And.intro hi hlt)
    clear hx hi hlt
    obtain ⟨Z, hZ⟩ : ∃ Z, Z = W1.heap.size := ⟨_, rfl⟩
    obtain ⟨W2, hW2⟩ : ∃ W2, W2 = W1.alloc (.cells #[.string x.session, .string x.key, .int .i64 x.cell.time, .int .i64 x.cell.region, .string x.cell.value, .bool x.cell.gone, .int .i64 x.cell.life] 60) := ⟨_, rfl⟩
    have b2 : Below W1.heap.size W1 W2 := by rw [hW2]; exact (Below.refl _ _).alloc (Nat.le_refl _) _
    have LZ := Lib.hid (show Lies W2 Z x.cells 60 by rw [hW2, hZ]; exact Lies.new W1 x.cells _)
    have HN2 := Lib.hid (HNs.out.below b2)
    have HB2 := Lib.hid (HB.out.trans (b2.mono HB.out.size))
    have HZb := Lib.hid (show ∀ k, NestS b mm os k → k < Z from fun k hk => by rw [hZ]; exact HNs.out.lt k hk)
    go_upto_region 5 with fail
    rw [← hW2, ← hZ]
    have HC3 := Lib.hid (fun w => copied16 x.cell (by have := HTe.out.2.2; omega) w)
    simp only [RegV.val] at HC3
    clear hW2 hZ b2 y0 y1 y2 y3 y4 y5 y6
    by_cases hi0 : i = 0
    case pos =>
      have t0 : decide ((0 : Int) < (i : Int)) = false := decide_eq_false (by omega)
      have t0' : decide (0 < i) = false := decide_eq_false (by omega)
      have HJ2 := Lib.hid (show ∀ j, j + 1 < i + 1 → risesAt xs j = true from fun j hj => by omega)
      clear hi0
      go_quiet (fail)
      go_upto_region 7 with fail
      obtain ⟨V, hV⟩ : ∃ V, V = W2.drewN nq := ⟨_, rfl⟩
      have hbV : Below W2.heap.size W2 V := by rw [hV]; exact below_drewN _ (Below.refl _ _)
      have HNv := Lib.hid (HN2.out.below hbV)
      have LZv := Lib.hid (LZ.out.below hbV)
      have HBv := Lib.hid (HB2.out.trans (hbV.mono HB2.out.size))
      rw [← hV]
      clear hV hbV
      have HZ7 := Lib.hid (show ∀ w', Lies w' Z x.cells 60 → w'.cell? ⟨Z, 0, none⟩ = some (.string x.session) ∧ w'.cell? ⟨Z, 1, none⟩ = some (.string x.key) ∧ w'.cell? ⟨Z, 2, none⟩ = some (.int .i64 x.cell.time) ∧ w'.cell? ⟨Z, 3, none⟩ = some (.int .i64 x.cell.region) ∧ w'.cell? ⟨Z, 4, none⟩ = some (.string x.cell.value) ∧ w'.cell? ⟨Z, 5, none⟩ = some (.bool x.cell.gone) ∧ w'.cell? ⟨Z, 6, none⟩ = some (.int .i64 x.cell.life) from fun w' hb => ⟨hb.cell (i := 0) rfl, hb.cell (i := 1) rfl, hb.cell (i := 2) rfl, hb.cell (i := 3) rfl, hb.cell (i := 4) rfl, hb.cell (i := 5) rfl, hb.cell (i := 6) rfl⟩)
      have HD7 := Lib.hid (show Below V.heap.size V V.drew from (Below.refl _ _).drew)
      refine wp_region_held_drew (S := fun w' => w'.cell? ⟨Z, 0, none⟩ = some (.string x.session) ∧ w'.cell? ⟨Z, 1, none⟩ = some (.string x.key) ∧ w'.cell? ⟨Z, 2, none⟩ = some (.int .i64 x.cell.time) ∧ w'.cell? ⟨Z, 3, none⟩ = some (.int .i64 x.cell.region) ∧ w'.cell? ⟨Z, 4, none⟩ = some (.string x.cell.value) ∧ w'.cell? ⟨Z, 5, none⟩ = some (.bool x.cell.gone) ∧ w'.cell? ⟨Z, 6, none⟩ = some (.int .i64 x.cell.life)) (by kernel_rfl) (HZ7.out _ (LZv.out.below HD7.out)) (fun hs0 => ?_)
      refine wpAnyH_take (i := 0) (v := ?_) (by simp only [List.getElem?_toArray, List.getElem?_cons_zero]; rfl) (by kernel_rfl) (by kernel_rfl) (by kernel_rfl) (by intro _ _ _ h; exact h) (Or.inl ⟨by rfl, ?_⟩) (by assumption) ?_
      rotate_left
      · (intro w hSw; (try dsimp only at hSw); go_simp <;> with_reducible rfl)
      try simp only [Act.put, List.setIfInBounds_toArray, List.set_cons_zero, List.set_cons_succ]
      refine wpAnyH_take (i := 1) (v := ?_) (by simp only [List.getElem?_toArray, List.getElem?_cons_succ, List.getElem?_cons_zero]; rfl) (by kernel_rfl) (by kernel_rfl) (by kernel_rfl) (by intro _ _ _ h; exact h) (Or.inl ⟨by rfl, ?_⟩) (by assumption) ?_
      rotate_left
      · (intro w hSw; (try dsimp only at hSw); go_simp <;> with_reducible rfl)
      try simp only [Act.put, List.setIfInBounds_toArray, List.set_cons_zero, List.set_cons_succ]
      refine wpAnyH_take (i := 2) (v := ?_) (by simp only [List.getElem?_toArray, List.getElem?_cons_succ, List.getElem?_cons_zero]; rfl) (by kernel_rfl) (by kernel_rfl) (by kernel_rfl) (by intro _ _ _ h; exact h) (Or.inl ⟨by rfl, ?_⟩) (by assumption) ?_
      rotate_left
      · (intro w hSw; (try dsimp only at hSw); go_simp <;> with_reducible rfl)
      try simp only [Act.put, List.setIfInBounds_toArray, List.set_cons_zero, List.set_cons_succ]
      refine wpAnyH_take (i := 3) (v := ?_) (by simp only [List.getElem?_toArray, List.getElem?_cons_succ, List.getElem?_cons_zero]; rfl) (by kernel_rfl) (by kernel_rfl) (by kernel_rfl) (by intro _ _ _ h; exact h) (Or.inl ⟨by rfl, ?_⟩) (by assumption) ?_
      rotate_left
      · (intro w hSw; (try dsimp only at hSw); go_simp <;> with_reducible rfl)
      try simp only [Act.put, List.setIfInBounds_toArray, List.set_cons_zero, List.set_cons_succ]
      refine wpAnyH_take (i := 4) (v := ?_) (by simp only [List.getElem?_toArray, List.getElem?_cons_succ, List.getElem?_cons_zero]; rfl) (by kernel_rfl) (by kernel_rfl) (by kernel_rfl) (by intro _ _ _ h; exact h) (Or.inl ⟨by rfl, ?_⟩) (by assumption) ?_
      rotate_left
      · (intro w hSw; (try dsimp only at hSw); go_simp <;> with_reducible rfl)
      try simp only [Act.put, List.setIfInBounds_toArray, List.set_cons_zero, List.set_cons_succ]
      refine wpAnyH_take (i := 5) (v := ?_) (by simp only [List.getElem?_toArray, List.getElem?_cons_succ, List.getElem?_cons_zero]; rfl) (by kernel_rfl) (by kernel_rfl) (by kernel_rfl) (by intro _ _ _ h; exact h) (Or.inl ⟨by rfl, ?_⟩) (by assumption) ?_
      rotate_left
      · (intro w hSw; (try dsimp only at hSw); go_simp <;> with_reducible rfl)
      try simp only [Act.put, List.setIfInBounds_toArray, List.set_cons_zero, List.set_cons_succ]
      refine wpAnyH_take (i := 6) (v := ?_) (by simp only [List.getElem?_toArray, List.getElem?_cons_succ, List.getElem?_cons_zero]; rfl) (by kernel_rfl) (by kernel_rfl) (by kernel_rfl) (by intro _ _ _ h; exact h) (Or.inl ⟨by rfl, ?_⟩) (by assumption) ?_
      rotate_left
      · (intro w hSw; (try dsimp only at hSw); go_simp <;> with_reducible rfl)
      try simp only [Act.put, List.setIfInBounds_toArray, List.set_cons_zero, List.set_cons_succ]
      refine wpAnyH_ready (rs := [7]) (by kernel_rfl) (by simp) ?_
      refine AllReadyH.cons rfl (fun K hK => ?_) AllReadyH.nil
      go_simp
      refine (HC3.out _).mono ?_
      rintro e wd ⟨rfl, ha⟩
      have hb := HD7.out.trans (show Below V.heap.size V.drew wd from ⟨ha.os, ha.tape, ha.output, ha.size, ha.block⟩)
      have HNd := Lib.hid (HNv.out.below hb)
      have HBd := Lib.hid (HBv.out.trans (hb.mono HBv.out.size))
      have LZd := Lib.hid (LZv.out.below hb)
      have HPt := Lib.hid (put16 b mm os (xs.take i) x.session x.key x.cell wd HNd.out HOl.out HEl.out HTe.out.1 HTe.out.2.1)
      simp only [RegV.val] at HPt
      refine hK.out _ _ (HZ7.out _ LZd.out) (fun hs1 => ?_)
      clear hK K hs0 ha hb
      refine wpAnyH_ready (rs := [8]) (by kernel_rfl) (by simp) ?_
      refine AllReadyH.cons rfl (fun K hK => ?_) AllReadyH.nil
      go_simp
      refine HPt.out.mono ?_
      rintro e w8 ⟨rfl, hp⟩
      obtain ⟨bm8, os8, hn8, ho8, hb8, ha8⟩ := hp
      have LZ8 := Lib.hid (show Lies w8 Z x.cells 60 from (ha8.block Z LZd.out.lt (fun h => by have := HZb.out Z h; omega)).trans LZd.out)
      have hpm := next_perm HXi.out (rises_take HJ2.out)
      have HN8 := Lib.hid (hn8.perm hpm)
      have HF8 := Lib.hid (full_next HFu.out ho8 hpm)
      have HS8 := Lib.hid (show ∀ k, NestS b (some bm8) os8 k → w.heap.size ≤ k from fun k hk => (hb8 k hk).elim (HSt.out k) fun h => Nat.le_trans HBd.out.size h)
      have HB8 := Lib.hid (HBd.out.trans (ha8.under HSt.out HBd.out.size))
      clear hn8 ho8 hb8 ha8 hpm
      refine hK.out _ _ (HZ7.out _ LZ8.out) (fun _ => ?_)
      clear hK K hs1
      refine wpAnyH_done (by kernel_rfl) ?_ _
      go_wp2
      go_roundg (N - (i + 1))
      case measure => have := HIn.out; omega
      case rel => exact ⟨i + 1, some bm8, os8, by have := HIn.out; omega, by have h1 := HIn.out; go_num, HN8, HF8, HS8, HB8, HJ2⟩
    case neg =>
      have t0 : decide ((0 : Int) < (i : Int)) = true := decide_eq_true (by omega)
      have t0' : decide (0 < i) = true := decide_eq_true (by omega)
      obtain ⟨m, hm⟩ : ∃ m, i = m + 1 := ⟨i - 1, by omega⟩
      have HM := Lib.hid hm
      obtain ⟨y, hy⟩ : ∃ y, xs[m]? = some y := ⟨_, List.getElem?_eq_getElem (by have h1 := HIn.out; rw [← HN.out]; omega)⟩
      have HR5 := Lib.hid (show risesAt xs m = StoreMath.klt y.r.k x.r.k by unfold risesAt; rw [hy, show m + 1 = i from hm.symm, HXi.out])
      have HYm := Lib.hid hy
      obtain ⟨bk, hbk⟩ : ∃ bk, bk = StoreMath.klt y.r.k x.r.k := ⟨_, rfl⟩
      have HOr := Lib.hid (fun w => above16 x y w)
      rw [← hbk] at HR5 HOr
      clear hbk
      have d0 : (i : Int) - 1 = (m : Int) := by omega
      have d1 : (m : Int) < (N : Int) := by have h1 := HIn.out; omega
      have d2 : IntKind.i64.wrap (m : Int) = (m : Int) := by rw [IntKind.wrap_i64]; omega
      have d3 : (0 : Int) ≤ (m : Int) := by omega
      have HYc := Lib.hid (show ∀ w', Below W2.heap.size W2 w' → Below W2.heap.size W2 w' ∧ w'.cell? ⟨pb, off + m * 7, none⟩ = some (.string y.session) ∧ w'.cell? ⟨pb, off + m * 7 + 1, none⟩ = some (.string y.key) ∧ w'.cell? ⟨pb, off + m * 7 + 2, none⟩ = some (.int .i64 y.cell.time) ∧ w'.cell? ⟨pb, off + m * 7 + 3, none⟩ = some (.int .i64 y.cell.region) ∧ w'.cell? ⟨pb, off + m * 7 + 4, none⟩ = some (.string y.cell.value) ∧ w'.cell? ⟨pb, off + m * 7 + 5, none⟩ = some (.bool y.cell.gone) ∧ w'.cell? ⟨pb, off + m * 7 + 6, none⟩ = some (.int .i64 y.cell.life) ∧ w'.cell? ⟨Z, 0, none⟩ = some (.string x.session) ∧ w'.cell? ⟨Z, 1, none⟩ = some (.string x.key) ∧ w'.cell? ⟨Z, 2, none⟩ = some (.int .i64 x.cell.time) ∧ w'.cell? ⟨Z, 3, none⟩ = some (.int .i64 x.cell.region) ∧ w'.cell? ⟨Z, 4, none⟩ = some (.string x.cell.value) ∧ w'.cell? ⟨Z, 5, none⟩ = some (.bool x.cell.gone) ∧ w'.cell? ⟨Z, 6, none⟩ = some (.int .i64 x.cell.life) from fun w' hb => by
        obtain ⟨z0, z1, z2, z3, z4, z5, z6⟩ := (HI0.out.grown (HB2.out.trans (hb.mono HB2.out.size))).look HYm.out
        exact ⟨hb, z0, z1, z2, z3, z4, z5, z6, (LZ.out.below hb).cell (i := 0) rfl, (LZ.out.below hb).cell (i := 1) rfl, (LZ.out.below hb).cell (i := 2) rfl, (LZ.out.below hb).cell (i := 3) rfl, (LZ.out.below hb).cell (i := 4) rfl, (LZ.out.below hb).cell (i := 5) rfl, (LZ.out.below hb).cell (i := 6) rfl⟩)
      unfold RowV.cells at HOr
      have hz0 := HYc.out _ (Below.refl _ _)
      clear hi0 hm hy
      go_region_held3 (fun w' => Below W2.heap.size W2 w' ∧ w'.cell? ⟨pb, off + m * 7, none⟩ = some (.string y.session) ∧ w'.cell? ⟨pb, off + m * 7 + 1, none⟩ = some (.string y.key) ∧ w'.cell? ⟨pb, off + m * 7 + 2, none⟩ = some (.int .i64 y.cell.time) ∧ w'.cell? ⟨pb, off + m * 7 + 3, none⟩ = some (.int .i64 y.cell.region) ∧ w'.cell? ⟨pb, off + m * 7 + 4, none⟩ = some (.string y.cell.value) ∧ w'.cell? ⟨pb, off + m * 7 + 5, none⟩ = some (.bool y.cell.gone) ∧ w'.cell? ⟨pb, off + m * 7 + 6, none⟩ = some (.int .i64 y.cell.life) ∧ w'.cell? ⟨Z, 0, none⟩ = some (.string x.session) ∧ w'.cell? ⟨Z, 1, none⟩ = some (.string x.key) ∧ w'.cell? ⟨Z, 2, none⟩ = some (.int .i64 x.cell.time) ∧ w'.cell? ⟨Z, 3, none⟩ = some (.int .i64 x.cell.region) ∧ w'.cell? ⟨Z, 4, none⟩ = some (.string x.cell.value) ∧ w'.cell? ⟨Z, 5, none⟩ = some (.bool x.cell.gone) ∧ w'.cell? ⟨Z, 6, none⟩ = some (.int .i64 x.cell.life))
        (first | exact HYc.out _ (below_step (And.left (b := _) (by assumption)) hbb) | exact HYc.out _ (Below.refl _ _).drew | exact HYc.out _ ((And.left (b := _) (by assumption) : Below W2.heap.size W2 _)))
        (first | (go_at_call 17; refine (HOr.out _).mono ?_; rintro e wn ⟨rfl, hbb⟩))
      have hbw : Below W2.heap.size W2 wn := And.left (b := _) (by assumption)
      have HBw := Lib.hid hbw
      have HE := Lib.hid (fun w => refusal16 (i : Int) 1 w)
      cases bk with
      | false =>
        have HWr := Lib.hid (show wrongV xs = some m from wrong_some (fun j hj => HJ.out j (by have := HM.out; omega)) (by have h1 := HIn.out; have h2 := HM.out; rw [← HN.out]; omega) HR5.out)
        have HB3 := Lib.hid (HB2.out.trans (hbw.mono HB2.out.size))
        clear hbw hz0
        go_wp2_with fail
        refine (HE.out _).mono ?_
        rintro e w9 ⟨⟨ex, rfl, hex⟩, hb⟩
        have HEx := Lib.hid hex
        have HB9 := Lib.hid (HB3.out.trans (hb.mono HB3.out.size))
        clear hex hb
        go_wp2
        go_ret2
        rw [HWr.out]
        exact ⟨⟨ex, rfl, by rw [← HM.out]; exact HEx.out⟩, HB9.out⟩
      | true =>
        have HJ2 := Lib.hid (show ∀ j, j + 1 < i + 1 → risesAt xs j = true from fun j hj => by
          by_cases e : j + 1 < i
          · exact HJ.out j e
          · have h2 := HM.out
            obtain rfl : j = m := by omega
            exact HR5.out)
        clear hz0 hbw
        go_upto_region 7 with fail
        obtain ⟨V, hV⟩ : ∃ V, V = wn := ⟨_, rfl⟩
        have hbV : Below W2.heap.size W2 V := by rw [hV]; exact HBw.out
        have HNv := Lib.hid (HN2.out.below hbV)
        have LZv := Lib.hid (LZ.out.below hbV)
        have HBv := Lib.hid (HB2.out.trans (hbV.mono HB2.out.size))
        rw [← hV]
        clear hV hbV
        have HZ7 := Lib.hid (show ∀ w', Lies w' Z x.cells 60 → w'.cell? ⟨Z, 0, none⟩ = some (.string x.session) ∧ w'.cell? ⟨Z, 1, none⟩ = some (.string x.key) ∧ w'.cell? ⟨Z, 2, none⟩ = some (.int .i64 x.cell.time) ∧ w'.cell? ⟨Z, 3, none⟩ = some (.int .i64 x.cell.region) ∧ w'.cell? ⟨Z, 4, none⟩ = some (.string x.cell.value) ∧ w'.cell? ⟨Z, 5, none⟩ = some (.bool x.cell.gone) ∧ w'.cell? ⟨Z, 6, none⟩ = some (.int .i64 x.cell.life) from fun w' hb => ⟨hb.cell (i := 0) rfl, hb.cell (i := 1) rfl, hb.cell (i := 2) rfl, hb.cell (i := 3) rfl, hb.cell (i := 4) rfl, hb.cell (i := 5) rfl, hb.cell (i := 6) rfl⟩)
        have HD7 := Lib.hid (show Below V.heap.size V V.drew from (Below.refl _ _).drew)
        refine wp_region_held_drew (S := fun w' => w'.cell? ⟨Z, 0, none⟩ = some (.string x.session) ∧ w'.cell? ⟨Z, 1, none⟩ = some (.string x.key) ∧ w'.cell? ⟨Z, 2, none⟩ = some (.int .i64 x.cell.time) ∧ w'.cell? ⟨Z, 3, none⟩ = some (.int .i64 x.cell.region) ∧ w'.cell? ⟨Z, 4, none⟩ = some (.string x.cell.value) ∧ w'.cell? ⟨Z, 5, none⟩ = some (.bool x.cell.gone) ∧ w'.cell? ⟨Z, 6, none⟩ = some (.int .i64 x.cell.life)) (by kernel_rfl) (HZ7.out _ (LZv.out.below HD7.out)) (fun hs0 => ?_)
        refine wpAnyH_take (i := 0) (v := ?_) (by simp only [List.getElem?_toArray, List.getElem?_cons_zero]; rfl) (by kernel_rfl) (by kernel_rfl) (by kernel_rfl) (by intro _ _ _ h; exact h) (Or.inl ⟨by rfl, ?_⟩) (by assumption) ?_
        rotate_left
        · (intro w hSw; (try dsimp only at hSw); go_simp <;> with_reducible rfl)
        try simp only [Act.put, List.setIfInBounds_toArray, List.set_cons_zero, List.set_cons_succ]
        refine wpAnyH_take (i := 1) (v := ?_) (by simp only [List.getElem?_toArray, List.getElem?_cons_succ, List.getElem?_cons_zero]; rfl) (by kernel_rfl) (by kernel_rfl) (by kernel_rfl) (by intro _ _ _ h; exact h) (Or.inl ⟨by rfl, ?_⟩) (by assumption) ?_
        rotate_left
        · (intro w hSw; (try dsimp only at hSw); go_simp <;> with_reducible rfl)
        try simp only [Act.put, List.setIfInBounds_toArray, List.set_cons_zero, List.set_cons_succ]
        refine wpAnyH_take (i := 2) (v := ?_) (by simp only [List.getElem?_toArray, List.getElem?_cons_succ, List.getElem?_cons_zero]; rfl) (by kernel_rfl) (by kernel_rfl) (by kernel_rfl) (by intro _ _ _ h; exact h) (Or.inl ⟨by rfl, ?_⟩) (by assumption) ?_
        rotate_left
        · (intro w hSw; (try dsimp only at hSw); go_simp <;> with_reducible rfl)
        try simp only [Act.put, List.setIfInBounds_toArray, List.set_cons_zero, List.set_cons_succ]
        refine wpAnyH_take (i := 3) (v := ?_) (by simp only [List.getElem?_toArray, List.getElem?_cons_succ, List.getElem?_cons_zero]; rfl) (by kernel_rfl) (by kernel_rfl) (by kernel_rfl) (by intro _ _ _ h; exact h) (Or.inl ⟨by rfl, ?_⟩) (by assumption) ?_
        rotate_left
        · (intro w hSw; (try dsimp only at hSw); go_simp <;> with_reducible rfl)
        try simp only [Act.put, List.setIfInBounds_toArray, List.set_cons_zero, List.set_cons_succ]
        refine wpAnyH_take (i := 4) (v := ?_) (by simp only [List.getElem?_toArray, List.getElem?_cons_succ, List.getElem?_cons_zero]; rfl) (by kernel_rfl) (by kernel_rfl) (by kernel_rfl) (by intro _ _ _ h; exact h) (Or.inl ⟨by rfl, ?_⟩) (by assumption) ?_
        rotate_left
        · (intro w hSw; (try dsimp only at hSw); go_simp <;> with_reducible rfl)
        try simp only [Act.put, List.setIfInBounds_toArray, List.set_cons_zero, List.set_cons_succ]
        refine wpAnyH_take (i := 5) (v := ?_) (by simp only [List.getElem?_toArray, List.getElem?_cons_succ, List.getElem?_cons_zero]; rfl) (by kernel_rfl) (by kernel_rfl) (by kernel_rfl) (by intro _ _ _ h; exact h) (Or.inl ⟨by rfl, ?_⟩) (by assumption) ?_
        rotate_left
        · (intro w hSw; (try dsimp only at hSw); go_simp <;> with_reducible rfl)
        try simp only [Act.put, List.setIfInBounds_toArray, List.set_cons_zero, List.set_cons_succ]
        refine wpAnyH_take (i := 6) (v := ?_) (by simp only [List.getElem?_toArray, List.getElem?_cons_succ, List.getElem?_cons_zero]; rfl) (by kernel_rfl) (by kernel_rfl) (by kernel_rfl) (by intro _ _ _ h; exact h) (Or.inl ⟨by rfl, ?_⟩) (by assumption) ?_
        rotate_left
        · (intro w hSw; (try dsimp only at hSw); go_simp <;> with_reducible rfl)
        try simp only [Act.put, List.setIfInBounds_toArray, List.set_cons_zero, List.set_cons_succ]
        refine wpAnyH_ready (rs := [7]) (by kernel_rfl) (by simp) ?_
        refine AllReadyH.cons rfl (fun K hK => ?_) AllReadyH.nil
        go_simp
        refine (HC3.out _).mono ?_
        rintro e wd ⟨rfl, ha⟩
        have hb := HD7.out.trans (show Below V.heap.size V.drew wd from ⟨ha.os, ha.tape, ha.output, ha.size, ha.block⟩)
        have HNd := Lib.hid (HNv.out.below hb)
        have HBd := Lib.hid (HBv.out.trans (hb.mono HBv.out.size))
        have LZd := Lib.hid (LZv.out.below hb)
        have HPt := Lib.hid (put16 b mm os (xs.take i) x.session x.key x.cell wd HNd.out HOl.out HEl.out HTe.out.1 HTe.out.2.1)
        simp only [RegV.val] at HPt
        refine hK.out _ _ (HZ7.out _ LZd.out) (fun hs1 => ?_)
        clear hK K hs0 ha hb
        refine wpAnyH_ready (rs := [8]) (by kernel_rfl) (by simp) ?_
        refine AllReadyH.cons rfl (fun K hK => ?_) AllReadyH.nil
        go_simp
        refine HPt.out.mono ?_
        rintro e w8 ⟨rfl, hp⟩
        obtain ⟨bm8, os8, hn8, ho8, hb8, ha8⟩ := hp
        have LZ8 := Lib.hid (show Lies w8 Z x.cells 60 from (ha8.block Z LZd.out.lt (fun h => by have := HZb.out Z h; omega)).trans LZd.out)
        have hpm := next_perm HXi.out (rises_take HJ2.out)
        have HN8 := Lib.hid (hn8.perm hpm)
        have HF8 := Lib.hid (full_next HFu.out ho8 hpm)
        have HS8 := Lib.hid (show ∀ k, NestS b (some bm8) os8 k → w.heap.size ≤ k from fun k hk => (hb8 k hk).elim (HSt.out k) fun h => Nat.le_trans HBd.out.size h)
        have HB8 := Lib.hid (HBd.out.trans (ha8.under HSt.out HBd.out.size))
        clear hn8 ho8 hb8 ha8 hpm
        refine hK.out _ _ (HZ7.out _ LZ8.out) (fun _ => ?_)
        clear hK K hs1
        refine wpAnyH_done (by kernel_rfl) ?_ _
        go_wp2
        go_roundg (N - (i + 1))
        case measure => have := HIn.out; omega
        case rel => exact ⟨i + 1, some bm8, os8, by have := HIn.out; omega, by have h1 := HIn.out; go_num, HN8, HF8, HS8, HB8, HJ2⟩
end Go.Proofs.YtgbhfhnbmgkaoaaGreatDoor
