/-
  Apply of a store whose cells stand in a map of maps. The conditions: texts of at most 1000 bytes, rows that rise.
-/
import Derived.Test.YtgbhfhnbmgkaoaaGreatDoorNest6
import Derived.Test.YtgbhfhnbmgkaoaaGreatDoorPart23
namespace Go.Proofs.YtgbhfhnbmgkaoaaGreatDoor
open Go.RowKit Go.Maps TextNat RegMath

/-- What Apply comes to, once it has put. -/
theorem does_put {w w6 w7 : World} {b : Nat} {m : Option Nat} {os : List (ByteArray × Nat)} {xs : List RowV} {y : WriteV} (hf : Full16 os xs) (hb : Below w.heap.size w w6) (hr : StoreMath.Rising (xs.map RowV.r)) (hs : sameC xs y = false)
    (hp : PutS w6 (NestS b m os) os w7 b y.session ((⟨y.session, y.key, newC xs y⟩ : RowV) :: xs.filter fun r => !atV y.session y.key r)) : DoesS sto16 w b (NestS b m os) (applyV xs y).1 w7 := by
  obtain ⟨bm, os7, h1, h2, h3, h4⟩ := hp
  have hpm := apply_perm y hr hs
  refine ⟨⟨_, ⟨some bm, os7, h1.perm hpm.symm, fun p hp => ?_, rfl⟩, fun j hj => (h3 j hj).imp id fun h => Nat.le_trans hb.size h⟩, (Apart.of (S := NestS b m os) hb).run h4 fun j hj => .inl hj⟩
  have key : ∃ x ∈ ((⟨y.session, y.key, newC xs y⟩ : RowV) :: xs.filter fun r => !atV y.session y.key r), x.session = p.1 := by
    rcases h2 p hp with h | h
    · obtain ⟨x, hx, e⟩ := hf p h
      by_cases e2 : p.1 = y.session
      · exact ⟨_, List.mem_cons_self .., e2.symm⟩
      · exact ⟨x, List.mem_cons_of_mem _ (List.mem_filter.2 ⟨hx, by unfold atV; rw [decide_eq_false (fun h => e2 (e.symm.trans h.1))]; rfl⟩), e⟩
    · exact ⟨_, List.mem_cons_self .., h.symm⟩
  obtain ⟨x, hx, e⟩ := key
  exact ⟨x, hpm.mem_iff.2 hx, e⟩
theorem does_none {w w7 : World} {b : Nat} {m : Option Nat} {os : List (ByteArray × Nat)} {xs : List RowV} (h0 : Nest w b m os xs) (hf : Full16 os xs) (hb : Below w.heap.size w w7) : DoesS sto16 w b (NestS b m os) xs w7 :=
  ⟨⟨_, ⟨m, os, h0.below hb, hf, rfl⟩, fun _ hk => .inl hk⟩, Apart.of hb⟩
set_option maxRecDepth 100000 in
set_option maxHeartbeats 8000000 in
theorem apply16 : Apply16 sto16 := by
  rintro b S xs y w ⟨m, os, h, hf, rfl⟩ hx hl hy
  have HF0 := Lib.hid h
  have HFu := Lib.hid hf
  have HX := Lib.hid hx
  have HY := Lib.hid hy
  have HOl := Lib.hid (Nat.le_trans (few_sessions h.keys hf) hx.few)
  have HEl := Lib.hid (entS_few hx y.session)
  have HO := Lib.hid (fun w1 (hb : Below w.heap.size w w1) => ofOk y w1 (hy.vec.grown hb) (by have := hy.texts.2.2; omega))
  obtain ⟨m', hl1, hl2, _, _⟩ := h.sess hy.texts.1
  have HLk := Lib.hid (fun w1 (hb : Below w.heap.size w w1) => And.intro (show (Instr.lookup 89 (.map m) (.string y.session) false).run Tryz.prog w1 = .ok (.map m') w1 from by
    cases m' with
    | some bi =>
      exact (h.below hb).at (by
        obtain ⟨m2, k1, k2, k3, k4⟩ := h.sess hy.texts.1
        have : m2 = some bi := by rw [hl1] at k1; simpa using k1.symm
        exact k3 bi this) hy.texts.1
    | none =>
      obtain ⟨m2, k1, k2, k3, k4⟩ := h.sess hy.texts.1
      have e2 : m2 = none := by rw [hl1] at k1; simpa using k1.symm
      obtain ⟨m3, g1, g2, g3, g4⟩ := (h.below hb).sess hy.texts.1
      cases m3 with
      | none => exact g1
      | some bi => exact absurd rfl (k4 e2 _ (g3 bi rfl))) (key_look (hl2.below hb) hy.texts.2.1).2)
  have HNw := Lib.hid (show newC xs y = match lookV xs y.session y.key with
    | some d => mergeV [d, cellW y]
    | none => cellW y from rfl)
  clear hl1 hl2 h hf hx hl hy
  obtain ⟨x0, x1, x2, x3, x4, x5, x6, x7, x8, x9, x10, x11⟩ := y
  simp only [WriteV.val, RegV.val, ofV] at HO HLk ⊢
  obtain ⟨W, hW⟩ : ∃ W, W = w.alloc (.cells #[.int .i64 x0, .int .i64 x1, .int .i64 x2, .int .i64 x3, .slice x4 x5.length x6, .string x7, .string x8, .string x9, .bool x10, .int .i64 x11] 28) := ⟨_, rfl⟩
  obtain ⟨A, hA⟩ : ∃ A, A = w.heap.size := ⟨_, rfl⟩
  have b1 : Below w.heap.size w W := by rw [hW]; exact (Below.refl _ _).alloc (Nat.le_refl _) _
  have LA := Lib.hid (show Lies W A [.int .i64 x0, .int .i64 x1, .int .i64 x2, .int .i64 x3, .slice x4 x5.length x6, .string x7, .string x8, .string x9, .bool x10, .int .i64 x11] 28 by rw [hW, hA]; exact Lies.new w _ _)
  have HB1 := Lib.hid b1
  have HW := Lib.hid hW; have HAe := Lib.hid hA
  have HAs := Lib.hid (show ¬ NestS b m os A from fun h => by have := HF0.out.lt A h; omega)
  clear hW hA b1
  obtain ⟨r, hr⟩ : ∃ r, r = lookV xs x7 x8 := ⟨_, rfl⟩
  obtain ⟨d, hd⟩ : ∃ d, d = r.getD zeroR := ⟨_, rfl⟩
  rw [← hr, ← hd] at HLk
  have HR := Lib.hid hr; have HD := Lib.hid hd
  clear hr hd
  obtain ⟨isS, hiS⟩ : ∃ i, i = r.isSome := ⟨_, rfl⟩
  rw [← hiS] at HLk
  have HIs := Lib.hid hiS
  clear hiS
  go_enter Tryz.func12, Tryz.ntmps12
  go_upto_region 3 with fail
  rw [← HW.out, ← HAe.out]
  have HZ3 := Lib.hid (show ∀ w', Below W.heap.size W w' → w'.cell? ⟨b, 0, none⟩ = some (.map m) ∧ (Instr.lookup 89 (.map m) (.string x7) false).run Tryz.prog w' = .ok (.map m') w' ∧ (Instr.lookup 88 (.map m') (.string x8) true).run Tryz.prog w' = .ok (.tuple #[.agg #[.int .i64 d.time, .int .i64 d.region, .string d.value, .bool d.gone, .int .i64 d.life], .bool isS]) w' ∧ w'.cell? ⟨A, 0, none⟩ = some (.int .i64 x0) ∧ w'.cell? ⟨A, 1, none⟩ = some (.int .i64 x1) ∧ w'.cell? ⟨A, 2, none⟩ = some (.int .i64 x2) ∧ w'.cell? ⟨A, 3, none⟩ = some (.int .i64 x3) ∧ w'.cell? ⟨A, 4, none⟩ = some (.slice x4 x5.length x6) ∧ w'.cell? ⟨A, 5, none⟩ = some (.string x7) ∧ w'.cell? ⟨A, 6, none⟩ = some (.string x8) ∧ w'.cell? ⟨A, 7, none⟩ = some (.string x9) ∧ w'.cell? ⟨A, 8, none⟩ = some (.bool x10) ∧ w'.cell? ⟨A, 9, none⟩ = some (.int .i64 x11) from fun w' hb => ⟨(HF0.out.below (HB1.out.trans (hb.mono HB1.out.size))).top.cell (i := 0) rfl, (HLk.out w' (HB1.out.trans (hb.mono HB1.out.size))).1, (HLk.out w' (HB1.out.trans (hb.mono HB1.out.size))).2, (LA.out.below hb).cell (i := 0) rfl, (LA.out.below hb).cell (i := 1) rfl, (LA.out.below hb).cell (i := 2) rfl, (LA.out.below hb).cell (i := 3) rfl, (LA.out.below hb).cell (i := 4) rfl, (LA.out.below hb).cell (i := 5) rfl, (LA.out.below hb).cell (i := 6) rfl, (LA.out.below hb).cell (i := 7) rfl, (LA.out.below hb).cell (i := 8) rfl, (LA.out.below hb).cell (i := 9) rfl⟩)
  go_cut [5, 6] from 10 to 22 (fun s5 s6 wx => ∃ Z : Nat, s5 = .pointer (some ⟨Z, 0, none⟩) ∧ s6 = .bool isS ∧ Hid (Lies wx Z d.cells 58) ∧ Hid (Below W.heap.size W wx) ∧ Hid (W.heap.size ≤ Z))
  case first =>
    refine wp_region_held_drew (S := fun w' => w'.cell? ⟨b, 0, none⟩ = some (.map m) ∧ (Instr.lookup 89 (.map m) (.string x7) false).run Tryz.prog w' = .ok (.map m') w' ∧ (Instr.lookup 88 (.map m') (.string x8) true).run Tryz.prog w' = .ok (.tuple #[.agg #[.int .i64 d.time, .int .i64 d.region, .string d.value, .bool d.gone, .int .i64 d.life], .bool isS]) w' ∧ w'.cell? ⟨A, 0, none⟩ = some (.int .i64 x0) ∧ w'.cell? ⟨A, 1, none⟩ = some (.int .i64 x1) ∧ w'.cell? ⟨A, 2, none⟩ = some (.int .i64 x2) ∧ w'.cell? ⟨A, 3, none⟩ = some (.int .i64 x3) ∧ w'.cell? ⟨A, 4, none⟩ = some (.slice x4 x5.length x6) ∧ w'.cell? ⟨A, 5, none⟩ = some (.string x7) ∧ w'.cell? ⟨A, 6, none⟩ = some (.string x8) ∧ w'.cell? ⟨A, 7, none⟩ = some (.string x9) ∧ w'.cell? ⟨A, 8, none⟩ = some (.bool x10) ∧ w'.cell? ⟨A, 9, none⟩ = some (.int .i64 x11)) (by kernel_rfl) (HZ3.out _ (Below.refl _ _).drew) (fun hs0 => ?_)
    refine wpAnyH_take (i := 0) (v := ?_) (by simp only [List.getElem?_toArray, List.getElem?_cons_zero]; rfl) (by kernel_rfl) (by kernel_rfl) (by kernel_rfl) (by intro _ _ _ h; exact h) (Or.inl ⟨by rfl, ?_⟩) (by assumption) ?_
    rotate_left
    · (intro w hSw; (try dsimp only at hSw); go_simp <;> with_reducible rfl)
    try simp only [Act.put, List.setIfInBounds_toArray, List.set_cons_zero, List.set_cons_succ]
    refine wpAnyH_take (i := 1) (v := ?_) (by simp only [List.getElem?_toArray, List.getElem?_cons_succ, List.getElem?_cons_zero]; rfl) (by kernel_rfl) (by kernel_rfl) (by kernel_rfl) (by intro _ _ _ h; exact h) (Or.inl ⟨by rfl, ?_⟩) (by assumption) ?_
    rotate_left
    · (intro w hSw; (try dsimp only at hSw); go_simp <;> with_reducible rfl)
    try simp only [Act.put, List.setIfInBounds_toArray, List.set_cons_zero, List.set_cons_succ]
    refine wpAnyH_take (i := 2) (v := ?_) (by simp only [List.getElem?_toArray, List.getElem?_cons_succ, List.getElem?_cons_zero]; rfl) (by kernel_rfl) (by kernel_rfl) (by kernel_rfl) (by intro _ _ _ h; exact h) (Or.inl ⟨by rfl, ?_⟩) (by assumption) ?_
    rotate_left
    · (intro w hSw; (try dsimp only at hSw); go_simp <;> with_reducible rfl)
    try simp only [Act.put, List.setIfInBounds_toArray, List.set_cons_zero, List.set_cons_succ]
    refine wpAnyH_take (i := 3) (v := ?_) (by simp only [List.getElem?_toArray, List.getElem?_cons_succ, List.getElem?_cons_zero]; rfl) (by kernel_rfl) (by kernel_rfl) (by kernel_rfl) (by intro _ _ _ h; exact h) (Or.inl ⟨by rfl, ?_⟩) (by assumption) ?_
    rotate_left
    · (intro w hSw; (try dsimp only at hSw); go_simp <;> with_reducible rfl)
    try simp only [Act.put, List.setIfInBounds_toArray, List.set_cons_zero, List.set_cons_succ]
    refine wpAnyH_take (i := 4) (v := ?_) (by simp only [List.getElem?_toArray, List.getElem?_cons_succ, List.getElem?_cons_zero]; rfl) (by kernel_rfl) (by kernel_rfl) (by kernel_rfl) (by intro _ _ _ h; exact h) (Or.inl ⟨by rfl, ?_⟩) (by assumption) ?_
    rotate_left
    · (intro w hSw; (try dsimp only at hSw); go_simp <;> with_reducible rfl)
    try simp only [Act.put, List.setIfInBounds_toArray, List.set_cons_zero, List.set_cons_succ]
    refine wpAnyH_take (i := 5) (v := ?_) (by simp only [List.getElem?_toArray, List.getElem?_cons_succ, List.getElem?_cons_zero]; rfl) (by kernel_rfl) (by kernel_rfl) (by kernel_rfl) (by intro _ _ _ h; exact h) (Or.inl ⟨by rfl, ?_⟩) (by assumption) ?_
    rotate_left
    · (intro w hSw; (try dsimp only at hSw); go_simp <;> with_reducible rfl)
    try simp only [Act.put, List.setIfInBounds_toArray, List.set_cons_zero, List.set_cons_succ]
    refine wpAnyH_take (i := 6) (v := ?_) (by simp only [List.getElem?_toArray, List.getElem?_cons_succ, List.getElem?_cons_zero]; rfl) (by kernel_rfl) (by kernel_rfl) (by kernel_rfl) (by intro _ _ _ h; exact h) (Or.inl ⟨by rfl, ?_⟩) (by assumption) ?_
    rotate_left
    · (intro w hSw; (try dsimp only at hSw); go_simp <;> with_reducible rfl)
    try simp only [Act.put, List.setIfInBounds_toArray, List.set_cons_zero, List.set_cons_succ]
    refine wpAnyH_take (i := 7) (v := ?_) (by simp only [List.getElem?_toArray, List.getElem?_cons_succ, List.getElem?_cons_zero]; rfl) (by kernel_rfl) (by kernel_rfl) (by kernel_rfl) (by intro _ _ _ h; exact h) (Or.inl ⟨by rfl, ?_⟩) (by assumption) ?_
    rotate_left
    · (intro w hSw; (try dsimp only at hSw); go_simp <;> with_reducible rfl)
    try simp only [Act.put, List.setIfInBounds_toArray, List.set_cons_zero, List.set_cons_succ]
    refine wpAnyH_take (i := 8) (v := ?_) (by simp only [List.getElem?_toArray, List.getElem?_cons_succ, List.getElem?_cons_zero]; rfl) (by kernel_rfl) (by kernel_rfl) (by kernel_rfl) (by intro _ _ _ h; exact h) (Or.inl ⟨by rfl, ?_⟩) (by assumption) ?_
    rotate_left
    · (intro w hSw; (try dsimp only at hSw); go_simp <;> with_reducible rfl)
    try simp only [Act.put, List.setIfInBounds_toArray, List.set_cons_zero, List.set_cons_succ]
    refine wpAnyH_take (i := 9) (v := ?_) (by simp only [List.getElem?_toArray, List.getElem?_cons_succ, List.getElem?_cons_zero]; rfl) (by kernel_rfl) (by kernel_rfl) (by kernel_rfl) (by intro _ _ _ h; exact h) (Or.inl ⟨by rfl, ?_⟩) (by assumption) ?_
    rotate_left
    · (intro w hSw; (try dsimp only at hSw); go_simp <;> with_reducible rfl)
    try simp only [Act.put, List.setIfInBounds_toArray, List.set_cons_zero, List.set_cons_succ]
    refine wpAnyH_take (i := 10) (v := ?_) (by simp only [List.getElem?_toArray, List.getElem?_cons_succ, List.getElem?_cons_zero]; rfl) (by kernel_rfl) (by kernel_rfl) (by kernel_rfl) (by intro _ _ _ h; exact h) (Or.inl ⟨by rfl, ?_⟩) (by assumption) ?_
    rotate_left
    · (intro w hSw; (try dsimp only at hSw); go_simp <;> with_reducible rfl)
    try simp only [Act.put, List.setIfInBounds_toArray, List.set_cons_zero, List.set_cons_succ]
    refine wpAnyH_take (i := 11) (v := ?_) (by simp only [List.getElem?_toArray, List.getElem?_cons_succ, List.getElem?_cons_zero]; rfl) (by kernel_rfl) (by kernel_rfl) (by kernel_rfl) (by intro _ _ _ h; exact h) (Or.inl ⟨by rfl, ?_⟩) (by assumption) ?_
    rotate_left
    · (intro w hSw; (try dsimp only at hSw); go_simp <;> with_reducible rfl)
    try simp only [Act.put, List.setIfInBounds_toArray, List.set_cons_zero, List.set_cons_succ]
    refine wpAnyH_take (i := 12) (v := ?_) (by simp only [List.getElem?_toArray, List.getElem?_cons_succ, List.getElem?_cons_zero]; rfl) (by kernel_rfl) (by kernel_rfl) (by kernel_rfl) (by intro _ _ _ h; exact h) (Or.inl ⟨by rfl, ?_⟩) (by assumption) ?_
    rotate_left
    · (intro w hSw; (try dsimp only at hSw); go_simp <;> with_reducible rfl)
    try simp only [Act.put, List.setIfInBounds_toArray, List.set_cons_zero, List.set_cons_succ]
    refine wpAnyH_ready (rs := [13]) (by kernel_rfl) (by simp) ?_
    refine AllReadyH.cons rfl (fun K hK => ?_) AllReadyH.nil
    go_simp
    obtain ⟨wz, hwz⟩ : ∃ wz, wz = (W.alloc (.cells #[.int .i64 0, .int .i64 0, .string ⟨#[]⟩, .bool false, .int .i64 0] 58)).drew := ⟨_, rfl⟩
    have LX := Lib.hid (show Lies wz W.heap.size [.int .i64 0, .int .i64 0, .string ⟨#[]⟩, .bool false, .int .i64 0] 58 by rw [hwz]; exact Lies.new W _ _)
    have HBz := Lib.hid (show Below W.heap.size W wz by rw [hwz]; exact ((Below.refl _ _).alloc (Nat.le_refl _) _).drew)
    rw [← hwz]
    refine hK.out _ _ (HZ3.out _ HBz.out) (fun hs1 => ?_)
    clear hK K hs0 hwz
    have c0 := LX.out.cell (i := 0) rfl; have c1 := LX.out.cell (i := 1) rfl; have c2 := LX.out.cell (i := 2) rfl; have c3 := LX.out.cell (i := 3) rfl; have c4 := LX.out.cell (i := 4) rfl
    have f0 := LX.out.free 0; have f1 := LX.out.free 1; have f2 := LX.out.free 2; have f3 := LX.out.free 3; have f4 := LX.out.free 4
    refine wpAnyH_ready (rs := [14]) (by kernel_rfl) (by simp) ?_
    refine AllReadyH.cons rfl (fun K hK => ?_) AllReadyH.nil
    go_simp
    obtain ⟨q2, q3⟩ := put_five LX.out rfl (.int .i64 d.time) (.int .i64 d.region) (.string d.value) (.bool d.gone) (.int .i64 d.life)
    have hz2 := HBz.out.trans ((But.below q3 (Nat.le_of_lt LX.out.lt)).mono (Nat.le_refl _))
    refine hK.out _ _ (HZ3.out _ hz2) (fun hs2 => ?_)
    clear hK K c0 c1 c2 c3 c4 f0 f1 f2 f3 f4 hs1
    refine wpAnyH_take (i := 15) (v := ?_) (by simp only [List.getElem?_toArray, List.getElem?_cons_succ, List.getElem?_cons_zero]; rfl) (by kernel_rfl) (by kernel_rfl) (by kernel_rfl) (by intro _ _ _ h; exact h) (Or.inl ⟨by rfl, ?_⟩) (by assumption) ?_
    rotate_left
    · (intro w hSw; (try dsimp only at hSw); go_simp <;> with_reducible rfl)
    try simp only [Act.put, List.setIfInBounds_toArray, List.set_cons_zero, List.set_cons_succ]
    refine wpAnyH_done (by kernel_rfl) ?_ _
    go_wp2_with fail
    go_meet
    case rel => exact ⟨_, rfl, rfl, Lib.hid q2, Lib.hid hz2, Lib.hid (Nat.le_refl _)⟩
  case rest =>
    obtain ⟨Z, rfl, rfl, HZl, HZb, HZs⟩ := hcut
    have HB4 := Lib.hid (HB1.out.trans (HZb.out.mono HB1.out.size))
    have LA4 := Lib.hid (LA.out.below HZb.out)
    have HF4 := Lib.hid (HF0.out.below HB4.out)
    have HBA := Lib.hid HZb.out.size
    rename World => w4
    clear HZ3
    cases isS with
    | false =>
      have HNo := Lib.hid (show newC xs ⟨x0, x1, x2, x3, x4, x5, x6, x7, x8, x9, x10, x11⟩ = ⟨x2, x3, x9, x10, x11⟩ ∧ sameC xs ⟨x0, x1, x2, x3, x4, x5, x6, x7, x8, x9, x10, x11⟩ = false by
        have e : lookV xs x7 x8 = none := by
          rw [← HR.out]
          cases hr : r with
          | none => rfl
          | some _ => have := HIs.out; rw [hr] at this; cases this
        unfold newC sameC
        rw [show lookV xs (⟨x0, x1, x2, x3, x4, x5, x6, x7, x8, x9, x10, x11⟩ : WriteV).session (⟨x0, x1, x2, x3, x4, x5, x6, x7, x8, x9, x10, x11⟩ : WriteV).key = none from e]
        exact ⟨rfl, rfl⟩)
      have HZ5 := Lib.hid (show ∀ w', Lies w' A [.int .i64 x0, .int .i64 x1, .int .i64 x2, .int .i64 x3, .slice x4 x5.length x6, .string x7, .string x8, .string x9, .bool x10, .int .i64 x11] 28 → w'.cell? ⟨A, 0, none⟩ = some (.int .i64 x0) ∧ w'.cell? ⟨A, 1, none⟩ = some (.int .i64 x1) ∧ w'.cell? ⟨A, 2, none⟩ = some (.int .i64 x2) ∧ w'.cell? ⟨A, 3, none⟩ = some (.int .i64 x3) ∧ w'.cell? ⟨A, 4, none⟩ = some (.slice x4 x5.length x6) ∧ w'.cell? ⟨A, 5, none⟩ = some (.string x7) ∧ w'.cell? ⟨A, 6, none⟩ = some (.string x8) ∧ w'.cell? ⟨A, 7, none⟩ = some (.string x9) ∧ w'.cell? ⟨A, 8, none⟩ = some (.bool x10) ∧ w'.cell? ⟨A, 9, none⟩ = some (.int .i64 x11) from fun w' hb => ⟨hb.cell (i := 0) rfl, hb.cell (i := 1) rfl, hb.cell (i := 2) rfl, hb.cell (i := 3) rfl, hb.cell (i := 4) rfl, hb.cell (i := 5) rfl, hb.cell (i := 6) rfl, hb.cell (i := 7) rfl, hb.cell (i := 8) rfl, hb.cell (i := 9) rfl⟩)
      go_upto_region 5 with fail
      have HD5 := Lib.hid (show Below w4.heap.size w4 w4.drew from (Below.refl _ _).drew)
      refine wp_region_held_drew (S := fun w' => w'.cell? ⟨A, 0, none⟩ = some (.int .i64 x0) ∧ w'.cell? ⟨A, 1, none⟩ = some (.int .i64 x1) ∧ w'.cell? ⟨A, 2, none⟩ = some (.int .i64 x2) ∧ w'.cell? ⟨A, 3, none⟩ = some (.int .i64 x3) ∧ w'.cell? ⟨A, 4, none⟩ = some (.slice x4 x5.length x6) ∧ w'.cell? ⟨A, 5, none⟩ = some (.string x7) ∧ w'.cell? ⟨A, 6, none⟩ = some (.string x8) ∧ w'.cell? ⟨A, 7, none⟩ = some (.string x9) ∧ w'.cell? ⟨A, 8, none⟩ = some (.bool x10) ∧ w'.cell? ⟨A, 9, none⟩ = some (.int .i64 x11)) (by kernel_rfl) (HZ5.out _ (LA4.out.below HD5.out)) (fun hs0 => ?_)
      refine wpAnyH_take (i := 0) (v := ?_) (by simp only [List.getElem?_toArray, List.getElem?_cons_zero]; rfl) (by kernel_rfl) (by kernel_rfl) (by kernel_rfl) (by intro _ _ _ h; exact h) (Or.inl ⟨by rfl, ?_⟩) (by assumption) ?_
      rotate_left
      · (intro w hSw; (try dsimp only at hSw); go_simp <;> with_reducible rfl)
      try simp only [Act.put, List.setIfInBounds_toArray, List.set_cons_zero, List.set_cons_succ]
      refine wpAnyH_take (i := 1) (v := ?_) (by simp only [List.getElem?_toArray, List.getElem?_cons_succ, List.getElem?_cons_zero]; rfl) (by kernel_rfl) (by kernel_rfl) (by kernel_rfl) (by intro _ _ _ h; exact h) (Or.inl ⟨by rfl, ?_⟩) (by assumption) ?_
      rotate_left
      · (intro w hSw; (try dsimp only at hSw); go_simp <;> with_reducible rfl)
      try simp only [Act.put, List.setIfInBounds_toArray, List.set_cons_zero, List.set_cons_succ]
      refine wpAnyH_take (i := 2) (v := ?_) (by simp only [List.getElem?_toArray, List.getElem?_cons_succ, List.getElem?_cons_zero]; rfl) (by kernel_rfl) (by kernel_rfl) (by kernel_rfl) (by intro _ _ _ h; exact h) (Or.inl ⟨by rfl, ?_⟩) (by assumption) ?_
      rotate_left
      · (intro w hSw; (try dsimp only at hSw); go_simp <;> with_reducible rfl)
      try simp only [Act.put, List.setIfInBounds_toArray, List.set_cons_zero, List.set_cons_succ]
      refine wpAnyH_take (i := 3) (v := ?_) (by simp only [List.getElem?_toArray, List.getElem?_cons_succ, List.getElem?_cons_zero]; rfl) (by kernel_rfl) (by kernel_rfl) (by kernel_rfl) (by intro _ _ _ h; exact h) (Or.inl ⟨by rfl, ?_⟩) (by assumption) ?_
      rotate_left
      · (intro w hSw; (try dsimp only at hSw); go_simp <;> with_reducible rfl)
      try simp only [Act.put, List.setIfInBounds_toArray, List.set_cons_zero, List.set_cons_succ]
      refine wpAnyH_take (i := 4) (v := ?_) (by simp only [List.getElem?_toArray, List.getElem?_cons_succ, List.getElem?_cons_zero]; rfl) (by kernel_rfl) (by kernel_rfl) (by kernel_rfl) (by intro _ _ _ h; exact h) (Or.inl ⟨by rfl, ?_⟩) (by assumption) ?_
      rotate_left
      · (intro w hSw; (try dsimp only at hSw); go_simp <;> with_reducible rfl)
      try simp only [Act.put, List.setIfInBounds_toArray, List.set_cons_zero, List.set_cons_succ]
      refine wpAnyH_take (i := 5) (v := ?_) (by simp only [List.getElem?_toArray, List.getElem?_cons_succ, List.getElem?_cons_zero]; rfl) (by kernel_rfl) (by kernel_rfl) (by kernel_rfl) (by intro _ _ _ h; exact h) (Or.inl ⟨by rfl, ?_⟩) (by assumption) ?_
      rotate_left
      · (intro w hSw; (try dsimp only at hSw); go_simp <;> with_reducible rfl)
      try simp only [Act.put, List.setIfInBounds_toArray, List.set_cons_zero, List.set_cons_succ]
      refine wpAnyH_ready (rs := [6]) (by kernel_rfl) (by simp) ?_
      refine AllReadyH.cons rfl (fun K hK => ?_) AllReadyH.nil
      go_simp
      refine (HO.out _ (HB4.out.trans (HD5.out.mono HB4.out.size))).mono ?_
      rintro e wa ⟨rfl, ha⟩
      have hb := HD5.out.trans (show Below w4.heap.size w4.drew wa from ⟨ha.os, ha.tape, ha.output, ha.size, ha.block⟩)
      have HBa := Lib.hid (HB4.out.trans (hb.mono HB4.out.size))
      have LAa := Lib.hid (LA4.out.below hb)
      have HPt := Lib.hid (put16 b m os xs x7 x8 ⟨x2, x3, x9, x10, x11⟩ wa (HF0.out.below HBa.out) HOl.out HEl.out HY.out.texts.1 HY.out.texts.2.1)
      simp only [RegV.val] at HPt
      refine hK.out _ _ (HZ5.out _ LAa.out) (fun hs1 => ?_)
      clear hK K hs0 ha hb
      refine wpAnyH_ready (rs := [7]) (by kernel_rfl) (by simp) ?_
      refine AllReadyH.cons rfl (fun K hK => ?_) AllReadyH.nil
      go_simp
      refine HPt.out.mono ?_
      rintro e w7 ⟨rfl, hp⟩
      have HP := Lib.hid hp
      have LA7 := Lib.hid (show Lies w7 A [.int .i64 x0, .int .i64 x1, .int .i64 x2, .int .i64 x3, .slice x4 x5.length x6, .string x7, .string x8, .string x9, .bool x10, .int .i64 x11] 28 from (by
        obtain ⟨_, _, _, _, _, h4⟩ := hp
        exact (h4.block A LAa.out.lt HAs.out).trans LAa.out))
      clear hp
      refine hK.out _ _ (HZ5.out _ LA7.out) (fun hs2 => ?_)
      clear hK K hs1 hs2
      refine wpAnyH_done (by kernel_rfl) ?_ _
      have HDo := Lib.hid (does_put (y := ⟨x0, x1, x2, x3, x4, x5, x6, x7, x8, x9, x10, x11⟩) HFu.out HBa.out HX.out.rises HNo.out.2 (by rw [HNo.out.1]; exact HP.out))
      have HAp := Lib.hid (show (applyV xs ⟨x0, x1, x2, x3, x4, x5, x6, x7, x8, x9, x10, x11⟩).2 = true by unfold applyV; rw [if_neg (by rw [HNo.out.2]; decide)])
      go_wp2
      go_ret
      exact ⟨by rw [HAp.out]; rfl, HDo.out⟩
    | true =>
      have HLo := Lib.hid (show lookV xs x7 x8 = some d by
        rw [← HR.out, HD.out]
        cases hr : r with
        | none => have := HIs.out; rw [hr] at this; cases this
        | some _ => rfl)
      obtain ⟨mg, hm⟩ : ∃ mg, mg = mergeV [d, ⟨x2, x3, x9, x10, x11⟩] := ⟨_, rfl⟩
      have HMm := Lib.hid (show newC xs ⟨x0, x1, x2, x3, x4, x5, x6, x7, x8, x9, x10, x11⟩ = mg ∧ sameC xs ⟨x0, x1, x2, x3, x4, x5, x6, x7, x8, x9, x10, x11⟩ = decide (mg = d) by
        have e : newC xs ⟨x0, x1, x2, x3, x4, x5, x6, x7, x8, x9, x10, x11⟩ = mg := by
          unfold newC
          rw [show lookV xs (⟨x0, x1, x2, x3, x4, x5, x6, x7, x8, x9, x10, x11⟩ : WriteV).session (⟨x0, x1, x2, x3, x4, x5, x6, x7, x8, x9, x10, x11⟩ : WriteV).key = some d from HLo.out, hm]
          rfl
        refine ⟨e, ?_⟩
        unfold sameC
        rw [show lookV xs (⟨x0, x1, x2, x3, x4, x5, x6, x7, x8, x9, x10, x11⟩ : WriteV).session (⟨x0, x1, x2, x3, x4, x5, x6, x7, x8, x9, x10, x11⟩ : WriteV).key = some d from HLo.out, e])
      have hdv : d.value.size ≤ 1000 := by have := lookV_short HX.out x7 x8; rw [HLo.out] at this; exact this
      have hyv : x9.size ≤ 1000 := HY.out.texts.2.2
      have HMg := Lib.hid (fun (G : Nat) (w' : World) (hG : w'.heap[G]? = some (.cells #[.int .i64 d.time, .int .i64 d.region, .string d.value, .bool d.gone, .int .i64 d.life, .int .i64 x2, .int .i64 x3, .string x9, .bool x10, .int .i64 x11] 58 (0, 0))) => (show Calls Tryz.prog 41 #[.slice (some ⟨G, 0, none⟩) 2 2] w' (fun e w2 => e = .returned mg.val ∧ Below w'.heap.size w' w2) by
        rw [hm]
        exact mergeOk (some ⟨G, 0, none⟩) 2 [d, ⟨x2, x3, x9, x10, x11⟩] w' (regs_two (T := 58) hG) (Nat.le_refl 2) (by omega) (by show 2 ≤ 1000; omega) (ShortR.two (by omega) (by show x9.size ≤ 281474976710656; omega))))
      simp only [RegV.val] at HMg
      clear hdv hyv hm
      have HZ7 := Lib.hid (show ∀ w', Below w4.heap.size w4 w' → w'.cell? ⟨A, 0, none⟩ = some (.int .i64 x0) ∧ w'.cell? ⟨A, 1, none⟩ = some (.int .i64 x1) ∧ w'.cell? ⟨A, 2, none⟩ = some (.int .i64 x2) ∧ w'.cell? ⟨A, 3, none⟩ = some (.int .i64 x3) ∧ w'.cell? ⟨A, 4, none⟩ = some (.slice x4 x5.length x6) ∧ w'.cell? ⟨A, 5, none⟩ = some (.string x7) ∧ w'.cell? ⟨A, 6, none⟩ = some (.string x8) ∧ w'.cell? ⟨A, 7, none⟩ = some (.string x9) ∧ w'.cell? ⟨A, 8, none⟩ = some (.bool x10) ∧ w'.cell? ⟨A, 9, none⟩ = some (.int .i64 x11) ∧ w'.cell? ⟨Z, 0, none⟩ = some (.int .i64 d.time) ∧ w'.cell? ⟨Z, 1, none⟩ = some (.int .i64 d.region) ∧ w'.cell? ⟨Z, 2, none⟩ = some (.string d.value) ∧ w'.cell? ⟨Z, 3, none⟩ = some (.bool d.gone) ∧ w'.cell? ⟨Z, 4, none⟩ = some (.int .i64 d.life) from fun w' hb => ⟨(LA4.out.below hb).cell (i := 0) rfl, (LA4.out.below hb).cell (i := 1) rfl, (LA4.out.below hb).cell (i := 2) rfl, (LA4.out.below hb).cell (i := 3) rfl, (LA4.out.below hb).cell (i := 4) rfl, (LA4.out.below hb).cell (i := 5) rfl, (LA4.out.below hb).cell (i := 6) rfl, (LA4.out.below hb).cell (i := 7) rfl, (LA4.out.below hb).cell (i := 8) rfl, (LA4.out.below hb).cell (i := 9) rfl, (HZl.out.below hb).cell (i := 0) rfl, (HZl.out.below hb).cell (i := 1) rfl, (HZl.out.below hb).cell (i := 2) rfl, (HZl.out.below hb).cell (i := 3) rfl, (HZl.out.below hb).cell (i := 4) rfl⟩)
      go_upto_region 7 with fail
      go_cut [7] from 33 to 37 (fun s7 wx => ∃ V : Nat, s7 = .pointer (some ⟨V, 0, none⟩) ∧ Hid (Lies wx V [.int .i64 mg.time, .int .i64 mg.region, .string mg.value, .bool mg.gone, .int .i64 mg.life] 58) ∧ Hid (Below w4.heap.size w4 wx) ∧ Hid (w4.heap.size ≤ V))
      case first =>
        refine wp_region_held_drew (S := fun w' => w'.cell? ⟨A, 0, none⟩ = some (.int .i64 x0) ∧ w'.cell? ⟨A, 1, none⟩ = some (.int .i64 x1) ∧ w'.cell? ⟨A, 2, none⟩ = some (.int .i64 x2) ∧ w'.cell? ⟨A, 3, none⟩ = some (.int .i64 x3) ∧ w'.cell? ⟨A, 4, none⟩ = some (.slice x4 x5.length x6) ∧ w'.cell? ⟨A, 5, none⟩ = some (.string x7) ∧ w'.cell? ⟨A, 6, none⟩ = some (.string x8) ∧ w'.cell? ⟨A, 7, none⟩ = some (.string x9) ∧ w'.cell? ⟨A, 8, none⟩ = some (.bool x10) ∧ w'.cell? ⟨A, 9, none⟩ = some (.int .i64 x11) ∧ w'.cell? ⟨Z, 0, none⟩ = some (.int .i64 d.time) ∧ w'.cell? ⟨Z, 1, none⟩ = some (.int .i64 d.region) ∧ w'.cell? ⟨Z, 2, none⟩ = some (.string d.value) ∧ w'.cell? ⟨Z, 3, none⟩ = some (.bool d.gone) ∧ w'.cell? ⟨Z, 4, none⟩ = some (.int .i64 d.life)) (by kernel_rfl) (HZ7.out _ (Below.refl _ _).drew) (fun hs0 => ?_)
        have hB : Below w4.heap.size w4 w4.drew := (Below.refl _ _).drew
        refine wpAnyH_take (i := 0) (v := ?_) (by simp only [List.getElem?_toArray, List.getElem?_cons_zero]; rfl) (by kernel_rfl) (by kernel_rfl) (by kernel_rfl) (by intro _ _ _ h; exact h) (Or.inl ⟨by rfl, ?_⟩) (by assumption) ?_
        rotate_left
        · (intro w hSw; (try dsimp only at hSw); go_simp <;> with_reducible rfl)
        try simp only [Act.put, List.setIfInBounds_toArray, List.set_cons_zero, List.set_cons_succ]
        refine wpAnyH_take (i := 1) (v := ?_) (by simp only [List.getElem?_toArray, List.getElem?_cons_succ, List.getElem?_cons_zero]; rfl) (by kernel_rfl) (by kernel_rfl) (by kernel_rfl) (by intro _ _ _ h; exact h) (Or.inl ⟨by rfl, ?_⟩) (by assumption) ?_
        rotate_left
        · (intro w hSw; (try dsimp only at hSw); go_simp <;> with_reducible rfl)
        try simp only [Act.put, List.setIfInBounds_toArray, List.set_cons_zero, List.set_cons_succ]
        refine wpAnyH_ready (rs := [2, 5]) (by kernel_rfl) (by simp) ?_
        refine AllReadyH.cons rfl (fun K hK => ?_) (AllReadyH.cons rfl (fun K hK => ?_) AllReadyH.nil)
        ·
          go_simp
          refine (HO.out _ (HB4.out.trans (hB.mono HB4.out.size))).mono ?_
          rintro e v1 ⟨rfl, ha⟩
          have hB2 : Below w4.heap.size w4 v1 := hB.trans (ha.mono hB.size)
          clear hB
          have hB := hB2
          clear hB2 ha
          refine hK.out _ _ (HZ7.out _ hB) (fun hs1 => ?_)
          clear hK K hs0
          refine wpAnyH_ready (rs := [3, 5]) (by kernel_rfl) (by simp) ?_
          refine AllReadyH.cons rfl (fun K hK => ?_) (AllReadyH.cons rfl (fun K hK => ?_) AllReadyH.nil)
          ·
            go_simp
            obtain ⟨v2, hv⟩ : ∃ v, v = v1.alloc (.cells #[.int .i64 d.time, .int .i64 d.region, .string d.value, .bool d.gone, .int .i64 d.life, .int .i64 x2, .int .i64 x3, .string x9, .bool x10, .int .i64 x11] 58) := ⟨_, rfl⟩
            obtain ⟨G, hG⟩ : ∃ G, G = v1.heap.size := ⟨_, rfl⟩
            have ha : Below v1.heap.size v1 v2 := by rw [hv]; exact (Below.refl _ _).alloc (Nat.le_refl _) _
            have hg : v2.heap[G]? = some (.cells #[.int .i64 d.time, .int .i64 d.region, .string d.value, .bool d.gone, .int .i64 d.life, .int .i64 x2, .int .i64 x3, .string x9, .bool x10, .int .i64 x11] 58 (0, 0)) := by rw [hv, hG]; exact heap_alloc_new _ _
            rw [← hv, ← hG]
            have hB2 : Below w4.heap.size w4 v2 := hB.trans (ha.mono hB.size)
            clear hB
            have hB := hB2
            clear hB2 ha hv hG
            refine hK.out _ _ (HZ7.out _ hB) (fun hs2 => ?_)
            clear hK K hs1
            refine wpAnyH_ready (rs := [4, 5]) (by kernel_rfl) (by simp) ?_
            refine AllReadyH.cons rfl (fun K hK => ?_) (AllReadyH.cons rfl (fun K hK => ?_) AllReadyH.nil)
            ·
              go_simp
              refine (HMg.out G _ hg).mono ?_
              rintro e v3 ⟨rfl, ha⟩
              have hB2 : Below w4.heap.size w4 v3 := hB.trans (ha.mono hB.size)
              clear hB hg
              have hB := hB2
              clear hB2 ha
              refine hK.out _ _ (HZ7.out _ hB) (fun hs3 => ?_)
              clear hK K hs2
              refine wpAnyH_ready (rs := [5]) (by kernel_rfl) (by simp) ?_
              refine AllReadyH.cons rfl (fun K hK => ?_) AllReadyH.nil
              go_simp
              obtain ⟨v4, hv⟩ : ∃ v, v = v3.alloc (.cells #[.int .i64 0, .int .i64 0, .string ⟨#[]⟩, .bool false, .int .i64 0] 58) := ⟨_, rfl⟩
              obtain ⟨V0, hV0⟩ : ∃ V0, V0 = v3.heap.size := ⟨_, rfl⟩
              have lx : Lies v4 V0 [.int .i64 0, .int .i64 0, .string ⟨#[]⟩, .bool false, .int .i64 0] 58 := by rw [hv, hV0]; exact Lies.new v3 _ _
              have hV : w4.heap.size ≤ V0 := by rw [hV0]; exact hB.size
              have ha : Below v3.heap.size v3 v4 := by rw [hv]; exact (Below.refl _ _).alloc (Nat.le_refl _) _
              rw [← hv, ← hV0]
              have hB2 : Below w4.heap.size w4 v4 := hB.trans (ha.mono hB.size)
              clear hB
              have hB := hB2
              clear hB2 ha hv hV0
              refine hK.out _ _ (HZ7.out _ hB) (fun hs4 => ?_)
              clear hK K hs3
              have c0 := lx.cell (i := 0) rfl; have c1 := lx.cell (i := 1) rfl; have c2 := lx.cell (i := 2) rfl; have c3 := lx.cell (i := 3) rfl; have c4 := lx.cell (i := 4) rfl
              have f0 := lx.free 0; have f1 := lx.free 1; have f2 := lx.free 2; have f3 := lx.free 3; have f4 := lx.free 4
              refine wpAnyH_ready (rs := [6]) (by kernel_rfl) (by simp) ?_
              refine AllReadyH.cons rfl (fun K hK => ?_) AllReadyH.nil
              go_simp
              obtain ⟨q2, q3⟩ := put_five lx rfl (.int .i64 mg.time) (.int .i64 mg.region) (.string mg.value) (.bool mg.gone) (.int .i64 mg.life)
              have hz2 := hB.trans ((But.below q3 (Nat.le_of_lt lx.lt)).mono hV)
              refine hK.out _ _ (HZ7.out _ hz2) (fun _ => ?_)
              clear hK K c0 c1 c2 c3 c4 f0 f1 f2 f3 f4
              refine wpAnyH_done (by kernel_rfl) ?_ _
              go_wp2_with fail
              go_meet
              case rel => exact ⟨_, rfl, Lib.hid q2, Lib.hid hz2, Lib.hid hV⟩
            ·
              go_simp
              obtain ⟨v3, hv⟩ : ∃ v, v = v2.alloc (.cells #[.int .i64 0, .int .i64 0, .string ⟨#[]⟩, .bool false, .int .i64 0] 58) := ⟨_, rfl⟩
              obtain ⟨V0, hV0⟩ : ∃ V0, V0 = v2.heap.size := ⟨_, rfl⟩
              have lx : Lies v3 V0 [.int .i64 0, .int .i64 0, .string ⟨#[]⟩, .bool false, .int .i64 0] 58 := by rw [hv, hV0]; exact Lies.new v2 _ _
              have hV : w4.heap.size ≤ V0 := by rw [hV0]; exact hB.size
              have ha : Below v2.heap.size v2 v3 := by rw [hv]; exact (Below.refl _ _).alloc (Nat.le_refl _) _
              have hg2 := (ha.block G (Array.getElem?_eq_some_iff.1 hg).1).trans hg
              clear hg
              have hg := hg2
              clear hg2
              rw [← hv, ← hV0]
              have hB2 : Below w4.heap.size w4 v3 := hB.trans (ha.mono hB.size)
              clear hB
              have hB := hB2
              clear hB2 ha hv hV0
              refine hK.out _ _ (HZ7.out _ hB) (fun hs3 => ?_)
              clear hK K hs2
              refine wpAnyH_ready (rs := [4]) (by kernel_rfl) (by simp) ?_
              refine AllReadyH.cons rfl (fun K hK => ?_) AllReadyH.nil
              go_simp
              refine (HMg.out G _ hg).mono ?_
              rintro e v4 ⟨rfl, ha⟩
              have hB2 : Below w4.heap.size w4 v4 := hB.trans (ha.mono hB.size)
              replace lx := lx.below ha
              clear hB hg
              have hB := hB2
              clear hB2 ha
              refine hK.out _ _ (HZ7.out _ hB) (fun hs4 => ?_)
              clear hK K hs3
              have c0 := lx.cell (i := 0) rfl; have c1 := lx.cell (i := 1) rfl; have c2 := lx.cell (i := 2) rfl; have c3 := lx.cell (i := 3) rfl; have c4 := lx.cell (i := 4) rfl
              have f0 := lx.free 0; have f1 := lx.free 1; have f2 := lx.free 2; have f3 := lx.free 3; have f4 := lx.free 4
              refine wpAnyH_ready (rs := [6]) (by kernel_rfl) (by simp) ?_
              refine AllReadyH.cons rfl (fun K hK => ?_) AllReadyH.nil
              go_simp
              obtain ⟨q2, q3⟩ := put_five lx rfl (.int .i64 mg.time) (.int .i64 mg.region) (.string mg.value) (.bool mg.gone) (.int .i64 mg.life)
              have hz2 := hB.trans ((But.below q3 (Nat.le_of_lt lx.lt)).mono hV)
              refine hK.out _ _ (HZ7.out _ hz2) (fun _ => ?_)
              clear hK K c0 c1 c2 c3 c4 f0 f1 f2 f3 f4
              refine wpAnyH_done (by kernel_rfl) ?_ _
              go_wp2_with fail
              go_meet
              case rel => exact ⟨_, rfl, Lib.hid q2, Lib.hid hz2, Lib.hid hV⟩
          ·
            go_simp
            obtain ⟨v2, hv⟩ : ∃ v, v = v1.alloc (.cells #[.int .i64 0, .int .i64 0, .string ⟨#[]⟩, .bool false, .int .i64 0] 58) := ⟨_, rfl⟩
            obtain ⟨V0, hV0⟩ : ∃ V0, V0 = v1.heap.size := ⟨_, rfl⟩
            have lx : Lies v2 V0 [.int .i64 0, .int .i64 0, .string ⟨#[]⟩, .bool false, .int .i64 0] 58 := by rw [hv, hV0]; exact Lies.new v1 _ _
            have hV : w4.heap.size ≤ V0 := by rw [hV0]; exact hB.size
            have ha : Below v1.heap.size v1 v2 := by rw [hv]; exact (Below.refl _ _).alloc (Nat.le_refl _) _
            rw [← hv, ← hV0]
            have hB2 : Below w4.heap.size w4 v2 := hB.trans (ha.mono hB.size)
            clear hB
            have hB := hB2
            clear hB2 ha hv hV0
            refine hK.out _ _ (HZ7.out _ hB) (fun hs2 => ?_)
            clear hK K hs1
            refine wpAnyH_ready (rs := [3]) (by kernel_rfl) (by simp) ?_
            refine AllReadyH.cons rfl (fun K hK => ?_) AllReadyH.nil
            go_simp
            obtain ⟨v3, hv⟩ : ∃ v, v = v2.alloc (.cells #[.int .i64 d.time, .int .i64 d.region, .string d.value, .bool d.gone, .int .i64 d.life, .int .i64 x2, .int .i64 x3, .string x9, .bool x10, .int .i64 x11] 58) := ⟨_, rfl⟩
            obtain ⟨G, hG⟩ : ∃ G, G = v2.heap.size := ⟨_, rfl⟩
            have ha : Below v2.heap.size v2 v3 := by rw [hv]; exact (Below.refl _ _).alloc (Nat.le_refl _) _
            have hg : v3.heap[G]? = some (.cells #[.int .i64 d.time, .int .i64 d.region, .string d.value, .bool d.gone, .int .i64 d.life, .int .i64 x2, .int .i64 x3, .string x9, .bool x10, .int .i64 x11] 58 (0, 0)) := by rw [hv, hG]; exact heap_alloc_new _ _
            rw [← hv, ← hG]
            have hB2 : Below w4.heap.size w4 v3 := hB.trans (ha.mono hB.size)
            replace lx := lx.below ha
            clear hB
            have hB := hB2
            clear hB2 ha hv hG
            refine hK.out _ _ (HZ7.out _ hB) (fun hs3 => ?_)
            clear hK K hs2
            refine wpAnyH_ready (rs := [4]) (by kernel_rfl) (by simp) ?_
            refine AllReadyH.cons rfl (fun K hK => ?_) AllReadyH.nil
            go_simp
            refine (HMg.out G _ hg).mono ?_
            rintro e v4 ⟨rfl, ha⟩
            have hB2 : Below w4.heap.size w4 v4 := hB.trans (ha.mono hB.size)
            replace lx := lx.below ha
            clear hB hg
            have hB := hB2
            clear hB2 ha
            refine hK.out _ _ (HZ7.out _ hB) (fun hs4 => ?_)
            clear hK K hs3
            have c0 := lx.cell (i := 0) rfl; have c1 := lx.cell (i := 1) rfl; have c2 := lx.cell (i := 2) rfl; have c3 := lx.cell (i := 3) rfl; have c4 := lx.cell (i := 4) rfl
            have f0 := lx.free 0; have f1 := lx.free 1; have f2 := lx.free 2; have f3 := lx.free 3; have f4 := lx.free 4
            refine wpAnyH_ready (rs := [6]) (by kernel_rfl) (by simp) ?_
            refine AllReadyH.cons rfl (fun K hK => ?_) AllReadyH.nil
            go_simp
            obtain ⟨q2, q3⟩ := put_five lx rfl (.int .i64 mg.time) (.int .i64 mg.region) (.string mg.value) (.bool mg.gone) (.int .i64 mg.life)
            have hz2 := hB.trans ((But.below q3 (Nat.le_of_lt lx.lt)).mono hV)
            refine hK.out _ _ (HZ7.out _ hz2) (fun _ => ?_)
            clear hK K c0 c1 c2 c3 c4 f0 f1 f2 f3 f4
            refine wpAnyH_done (by kernel_rfl) ?_ _
            go_wp2_with fail
            go_meet
            case rel => exact ⟨_, rfl, Lib.hid q2, Lib.hid hz2, Lib.hid hV⟩
        ·
          go_simp
          obtain ⟨v1, hv⟩ : ∃ v, v = (w4.alloc (.cells #[.int .i64 0, .int .i64 0, .string ⟨#[]⟩, .bool false, .int .i64 0] 58)).drew := ⟨_, rfl⟩
          obtain ⟨V0, hV0⟩ : ∃ V0, V0 = w4.heap.size := ⟨_, rfl⟩
          have lx : Lies v1 V0 [.int .i64 0, .int .i64 0, .string ⟨#[]⟩, .bool false, .int .i64 0] 58 := by rw [hv, hV0]; exact Lies.new w4 _ _
          have hV : w4.heap.size ≤ V0 := by rw [hV0]; exact hB.size
          have ha : Below w4.drew.heap.size w4.drew v1 := by rw [hv]; exact (Below.refl w4.heap.size w4.drew).alloc (Nat.le_refl _) _
          rw [← hv, ← hV0]
          have hB2 : Below w4.heap.size w4 v1 := hB.trans (ha.mono hB.size)
          clear hB
          have hB := hB2
          clear hB2 ha hv hV0
          refine hK.out _ _ (HZ7.out _ hB) (fun hs1 => ?_)
          clear hK K hs0
          refine wpAnyH_ready (rs := [2]) (by kernel_rfl) (by simp) ?_
          refine AllReadyH.cons rfl (fun K hK => ?_) AllReadyH.nil
          go_simp
          refine (HO.out _ (HB4.out.trans (hB.mono HB4.out.size))).mono ?_
          rintro e v2 ⟨rfl, ha⟩
          have hB2 : Below w4.heap.size w4 v2 := hB.trans (ha.mono hB.size)
          replace lx := lx.below ha
          clear hB
          have hB := hB2
          clear hB2 ha
          refine hK.out _ _ (HZ7.out _ hB) (fun hs2 => ?_)
          clear hK K hs1
          refine wpAnyH_ready (rs := [3]) (by kernel_rfl) (by simp) ?_
          refine AllReadyH.cons rfl (fun K hK => ?_) AllReadyH.nil
          go_simp
          obtain ⟨v3, hv⟩ : ∃ v, v = v2.alloc (.cells #[.int .i64 d.time, .int .i64 d.region, .string d.value, .bool d.gone, .int .i64 d.life, .int .i64 x2, .int .i64 x3, .string x9, .bool x10, .int .i64 x11] 58) := ⟨_, rfl⟩
          obtain ⟨G, hG⟩ : ∃ G, G = v2.heap.size := ⟨_, rfl⟩
          have ha : Below v2.heap.size v2 v3 := by rw [hv]; exact (Below.refl _ _).alloc (Nat.le_refl _) _
          have hg : v3.heap[G]? = some (.cells #[.int .i64 d.time, .int .i64 d.region, .string d.value, .bool d.gone, .int .i64 d.life, .int .i64 x2, .int .i64 x3, .string x9, .bool x10, .int .i64 x11] 58 (0, 0)) := by rw [hv, hG]; exact heap_alloc_new _ _
          rw [← hv, ← hG]
          have hB2 : Below w4.heap.size w4 v3 := hB.trans (ha.mono hB.size)
          replace lx := lx.below ha
          clear hB
          have hB := hB2
          clear hB2 ha hv hG
          refine hK.out _ _ (HZ7.out _ hB) (fun hs3 => ?_)
          clear hK K hs2
          refine wpAnyH_ready (rs := [4]) (by kernel_rfl) (by simp) ?_
          refine AllReadyH.cons rfl (fun K hK => ?_) AllReadyH.nil
          go_simp
          refine (HMg.out G _ hg).mono ?_
          rintro e v4 ⟨rfl, ha⟩
          have hB2 : Below w4.heap.size w4 v4 := hB.trans (ha.mono hB.size)
          replace lx := lx.below ha
          clear hB hg
          have hB := hB2
          clear hB2 ha
          refine hK.out _ _ (HZ7.out _ hB) (fun hs4 => ?_)
          clear hK K hs3
          have c0 := lx.cell (i := 0) rfl; have c1 := lx.cell (i := 1) rfl; have c2 := lx.cell (i := 2) rfl; have c3 := lx.cell (i := 3) rfl; have c4 := lx.cell (i := 4) rfl
          have f0 := lx.free 0; have f1 := lx.free 1; have f2 := lx.free 2; have f3 := lx.free 3; have f4 := lx.free 4
          refine wpAnyH_ready (rs := [6]) (by kernel_rfl) (by simp) ?_
          refine AllReadyH.cons rfl (fun K hK => ?_) AllReadyH.nil
          go_simp
          obtain ⟨q2, q3⟩ := put_five lx rfl (.int .i64 mg.time) (.int .i64 mg.region) (.string mg.value) (.bool mg.gone) (.int .i64 mg.life)
          have hz2 := hB.trans ((But.below q3 (Nat.le_of_lt lx.lt)).mono hV)
          refine hK.out _ _ (HZ7.out _ hz2) (fun _ => ?_)
          clear hK K c0 c1 c2 c3 c4 f0 f1 f2 f3 f4
          refine wpAnyH_done (by kernel_rfl) ?_ _
          go_wp2_with fail
          go_meet
          case rel => exact ⟨_, rfl, Lib.hid q2, Lib.hid hz2, Lib.hid hV⟩
      case rest =>
        obtain ⟨V, rfl, HVl, HVb, HVs⟩ := hcut
        have HB8 := Lib.hid (HB4.out.trans (HVb.out.mono HB4.out.size))
        have LA8 := Lib.hid (LA4.out.below HVb.out)
        have HZ8 := Lib.hid (HZl.out.below HVb.out)
        have HF8 := Lib.hid (HF0.out.below HB8.out)
        rename World => w8
        have q := fun w => eql_reg mg d w
        simp only [RegV.val] at q
        have c0 := HZ8.out.cell (i := 0) rfl; have c1 := HZ8.out.cell (i := 1) rfl; have c2 := HZ8.out.cell (i := 2) rfl; have c3 := HZ8.out.cell (i := 3) rfl; have c4 := HZ8.out.cell (i := 4) rfl
        have e0 := HVl.out.cell (i := 0) rfl; have e1 := HVl.out.cell (i := 1) rfl; have e2 := HVl.out.cell (i := 2) rfl; have e3 := HVl.out.cell (i := 3) rfl; have e4 := HVl.out.cell (i := 4) rfl
        by_cases hq : mg = d
        · rw [decide_eq_true hq] at q
          have HDo := Lib.hid (show DoesS sto16 w b (NestS b m os) (applyV xs ⟨x0, x1, x2, x3, x4, x5, x6, x7, x8, x9, x10, x11⟩).1 w8 ∧ (applyV xs ⟨x0, x1, x2, x3, x4, x5, x6, x7, x8, x9, x10, x11⟩).2 = false by
            unfold applyV
            rw [if_pos (by rw [HMm.out.2]; exact decide_eq_true hq)]
            exact ⟨does_none HF0.out HFu.out HB8.out, rfl⟩)
          clear hq
          go_wp2
          go_ret
          exact ⟨by rw [HDo.out.2]; rfl, HDo.out.1⟩
        · rw [decide_eq_false hq] at q
          have HNo := Lib.hid (show newC xs ⟨x0, x1, x2, x3, x4, x5, x6, x7, x8, x9, x10, x11⟩ = mg ∧ sameC xs ⟨x0, x1, x2, x3, x4, x5, x6, x7, x8, x9, x10, x11⟩ = false from ⟨HMm.out.1, by rw [HMm.out.2]; exact decide_eq_false hq⟩)
          clear hq
          have HPt := Lib.hid (put16 b m os xs x7 x8 mg w8 HF8.out HOl.out HEl.out HY.out.texts.1 HY.out.texts.2.1)
          simp only [RegV.val] at HPt
          have a5 := LA8.out.cell (i := 5) rfl; have a6 := LA8.out.cell (i := 6) rfl
          go_wp2_with fail
          refine HPt.out.mono ?_
          rintro e w9 ⟨rfl, hp⟩
          have HDo := Lib.hid (does_put (y := ⟨x0, x1, x2, x3, x4, x5, x6, x7, x8, x9, x10, x11⟩) HFu.out HB8.out HX.out.rises HNo.out.2 (by rw [HNo.out.1]; exact hp))
          have HAp := Lib.hid (show (applyV xs ⟨x0, x1, x2, x3, x4, x5, x6, x7, x8, x9, x10, x11⟩).2 = true by unfold applyV; rw [if_neg (by rw [HNo.out.2]; decide)])
          clear hp c0 c1 c2 c3 c4 e0 e1 e2 e3 e4 q a5 a6
          go_wp2
          go_ret
          exact ⟨by rw [HAp.out]; rfl, HDo.out⟩
end Go.Proofs.YtgbhfhnbmgkaoaaGreatDoor
