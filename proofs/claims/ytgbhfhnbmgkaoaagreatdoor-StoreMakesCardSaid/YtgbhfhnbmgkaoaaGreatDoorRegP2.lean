/-
  The contracts of the program's own Merge and Of of chapter 15. The condition: values of at most 2^48 bytes.
-/
import Derived.Test.YtgbhfhnbmgkaoaaGreatDoorRegP1
import Derived.Test.YtgbhfhnbmgkaoaaGreatDoorPart22
import Derived.Test.YtgbhfhnbmgkaoaaGreatDoorPart10
import Derived.Test.YtgbhfhnbmgkaoaaGreatDoorClone
import Derived.Deep.Cut
import Derived.Deep.RegionHeldLaw
import Derived.StillTailTactics
import Derived.Deep.LoopGhost
namespace Go.Proofs.YtgbhfhnbmgkaoaaGreatDoor
open Go.RowKit TextNat RegMath StampMath

set_option maxRecDepth 100000 in
theorem clone15 (s : ByteArray) (hs : s.size ≤ 281474976710656) (w : World) : Calls Tryz.prog 46 #[.string s] w fun e w' => e = .returned (.string s) ∧ Below w.heap.size w w' := by
  have HC := Lib.hid (fun w => Tryz.stringslite_Clone s w hs)
  clear hs
  go_enter Tryz.func46, Tryz.ntmps46
  go_wp2_with (go_at_call 62; refine (HC.out _).mono ?_; rintro e w2 ⟨rfl, hb⟩)
  have HB := Lib.hid hb
  clear hb
  go_wp2
  go_ret
  exact ⟨rfl, HB.out⟩
theorem results_one {P : Program} {fn : Func} {p : Tmp} {ty : TypeId} (h : fn.results = #[.cell p ty]) {tmps : Array Value} {w : World} {g : Nat} {T : TypeId} {cs : List Value} {d : TypeDesc}
    (hp : tmps.getD p undef = .pointer (some ⟨g, 0, none⟩)) (hg : Lies w g cs T)
    (hu : P.underlying ty = some d) (hd : (match d with | .struct _ | .array _ _ => true | _ => false) = true) (hi : (P.info? ty).map (·.size) = some cs.length) :
    (results fn tmps).run P w = .ok (.agg cs.toArray) w := results_cell_one h tmps w g T cs.toArray (0, 0) d hp hg hu hd (by rw [hi]; simp)
set_option maxRecDepth 100000 in
set_option maxHeartbeats 4000000 in
theorem ofOk : OfOk := by
  intro x w hI hs
  have HC := Lib.hid (fun w => clone15 x.value hs w)
  clear hI hs
  obtain ⟨x0, x1, x2, x3, x4, x5, x6, x7, x8, x9, x10, x11⟩ := x
  simp only [WriteV.val, RegV.val, ofV] at HC ⊢
  obtain ⟨W1, hW1⟩ : ∃ W1, W1 = w.alloc (.cells #[.int .i64 x0, .int .i64 x1, .int .i64 x2, .int .i64 x3, .slice x4 x5.length x6, .string x7, .string x8, .string x9, .bool x10, .int .i64 x11] 28) := ⟨_, rfl⟩
  obtain ⟨W2, hW2⟩ : ∃ W2, W2 = W1.alloc (.cells #[.int .i64 0, .int .i64 0, .string ⟨#[]⟩, .bool false, .int .i64 0] 58) := ⟨_, rfl⟩
  obtain ⟨A, hA⟩ : ∃ A, A = w.heap.size := ⟨_, rfl⟩
  obtain ⟨R, hR⟩ : ∃ R, R = w.heap.size + 1 := ⟨_, rfl⟩
  have hsz : W1.heap.size = w.heap.size + 1 := by rw [hW1]; simp
  have b1 : Below w.heap.size w W1 := by rw [hW1]; exact (Below.refl _ _).alloc (Nat.le_refl _) _
  have b2 : Below W1.heap.size W1 W2 := by rw [hW2]; exact (Below.refl _ _).alloc (Nat.le_refl _) _
  have HB2 := Lib.hid (b1.trans (b2.mono b1.size))
  have l1 : Lies W1 A [.int .i64 x0, .int .i64 x1, .int .i64 x2, .int .i64 x3, .slice x4 x5.length x6, .string x7, .string x8, .string x9, .bool x10, .int .i64 x11] 28 := by rw [hW1, hA]; exact Lies.new w _ _
  have L1 := Lib.hid (l1.below b2)
  have L2 := Lib.hid (show Lies W2 R [.int .i64 0, .int .i64 0, .string ⟨#[]⟩, .bool false, .int .i64 0] 58 by rw [hW2, hR, ← hsz]; exact Lies.new W1 _ _)
  have HAR := Lib.hid (show A < R ∧ w.heap.size ≤ R from ⟨by omega, by omega⟩)
  have HW1 := Lib.hid hW1; have HW2 := Lib.hid hW2; have HAe := Lib.hid hA; have HRe := Lib.hid hR
  have HZ := Lib.hid (show Below w.heap.size w W2 ∧ W2.cell? ⟨A, 0, none⟩ = some (.int .i64 x0) ∧ W2.cell? ⟨A, 1, none⟩ = some (.int .i64 x1) ∧ W2.cell? ⟨A, 2, none⟩ = some (.int .i64 x2) ∧ W2.cell? ⟨A, 3, none⟩ = some (.int .i64 x3) ∧ W2.cell? ⟨A, 4, none⟩ = some (.slice x4 x5.length x6) ∧ W2.cell? ⟨A, 5, none⟩ = some (.string x7) ∧ W2.cell? ⟨A, 6, none⟩ = some (.string x8) ∧ W2.cell? ⟨A, 7, none⟩ = some (.string x9) ∧ W2.cell? ⟨A, 8, none⟩ = some (.bool x10) ∧ W2.cell? ⟨A, 9, none⟩ = some (.int .i64 x11) from ⟨HB2.out, L1.out.cell (i := 0) rfl, L1.out.cell (i := 1) rfl, L1.out.cell (i := 2) rfl, L1.out.cell (i := 3) rfl, L1.out.cell (i := 4) rfl, L1.out.cell (i := 5) rfl, L1.out.cell (i := 6) rfl, L1.out.cell (i := 7) rfl, L1.out.cell (i := 8) rfl, L1.out.cell (i := 9) rfl⟩)
  clear hW1 hW2 hA hR b1 b2 l1 hsz
  go_enter Tryz.func40, Tryz.ntmps40
  go_upto_region 1 with fail
  rw [← HW1.out, ← HW2.out, ← HRe.out, ← HAe.out]
  have hz1 : Below w.heap.size w W2.drew ∧ W2.drew.cell? ⟨A, 0, none⟩ = some (.int .i64 x0) ∧ W2.drew.cell? ⟨A, 1, none⟩ = some (.int .i64 x1) ∧ W2.drew.cell? ⟨A, 2, none⟩ = some (.int .i64 x2) ∧ W2.drew.cell? ⟨A, 3, none⟩ = some (.int .i64 x3) ∧ W2.drew.cell? ⟨A, 4, none⟩ = some (.slice x4 x5.length x6) ∧ W2.drew.cell? ⟨A, 5, none⟩ = some (.string x7) ∧ W2.drew.cell? ⟨A, 6, none⟩ = some (.string x8) ∧ W2.drew.cell? ⟨A, 7, none⟩ = some (.string x9) ∧ W2.drew.cell? ⟨A, 8, none⟩ = some (.bool x10) ∧ W2.drew.cell? ⟨A, 9, none⟩ = some (.int .i64 x11) := ⟨HZ.out.1.drew, HZ.out.2⟩
  refine wp_region_held_drew (S := fun w' => Below w.heap.size w w' ∧ w'.cell? ⟨A, 0, none⟩ = some (.int .i64 x0) ∧ w'.cell? ⟨A, 1, none⟩ = some (.int .i64 x1) ∧ w'.cell? ⟨A, 2, none⟩ = some (.int .i64 x2) ∧ w'.cell? ⟨A, 3, none⟩ = some (.int .i64 x3) ∧ w'.cell? ⟨A, 4, none⟩ = some (.slice x4 x5.length x6) ∧ w'.cell? ⟨A, 5, none⟩ = some (.string x7) ∧ w'.cell? ⟨A, 6, none⟩ = some (.string x8) ∧ w'.cell? ⟨A, 7, none⟩ = some (.string x9) ∧ w'.cell? ⟨A, 8, none⟩ = some (.bool x10) ∧ w'.cell? ⟨A, 9, none⟩ = some (.int .i64 x11)) (by kernel_rfl) hz1 (fun hs0 => ?_)
  clear hz1
  refine wpAnyH_take (i := 0) (v := ?_) (by simp only [List.getElem?_toArray, List.getElem?_cons_zero]; rfl) (by kernel_rfl) (by kernel_rfl) (by kernel_rfl) (by intro _ _ _ h; exact h) (Or.inl ⟨by rfl, ?_⟩) (by assumption) ?_
  rotate_left
  · (intro w hSw; (try dsimp only at hSw); go_simp <;> with_reducible rfl)
  try simp only [Act.put, List.setIfInBounds_toArray, List.set_cons_zero, List.set_cons_succ]
  refine wpAnyH_take (i := 1) (v := ?_) (by simp only [List.getElem?_toArray, List.getElem?_cons_succ, List.getElem?_cons_zero]; rfl) (by kernel_rfl) (by kernel_rfl) (by kernel_rfl) (by intro _ _ _ h; exact h) (Or.inl ⟨by rfl, ?_⟩) (by assumption) ?_
  rotate_left
  · (intro w hSw; (try dsimp only at hSw); go_simp <;> with_reducible rfl)
  try simp only [Act.put, List.setIfInBounds_toArray, List.set_cons_zero, List.set_cons_succ]
  refine wpAnyH_take (i := 2) (v := ?_) (by simp only [List.getElem?_toArray, List.getElem?_cons_succ, List.getElem?_cons_zero]; rfl) (by kernel_rfl) (by kernel_rfl) (by kernel_rfl) (by intro _ _ _ h; exact h) (Or.inl ⟨by rfl, ?_⟩) (by assumption) ?_
  rotate_left
  · (intro w hSw; (try dsimp only at hSw); go_simp <;> with_reducible rfl)
  try simp only [Act.put, List.setIfInBounds_toArray, List.set_cons_zero, List.set_cons_succ]
  refine wpAnyH_take (i := 3) (v := ?_) (by simp only [List.getElem?_toArray, List.getElem?_cons_succ, List.getElem?_cons_zero]; rfl) (by kernel_rfl) (by kernel_rfl) (by kernel_rfl) (by intro _ _ _ h; exact h) (Or.inl ⟨by rfl, ?_⟩) (by assumption) ?_
  rotate_left
  · (intro w hSw; (try dsimp only at hSw); go_simp <;> with_reducible rfl)
  try simp only [Act.put, List.setIfInBounds_toArray, List.set_cons_zero, List.set_cons_succ]
  refine wpAnyH_take (i := 5) (v := ?_) (by simp only [List.getElem?_toArray, List.getElem?_cons_succ, List.getElem?_cons_zero]; rfl) (by kernel_rfl) (by kernel_rfl) (by kernel_rfl) (by intro _ _ _ h; exact h) (Or.inl ⟨by rfl, ?_⟩) (by assumption) ?_
  rotate_left
  · (intro w hSw; (try dsimp only at hSw); go_simp <;> with_reducible rfl)
  try simp only [Act.put, List.setIfInBounds_toArray, List.set_cons_zero, List.set_cons_succ]
  refine wpAnyH_take (i := 6) (v := ?_) (by simp only [List.getElem?_toArray, List.getElem?_cons_succ, List.getElem?_cons_zero]; rfl) (by kernel_rfl) (by kernel_rfl) (by kernel_rfl) (by intro _ _ _ h; exact h) (Or.inl ⟨by rfl, ?_⟩) (by assumption) ?_
  rotate_left
  · (intro w hSw; (try dsimp only at hSw); go_simp <;> with_reducible rfl)
  try simp only [Act.put, List.setIfInBounds_toArray, List.set_cons_zero, List.set_cons_succ]
  refine wpAnyH_take (i := 7) (v := ?_) (by simp only [List.getElem?_toArray, List.getElem?_cons_succ, List.getElem?_cons_zero]; rfl) (by kernel_rfl) (by kernel_rfl) (by kernel_rfl) (by intro _ _ _ h; exact h) (Or.inl ⟨by rfl, ?_⟩) (by assumption) ?_
  rotate_left
  · (intro w hSw; (try dsimp only at hSw); go_simp <;> with_reducible rfl)
  try simp only [Act.put, List.setIfInBounds_toArray, List.set_cons_zero, List.set_cons_succ]
  refine wpAnyH_take (i := 8) (v := ?_) (by simp only [List.getElem?_toArray, List.getElem?_cons_succ, List.getElem?_cons_zero]; rfl) (by kernel_rfl) (by kernel_rfl) (by kernel_rfl) (by intro _ _ _ h; exact h) (Or.inl ⟨by rfl, ?_⟩) (by assumption) ?_
  rotate_left
  · (intro w hSw; (try dsimp only at hSw); go_simp <;> with_reducible rfl)
  try simp only [Act.put, List.setIfInBounds_toArray, List.set_cons_zero, List.set_cons_succ]
  refine wpAnyH_ready (rs := [4]) (by kernel_rfl) (by simp) ?_
  refine AllReadyH.cons rfl (fun K hK => ?_) AllReadyH.nil
  go_simp
  refine (HC.out _).mono ?_
  rintro e wn ⟨rfl, hbb⟩
  refine hK.out _ _ (keepWrite hs0 hbb) (fun hs1 => ?_)
  have hb2 : Below W2.heap.size W2 wn := ⟨hbb.os, hbb.tape, hbb.output, hbb.size, hbb.block⟩
  have LA := Lib.hid (L1.out.below hb2)
  have LR := Lib.hid (L2.out.below hb2)
  clear hK K hs0 hbb hb2
  refine wpAnyH_take (i := 9) (v := ?_) (by simp only [List.getElem?_toArray, List.getElem?_cons_succ, List.getElem?_cons_zero]; rfl) (by kernel_rfl) (by kernel_rfl) (by kernel_rfl) (by intro _ _ _ h; exact h) (Or.inl ⟨by rfl, ?_⟩) (by assumption) ?_
  rotate_left
  · (intro w hSw; (try dsimp only at hSw); go_simp <;> with_reducible rfl)
  try simp only [Act.put, List.setIfInBounds_toArray, List.set_cons_zero, List.set_cons_succ]
  refine wpAnyH_ready (rs := [10]) (by kernel_rfl) (by simp) ?_
  refine AllReadyH.cons rfl (fun K hK => ?_) AllReadyH.nil
  have c0 := LR.out.cell (i := 0) rfl; have c1 := LR.out.cell (i := 1) rfl; have c2 := LR.out.cell (i := 2) rfl; have c3 := LR.out.cell (i := 3) rfl; have c4 := LR.out.cell (i := 4) rfl
  have f0 := LR.out.free 0; have f1 := LR.out.free 1; have f2 := LR.out.free 2; have f3 := LR.out.free 3; have f4 := LR.out.free 4
  have HS1 := Lib.hid hs1.1
  clear hs1
  go_simp
  obtain ⟨q2, q3⟩ := put_five LR.out rfl (.int .i64 x2) (.int .i64 x3) (.string x9) (.bool x10) (.int .i64 x11)
  have Q2 := Lib.hid q2
  have Q3 := Lib.hid q3
  have LA3 := Lib.hid (Lies.but LA.out q3 (by have := HAR.out.1; omega))
  have HZ3 := Lib.hid (HS1.out.trans ((But.below q3 (Nat.le_of_lt LR.out.lt)).mono HAR.out.2))
  clear q2 q3 f0 f1 f2 f3 f4 c0 c1 c2 c3 c4
  refine hK.out _ _ ⟨HZ3.out, LA3.out.cell (i := 0) rfl, LA3.out.cell (i := 1) rfl, LA3.out.cell (i := 2) rfl, LA3.out.cell (i := 3) rfl, LA3.out.cell (i := 4) rfl, LA3.out.cell (i := 5) rfl, LA3.out.cell (i := 6) rfl, LA3.out.cell (i := 7) rfl, LA3.out.cell (i := 8) rfl, LA3.out.cell (i := 9) rfl⟩ (fun _ => ?_)
  clear hK K
  refine wpAnyH_done (by kernel_rfl) ?_ _
  go_wp2_with fail
  refine bodyPost_ret (results_one Tryz.results40 rfl Q2.out Tryz.underlying58 rfl (by kernel_rfl)) rfl ?_
  exact ⟨rfl, HZ3.out⟩
/-- One more. -/
theorem mergeV_more {ys : List RegV} (h : ys ≠ []) (x : RegV) : mergeV (ys ++ [x]) = if above x.c (mergeV ys).c = true then x else mergeV ys := by
  apply RegV.c_one
  rw [mergeV_c (by simp)]
  have h1 : Wins (ys.map RegV.c) (mergeV ys).c := by rw [mergeV_c h]; exact merge_wins (by simpa using h)
  have h2 := higher_wins (x := x.c) h1
  have h3 : merge ((ys ++ [x]).map RegV.c) = higher x.c (mergeV ys).c := by
    rw [merge_same (l' := x.c :: ys.map RegV.c) (by intro c; simp [or_comm])]
    exact merge_is h2
  rw [h3]
  unfold higher
  split <;> rfl
theorem mergeV_single (x : RegV) : mergeV [x] = x := by
  have := mergeV_mem (l := [x]) (by simp)
  exact List.mem_singleton.1 this
set_option maxRecDepth 100000 in
set_option maxHeartbeats 8000000 in
theorem mergeOk : MergeOk := by
  intro p c xs w h hc hcm hl hs
  obtain ⟨N, hN⟩ : ∃ N, N = xs.length := ⟨_, rfl⟩
  obtain ⟨W0, hW0⟩ : ∃ W0, W0 = w.alloc (.cells #[.int .i64 0, .int .i64 0, .string ⟨#[]⟩, .bool false, .int .i64 0] 58) := ⟨_, rfl⟩
  have hB0 : Below w.heap.size w W0 := by rw [hW0]; exact (Below.refl _ _).alloc (Nat.le_refl _) _
  have HI := Lib.hid (h.grown hB0)
  have HB0 := Lib.hid hB0
  have HR0 := Lib.hid (show Lies W0 w.heap.size [.int .i64 0, .int .i64 0, .string ⟨#[]⟩, .bool false, .int .i64 0] 58 by rw [hW0]; exact Lies.new w _ _)
  have HN := Lib.hid hN
  have HW := Lib.hid hW0
  have HS := Lib.hid hs
  have HSz := Lib.hid (show W0.heap.size = w.heap.size + 1 by rw [hW0]; simp)
  rw [← hN] at hl hc ⊢
  clear h hN hB0 hW0 hs
  by_cases h0 : N = 0
  · have z0 : ((N : Int) == 0) = true := by rw [beq_iff_eq]; omega
    have z0' : (N == 0) = true := by rw [beq_iff_eq]; omega
    have HG := Lib.hid (show mergeV xs = zeroR by
      obtain rfl : xs = [] := List.length_eq_zero_iff.1 (by rw [← HN.out]; exact h0)
      rfl)
    clear h0
    have c0 := HR0.out.cell (i := 0) rfl; have c1 := HR0.out.cell (i := 1) rfl; have c2 := HR0.out.cell (i := 2) rfl; have c3 := HR0.out.cell (i := 3) rfl; have c4 := HR0.out.cell (i := 4) rfl
    have f0 := HR0.out.free 0; have f1 := HR0.out.free 1; have f2 := HR0.out.free 2; have f3 := HR0.out.free 3; have f4 := HR0.out.free 4
    go_enter Tryz.func41, Tryz.ntmps41
    go_upto_region 1 with fail
    rw [← HW.out]
    go_wp2
    obtain ⟨q2, q3⟩ := put_five HR0.out rfl (.int .i64 0) (.int .i64 0) (.string ⟨#[]⟩) (.bool false) (.int .i64 0)
    refine bodyPost_ret (results_one Tryz.results41 rfl q2 Tryz.underlying58 rfl (by kernel_rfl)) rfl ?_
    exact ⟨by rw [HG.out]; rfl, HB0.out.trans (q3.below HB0.out.size)⟩
  have z0 : ((N : Int) == 0) = false := by rw [beq_eq_false_iff_ne]; omega
  have z0' : (N == 0) = false := by rw [beq_eq_false_iff_ne]; omega
  obtain ⟨a, ha⟩ : ∃ a, xs[0]? = some a := ⟨_, List.getElem?_eq_getElem (by rw [← HN.out]; omega)⟩
  have HA := Lib.hid ha
  obtain ⟨b, off, rfl, x0, x1, x2, x3, x4⟩ := HI.out 0 a ha
  rw [Nat.zero_mul, Nat.add_zero] at x0 x1 x2 x3 x4
  have t1 : (0 : Int) < (N : Int) := by omega
  have t2 : (1 : Int) ≤ (N : Int) := by omega
  have t3 : (1 : Int) ≤ (c : Int) := by omega
  clear ha
  go_enter Tryz.func41, Tryz.ntmps41
  go_upto_region 1 with fail
  rw [← HW.out]
  obtain ⟨T, hT⟩ : ∃ T, T = W0.heap.size := ⟨_, rfl⟩
  obtain ⟨W1, hW1⟩ : ∃ W1, W1 = W0.alloc (.cells #[.int .i64 a.time, .int .i64 a.region, .string a.value, .bool a.gone, .int .i64 a.life] 58) := ⟨_, rfl⟩
  have b1 : Below W0.heap.size W0 W1 := by rw [hW1]; exact (Below.refl _ _).alloc (Nat.le_refl _) _
  have HL1 := Lib.hid (show Lies W1 T (mergeV (xs.take (0 + 1))).cells 58 by
    have : xs.take (0 + 1) = [a] := by rw [List.take_add_one, HA.out]; rfl
    rw [this, mergeV_single, hW1, hT]
    exact Lies.new W0 a.cells _)
  have HB1 := Lib.hid (HB0.out.trans (b1.mono HB0.out.size))
  have HR1 := Lib.hid (HR0.out.below b1)
  have HI1 := Lib.hid (HI.out.grown b1)
  have HT := Lib.hid (show w.heap.size < T by rw [hT, HSz.out]; omega)
  have HT1 := Lib.hid (show W1.heap.size = T + 1 by rw [hW1, hT]; simp)
  have HW1 := Lib.hid hW1; have HTe := Lib.hid hT
  clear hW1 hT b1
  go_upto_region 4 with fail
  clear x0 x1 x2 x3 x4
  rw [← HW1.out, ← HTe.out]
  have HT0 := Lib.hid (show W0.heap.size = T from HTe.out.symm)
  have HB01 := Lib.hid (show Below W0.heap.size W0 W1 by rw [HW1.out]; exact (Below.refl _ _).alloc (Nat.le_refl _) _)
  by_cases hc1 : c = 1
  case pos =>
    go_wp2_with fail
    obtain ⟨M, hM⟩ : ∃ M, M = N - 1 := ⟨_, rfl⟩
    rw [← hM]
    have HNM := Lib.hid (show N = M + 1 by omega)
    have hMl : M ≤ 1000 := by omega
    clear hM
    go_loopg [16] M (fun gh s16 wx => ∃ i : Nat, i + gh = M ∧ s16 = .int .i64 (i : Int) ∧ Hid (But T W1 wx) ∧ Hid (Lies wx T (mergeV (xs.take (i + 1))).cells 58))
    case atStart => exact ⟨0, by omega, by go_num, Lib.hid (But.refl _ _), HL1⟩
    case round =>
    obtain ⟨i, hi, rfl, HBu, HL⟩ := hrel
    rename World => W
    have HB := Lib.hid (show Below W0.heap.size W0 W from HB01.out.trans ((But.below HBu.out (by have := HT1.out; omega)).mono (Nat.le_of_eq HT0.out)))
    by_cases hlt : i < M
    case pos =>
      exfalso
      have hNM := HNM.out
      omega
    case neg =>
      have hNM := HNM.out
      have q1 : decide ((i : Int) < (M : Int)) = false := decide_eq_false (by omega)
      have q1' : decide (i < M) = false := decide_eq_false hlt
      have hMv : mergeV (xs.take (i + 1)) = mergeV xs := by rw [List.take_of_length_le (by rw [← HN.out]; omega)]
      obtain ⟨m, hm⟩ : ∃ m, m = mergeV xs := ⟨_, rfl⟩
      have HC := Lib.hid (fun w => clone15 m.value (by rw [hm]; exact HS.out.one (fun e => by have := congrArg List.length e; rw [List.length_nil, ← HN.out] at this; omega)) w)
      rw [hMv, ← hm] at HL
      have HMv := Lib.hid hm
      have HRw := Lib.hid ((HBu.out.block w.heap.size (by rw [HT1.out]; have := HT.out; omega) (by have := HT.out; omega)).trans HR1.out)
      have HRl := Lib.hid (show Lies W w.heap.size [.int .i64 0, .int .i64 0, .string ⟨#[]⟩, .bool false, .int .i64 0] 58 from HRw.out)
      have c0 := HL.out.cell (i := 0) rfl; have c1 := HL.out.cell (i := 1) rfl; have c2 := HL.out.cell (i := 2) rfl; have c3 := HL.out.cell (i := 3) rfl; have c4 := HL.out.cell (i := 4) rfl
      have n1 : ¬ w.heap.size = T := by have := HT.out; omega
      have n2 : ¬ T = w.heap.size := by have := HT.out; omega
      clear hNM hMv hm hi hlt HRw
      go_wp2_with (go_at_call 46; refine (HC.out _).mono ?_; rintro e wm ⟨rfl, hb⟩; have HLm := Lib.hid (HL.out.below hb); have HRm := Lib.hid (HRl.out.below hb); have HBm := Lib.hid (HBu.out.trans (But.of hb)); clear hb c0 c1 c2 c3 c4; have c0 := HLm.out.cell (i := 0) rfl; have c1 := HLm.out.cell (i := 1) rfl; have c2 := HLm.out.cell (i := 2) rfl; have c3 := HLm.out.cell (i := 3) rfl; have c4 := HLm.out.cell (i := 4) rfl; have k0 := HLm.out.free 0; have k1 := HLm.out.free 1; have k2 := HLm.out.free 2; have k3 := HLm.out.free 3; have k4 := HLm.out.free 4; have e0 := HRm.out.cell (i := 0) rfl; have e1 := HRm.out.cell (i := 1) rfl; have e2 := HRm.out.cell (i := 2) rfl; have e3 := HRm.out.cell (i := 3) rfl; have e4 := HRm.out.cell (i := 4) rfl; have f0 := HRm.out.free 0; have f1 := HRm.out.free 1; have f2 := HRm.out.free 2; have f3 := HRm.out.free 3; have f4 := HRm.out.free 4)
      have hbt := HBm.out.trans (But.set T 2 wm (.string m.value))
      obtain ⟨q2, q3⟩ := put_five (Lies.but HRm.out (But.set T 2 wm (.string m.value)) n1) rfl (.int .i64 m.time) (.int .i64 m.region) (.string m.value) (.bool m.gone) (.int .i64 m.life)
      refine bodyPost_ret (results_one Tryz.results41 rfl q2 Tryz.underlying58 rfl (by kernel_rfl)) rfl ?_
      refine ⟨by rw [← HMv.out]; rfl, ?_⟩
      have h1 := HB1.out.trans ((But.below hbt (by have := HT1.out; omega)).mono (by have := HT.out; omega))
      exact h1.trans (q3.below h1.size)
  case neg =>
    go_wp2_with fail
    obtain ⟨M, hM⟩ : ∃ M, M = N - 1 := ⟨_, rfl⟩
    rw [← hM]
    have HNM := Lib.hid (show N = M + 1 by omega)
    have hMl : M ≤ 1000 := by omega
    clear hM
    go_loopg [16] M (fun gh s16 wx => ∃ i : Nat, i + gh = M ∧ s16 = .int .i64 (i : Int) ∧ Hid (But T W1 wx) ∧ Hid (Lies wx T (mergeV (xs.take (i + 1))).cells 58))
    case atStart => exact ⟨0, by omega, by go_num, Lib.hid (But.refl _ _), HL1⟩
    case round =>
    obtain ⟨i, hi, rfl, HBu, HL⟩ := hrel
    rename World => W
    have HB := Lib.hid (show Below W0.heap.size W0 W from HB01.out.trans ((But.below HBu.out (by have := HT1.out; omega)).mono (Nat.le_of_eq HT0.out)))
    by_cases hlt : i < M
    case pos =>
      have hNM := HNM.out
      have q1 : decide ((i : Int) < (M : Int)) = true := decide_eq_true (by omega)
      have q1' : decide (i < M) = true := decide_eq_true hlt
      obtain ⟨x, hx⟩ : ∃ x, xs[i + 1]? = some x := ⟨_, List.getElem?_eq_getElem (by rw [← HN.out]; omega)⟩
      obtain ⟨b', off', hp', y0, y1, y2, y3, y4⟩ := (HI.out.grown HB.out) (i + 1) x hx
      obtain ⟨rfl, rfl⟩ : b = b' ∧ off = off' := by simpa using hp'
      rw [show off + (i + 1) * 5 = off + 5 + i * 5 by omega] at y0 y1 y2 y3 y4
      have dI : (i : Int) < (M : Int) := by omega
      have HIn := Lib.hid (And.intro hi hlt)
      obtain ⟨m, hm⟩ : ∃ m, m = mergeV (xs.take (i + 1)) := ⟨_, rfl⟩
      have HMo := Lib.hid (show mergeV (xs.take (i + 1 + 1)) = if above x.c m.c = true then x else m by
        rw [hm, List.take_add_one, hx]
        exact mergeV_more (fun e => by have := congrArg List.length e; rw [List.length_take, List.length_nil, ← HN.out] at this; omega) x)
      rw [← hm] at HL
      obtain ⟨W9, hW9⟩ : ∃ W9, W9 = W.alloc (.cells #[.int .i64 x.time, .int .i64 x.region, .string x.value, .bool x.gone, .int .i64 x.life] 58) := ⟨_, rfl⟩
      obtain ⟨X, hX⟩ : ∃ X, X = W.heap.size := ⟨_, rfl⟩
      have b9 : Below W.heap.size W W9 := by rw [hW9]; exact (Below.refl _ _).alloc (Nat.le_refl _) _
      have LX := Lib.hid (show Lies W9 X x.cells 58 by rw [hW9, hX]; exact Lies.new W x.cells _)
      have LT := Lib.hid (HL.out.below b9)
      have HX := Lib.hid (show T < X by rw [hX]; exact HL.out.lt)
      have HB9 := Lib.hid (HBu.out.trans (But.of b9))
      have HAb := Lib.hid (aboveOk x m W9)
      obtain ⟨bb, hbb⟩ : ∃ bb, bb = above x.c m.c := ⟨_, rfl⟩
      rw [← hbb] at HMo HAb
      simp only [RegV.val] at HAb
      have c0 := LX.out.cell (i := 0) rfl; have c1 := LX.out.cell (i := 1) rfl; have c2 := LX.out.cell (i := 2) rfl; have c3 := LX.out.cell (i := 3) rfl; have c4 := LX.out.cell (i := 4) rfl
      have d0 := LT.out.cell (i := 0) rfl; have d1 := LT.out.cell (i := 1) rfl; have d2 := LT.out.cell (i := 2) rfl; have d3 := LT.out.cell (i := 3) rfl; have d4 := LT.out.cell (i := 4) rfl
      have HW9 := Lib.hid hW9; have HXe := Lib.hid hX
      clear hNM hx hp' hi hlt hm hW9 hX b9 hbb
      go_upto_region 7 with fail
      rw [← HW9.out, ← HXe.out]
      clear y0 y1 y2 y3 y4
      cases bb with
      | true =>
        go_wp2_with (go_at_call 60; refine HAb.out.mono ?_; rintro e wm ⟨rfl, hb⟩; have HLm := Lib.hid (LT.out.below hb); have HXm := Lib.hid (LX.out.below hb); have HBm := Lib.hid (HB9.out.trans (But.of hb)); clear hb c0 c1 c2 c3 c4 d0 d1 d2 d3 d4; have c0 := HXm.out.cell (i := 0) rfl; have c1 := HXm.out.cell (i := 1) rfl; have c2 := HXm.out.cell (i := 2) rfl; have c3 := HXm.out.cell (i := 3) rfl; have c4 := HXm.out.cell (i := 4) rfl; have d0 := HLm.out.cell (i := 0) rfl; have d1 := HLm.out.cell (i := 1) rfl; have d2 := HLm.out.cell (i := 2) rfl; have d3 := HLm.out.cell (i := 3) rfl; have d4 := HLm.out.cell (i := 4) rfl; have k0 := HLm.out.free 0; have k1 := HLm.out.free 1; have k2 := HLm.out.free 2; have k3 := HLm.out.free 3; have k4 := HLm.out.free 4)
        obtain ⟨u2, u3⟩ := put_five HLm.out rfl (.int .i64 x.time) (.int .i64 x.region) (.string x.value) (.bool x.gone) (.int .i64 x.life)
        go_roundg (M - (i + 1))
        case measure => have := HIn.out; omega
        case rel => exact ⟨i + 1, by have := HIn.out; omega, by have h1 := HNM.out; have h2 := HIn.out; go_num, Lib.hid (HBm.out.trans u3), Lib.hid (by rw [HMo.out]; exact u2)⟩
      | false =>
        go_wp2_with (go_at_call 60; refine HAb.out.mono ?_; rintro e wm ⟨rfl, hb⟩; have HLm := Lib.hid (LT.out.below hb); have HBm := Lib.hid (HB9.out.trans (But.of hb)); clear hb c0 c1 c2 c3 c4 d0 d1 d2 d3 d4)
        go_roundg (M - (i + 1))
        case measure => have := HIn.out; omega
        case rel => exact ⟨i + 1, by have := HIn.out; omega, by have h1 := HNM.out; have h2 := HIn.out; go_num, HBm, Lib.hid (by rw [HMo.out]; exact HLm.out)⟩
    case neg =>
      have hNM := HNM.out
      have q1 : decide ((i : Int) < (M : Int)) = false := decide_eq_false (by omega)
      have q1' : decide (i < M) = false := decide_eq_false hlt
      have hMv : mergeV (xs.take (i + 1)) = mergeV xs := by rw [List.take_of_length_le (by rw [← HN.out]; omega)]
      obtain ⟨m, hm⟩ : ∃ m, m = mergeV xs := ⟨_, rfl⟩
      have HC := Lib.hid (fun w => clone15 m.value (by rw [hm]; exact HS.out.one (fun e => by have := congrArg List.length e; rw [List.length_nil, ← HN.out] at this; omega)) w)
      rw [hMv, ← hm] at HL
      have HMv := Lib.hid hm
      have HRw := Lib.hid ((HBu.out.block w.heap.size (by rw [HT1.out]; have := HT.out; omega) (by have := HT.out; omega)).trans HR1.out)
      have HRl := Lib.hid (show Lies W w.heap.size [.int .i64 0, .int .i64 0, .string ⟨#[]⟩, .bool false, .int .i64 0] 58 from HRw.out)
      have c0 := HL.out.cell (i := 0) rfl; have c1 := HL.out.cell (i := 1) rfl; have c2 := HL.out.cell (i := 2) rfl; have c3 := HL.out.cell (i := 3) rfl; have c4 := HL.out.cell (i := 4) rfl
      have n1 : ¬ w.heap.size = T := by have := HT.out; omega
      have n2 : ¬ T = w.heap.size := by have := HT.out; omega
      clear hNM hMv hm hi hlt HRw
      go_wp2_with (go_at_call 46; refine (HC.out _).mono ?_; rintro e wm ⟨rfl, hb⟩; have HLm := Lib.hid (HL.out.below hb); have HRm := Lib.hid (HRl.out.below hb); have HBm := Lib.hid (HBu.out.trans (But.of hb)); clear hb c0 c1 c2 c3 c4; have c0 := HLm.out.cell (i := 0) rfl; have c1 := HLm.out.cell (i := 1) rfl; have c2 := HLm.out.cell (i := 2) rfl; have c3 := HLm.out.cell (i := 3) rfl; have c4 := HLm.out.cell (i := 4) rfl; have k0 := HLm.out.free 0; have k1 := HLm.out.free 1; have k2 := HLm.out.free 2; have k3 := HLm.out.free 3; have k4 := HLm.out.free 4; have e0 := HRm.out.cell (i := 0) rfl; have e1 := HRm.out.cell (i := 1) rfl; have e2 := HRm.out.cell (i := 2) rfl; have e3 := HRm.out.cell (i := 3) rfl; have e4 := HRm.out.cell (i := 4) rfl; have f0 := HRm.out.free 0; have f1 := HRm.out.free 1; have f2 := HRm.out.free 2; have f3 := HRm.out.free 3; have f4 := HRm.out.free 4)
      have hbt := HBm.out.trans (But.set T 2 wm (.string m.value))
      obtain ⟨q2, q3⟩ := put_five (Lies.but HRm.out (But.set T 2 wm (.string m.value)) n1) rfl (.int .i64 m.time) (.int .i64 m.region) (.string m.value) (.bool m.gone) (.int .i64 m.life)
      refine bodyPost_ret (results_one Tryz.results41 rfl q2 Tryz.underlying58 rfl (by kernel_rfl)) rfl ?_
      refine ⟨by rw [← HMv.out]; rfl, ?_⟩
      have h1 := HB1.out.trans ((But.below hbt (by have := HT1.out; omega)).mono (by have := HT.out; omega))
      exact h1.trans (q3.below h1.size)
end Go.Proofs.YtgbhfhnbmgkaoaaGreatDoor
