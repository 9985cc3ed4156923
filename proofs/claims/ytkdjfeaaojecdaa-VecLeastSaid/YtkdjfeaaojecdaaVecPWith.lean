/-
  The contract of the program's With of chapter 6. No conditions but those typed.
-/
import Derived.Test.YtkdjfeaaojecdaaVecRow
namespace Go.Proofs.Ytkdjfeaaojecdaa
open Go.RowKit

theorem new_cell {w : World} {B g n cap : Nat} {L : List Int} (h : NewVec B w (.slice (some ⟨g, 0, none⟩) n cap) L) {j : Nat} (hj : j < n) : ∃ z, L[j]? = some z ∧ w.cell? ⟨g, j, none⟩ = some (.int .i64 z) ∧ w.frozen? ⟨g, j, none⟩ = false := by
  have hn : n = L.length := by
    obtain ⟨p, c, he⟩ := OwnsM.shape h
    simpa using congrArg (fun v => match v with | .slice _ m _ => m | _ => 0) he
  subst hn
  obtain ⟨g', cap', hv, _, _, _, _, hc, hf⟩ := OwnsM.open h (by omega)
  obtain ⟨rfl, rfl⟩ : g = g' ∧ cap = cap' := by simpa using hv
  have hz : L[j]? = some L[j] := List.getElem?_eq_getElem hj
  refine ⟨_, hz, ?_, hf j hj⟩
  rw [hc j hj, List.getElem?_map, hz]
  rfl
set_option maxRecDepth 100000 in
set_option maxHeartbeats 4000000 in
theorem withOk : WithOk := by
  intro p c l r n w h hl hc hr hn
  have HTv := Lib.hid (trimOk p c l w h hl hc)
  have HF := Lib.hid (h.fits)
  have HI := Lib.hid h
  obtain ⟨N, hN⟩ : ∃ N, N = l.length := ⟨_, rfl⟩
  have HN := Lib.hid hN
  rw [← hN] at hl hc HTv ⊢
  have HB := Lib.hid (Below.refl w.heap.size w)
  clear h hN
  by_cases h1 : r < 1
  · have t1 : decide (r < 1) = true := decide_eq_true h1
    have HE := Lib.hid (show VecMath.with_ l r n = VecMath.trim l by unfold VecMath.with_; rw [if_neg (by omega)])
    go_enter Try.func10, Try.ntmps10
    go_wp2_with (go_at_call 14; refine HTv.out.mono ?_; rintro e w2 ⟨⟨v, rfl, hv⟩, hb⟩)
    go_ret
    exact ⟨⟨_, rfl, by rw [HE.out]; exact hv⟩, hb⟩
  · have t1 : decide (r < 1) = false := decide_eq_false h1
    by_cases h2 : 16 < r
    · have t2 : decide (16 < r) = true := decide_eq_true h2
      have HE := Lib.hid (show VecMath.with_ l r n = VecMath.trim l by unfold VecMath.with_; rw [if_neg (by omega)])
      go_enter Try.func10, Try.ntmps10
      go_wp2_with (go_at_call 14; refine HTv.out.mono ?_; rintro e w2 ⟨⟨v, rfl, hv⟩, hb⟩)
      go_ret
      exact ⟨⟨_, rfl, by rw [HE.out]; exact hv⟩, hb⟩
    · have t2 : decide (16 < r) = false := decide_eq_false h2
      obtain ⟨M, hM⟩ : ∃ M : Nat, r = (M : Int) := ⟨r.toNat, by omega⟩
      subst hM
      have hM1 : 1 ≤ M := by omega
      have hM2 : M ≤ 16 := by omega
      clear HTv
      by_cases hNM : N < M
      · have hmk := made_noughts M (by omega)
        obtain ⟨Z, hZ⟩ : ∃ Z, Z = List.replicate M (Value.int .i64 0) := ⟨_, rfl⟩
        rw [← hZ] at hmk
        obtain ⟨X, hX⟩ : ∃ X, X = l.map (Value.int .i64) := ⟨_, rfl⟩
        obtain ⟨L1, hL1⟩ : ∃ L1, L1 = l ++ List.replicate (M - N) 0 := ⟨_, rfl⟩
        have HG := Lib.hid (show (w.alloc (.cells Z.toArray 3)).heap[w.heap.size]? = some (.cells Z.toArray 3 (0, 0)) from heap_alloc_new w _)
        have HXl := Lib.hid (show X.length = Nat.min N M by rw [hX, List.length_map, ← HN.out]; simp only [Nat.min_def]; split <;> omega)
        have HXc := Lib.hid (show 0 < X.length → (some ⟨w.heap.size, 0, none⟩ : Option Addr) = some ⟨w.heap.size, 0, none⟩ ∧ ∃ ad, p = some ad ∧ ∀ j v, X[j]? = some v → (w.alloc (.cells Z.toArray 3)).cell? (ad.add j) = some v from fun hx => by
          have hall := cells_taken (HI.out.grown ((Below.refl w.heap.size w).alloc (Nat.le_refl _) (.cells Z.toArray 3))) l.length
          rw [List.take_length, ← hX] at hall
          refine ⟨rfl, ?_⟩
          obtain ⟨ad, hp, _⟩ := hall 0 X[0] (List.getElem?_eq_getElem hx)
          refine ⟨ad, hp, fun j v hj => ?_⟩
          obtain ⟨ad2, hp2, hc2⟩ := hall j v hj
          obtain rfl : ad = ad2 := Option.some.inj (hp.symm.trans hp2)
          exact hc2)
        have HX1 := Lib.hid (show ∀ v ∈ X, v.oneCell' = true from fun v hv => by rw [hX] at hv; obtain ⟨z, _, rfl⟩ := List.mem_map.1 hv; rfl)
        have HZl := Lib.hid (show Z.length = M by rw [hZ]; simp)
        have HXf := Lib.hid (show 0 + X.length ≤ Z.length by rw [HZl.out, hX, List.length_map, ← HN.out]; omega)
        have HS := Lib.hid (show splice Z 0 X = L1.map (Value.int .i64) by
          unfold splice
          rw [hX, hZ, hL1, List.length_map, ← HN.out]
          simp [List.drop_replicate])
        have HLn := Lib.hid (show L1.length = M by rw [hL1, List.length_append, List.length_replicate, ← HN.out]; omega)
        have HE := Lib.hid (show VecMath.with_ l (M : Int) n = VecMath.trim (L1.set (M - 1) n) by rw [hL1]; exact VecMath.with_set hM1 hM2 (by rw [← HN.out]; omega))
        have HFs := Lib.hid (show Fits (L1.set (M - 1) n) by rw [hL1]; exact (HF.out.pad (M - N)).set (M - 1) hn)
        have HBa := Lib.hid ((Below.refl w.heap.size w).alloc (Nat.le_refl _) (.cells Z.toArray 3))
        clear hZ hX hL1
        go_enter Try.func10, Try.ntmps10
        go_wp2_with (refine wpList_copy_splice rfl _ _ 26 26 rfl 3 Try.underlying26 (by kernel_rfl) (some ⟨w.heap.size, 0, none⟩) p M M N c rfl rfl w.heap.size 0 Z 3 HG.out X HXl.out HXc.out HXf.out HX1.out w.heap.size w HBa.out (Nat.le_refl _) ?_; intro w2 HG2 hB2; have HV := Lib.hid (show NewVec w.heap.size w2 (.slice (some ⟨w.heap.size, 0, none⟩) M M) L1 from by have hv := NewVec.whole (B := w.heap.size) HS.out HG2.out (Nat.le_refl _) (by rw [HLn.out]; omega); rw [HLn.out] at hv; exact hv); obtain ⟨x0, _, hx0, hfz⟩ := new_cell HV.out (j := M - 1) (by omega); have HB2 := Lib.hid hB2; clear hB2 HG2)
        have HV3 := Lib.hid (HV.out.set (M - 1) n)
        have HB3 := Lib.hid (below_store (j := M - 1) (v := .int .i64 n) HB2.out (Nat.le_refl _))
        obtain ⟨p5, c5, hv5, hi5, _⟩ := NewVec.slice HV3.out HFs.out
        have hl5 : (L1.set (M - 1) n).length = M := by rw [List.length_set, HLn.out]
        rw [hl5] at hv5
        obtain ⟨hp5, hc5⟩ : (some ⟨w.heap.size, 0, none⟩ : Option Addr) = p5 ∧ M = c5 := by simpa using hv5
        subst hp5
        have hT := trimOk _ M _ _ hi5 (by rw [hl5]; omega) (by rw [hl5]; omega)
        rw [hl5] at hT
        refine hT.mono ?_
        rintro e w4 ⟨⟨v, rfl, hv⟩, hb4⟩
        replace hv := Lib.hid hv
        replace hb4 := Lib.hid hb4
        go_wp2
        go_ret
        exact ⟨⟨_, rfl, by rw [HE.out]; exact hv.out.weaken HB3.out.size⟩, HB3.out.trans (hb4.out.mono HB3.out.size)⟩
      · have hmk := made_noughts N (by omega)
        obtain ⟨Z, hZ⟩ : ∃ Z, Z = List.replicate N (Value.int .i64 0) := ⟨_, rfl⟩
        rw [← hZ] at hmk
        obtain ⟨X, hX⟩ : ∃ X, X = l.map (Value.int .i64) := ⟨_, rfl⟩
        obtain ⟨L1, hL1⟩ : ∃ L1, L1 = l ++ List.replicate (N - N) 0 := ⟨_, rfl⟩
        have HG := Lib.hid (show (w.alloc (.cells Z.toArray 3)).heap[w.heap.size]? = some (.cells Z.toArray 3 (0, 0)) from heap_alloc_new w _)
        have HXl := Lib.hid (show X.length = Nat.min N N by rw [hX, List.length_map, ← HN.out]; simp only [Nat.min_def]; split <;> omega)
        have HXc := Lib.hid (show 0 < X.length → (some ⟨w.heap.size, 0, none⟩ : Option Addr) = some ⟨w.heap.size, 0, none⟩ ∧ ∃ ad, p = some ad ∧ ∀ j v, X[j]? = some v → (w.alloc (.cells Z.toArray 3)).cell? (ad.add j) = some v from fun hx => by
          have hall := cells_taken (HI.out.grown ((Below.refl w.heap.size w).alloc (Nat.le_refl _) (.cells Z.toArray 3))) l.length
          rw [List.take_length, ← hX] at hall
          refine ⟨rfl, ?_⟩
          obtain ⟨ad, hp, _⟩ := hall 0 X[0] (List.getElem?_eq_getElem hx)
          refine ⟨ad, hp, fun j v hj => ?_⟩
          obtain ⟨ad2, hp2, hc2⟩ := hall j v hj
          obtain rfl : ad = ad2 := Option.some.inj (hp.symm.trans hp2)
          exact hc2)
        have HX1 := Lib.hid (show ∀ v ∈ X, v.oneCell' = true from fun v hv => by rw [hX] at hv; obtain ⟨z, _, rfl⟩ := List.mem_map.1 hv; rfl)
        have HZl := Lib.hid (show Z.length = N by rw [hZ]; simp)
        have HXf := Lib.hid (show 0 + X.length ≤ Z.length by rw [HZl.out, hX, List.length_map, ← HN.out]; omega)
        have HS := Lib.hid (show splice Z 0 X = L1.map (Value.int .i64) by
          unfold splice
          rw [hX, hZ, hL1, List.length_map, ← HN.out]
          simp [List.drop_replicate])
        have HLn := Lib.hid (show L1.length = N by rw [hL1, List.length_append, List.length_replicate, ← HN.out]; omega)
        have HE := Lib.hid (show VecMath.with_ l (M : Int) n = VecMath.trim (L1.set (M - 1) n) by rw [hL1]; exact VecMath.with_set hM1 hM2 (by rw [← HN.out]; omega))
        have HFs := Lib.hid (show Fits (L1.set (M - 1) n) by rw [hL1]; exact (HF.out.pad (N - N)).set (M - 1) hn)
        have HBa := Lib.hid ((Below.refl w.heap.size w).alloc (Nat.le_refl _) (.cells Z.toArray 3))
        clear hZ hX hL1
        go_enter Try.func10, Try.ntmps10
        go_wp2_with (refine wpList_copy_splice rfl _ _ 26 26 rfl 3 Try.underlying26 (by kernel_rfl) (some ⟨w.heap.size, 0, none⟩) p N N N c rfl rfl w.heap.size 0 Z 3 HG.out X HXl.out HXc.out HXf.out HX1.out w.heap.size w HBa.out (Nat.le_refl _) ?_; intro w2 HG2 hB2; have HV := Lib.hid (show NewVec w.heap.size w2 (.slice (some ⟨w.heap.size, 0, none⟩) N N) L1 from by have hv := NewVec.whole (B := w.heap.size) HS.out HG2.out (Nat.le_refl _) (by rw [HLn.out]; omega); rw [HLn.out] at hv; exact hv); obtain ⟨x0, _, hx0, hfz⟩ := new_cell HV.out (j := M - 1) (by omega); have HB2 := Lib.hid hB2; clear hB2 HG2)
        have HV3 := Lib.hid (HV.out.set (M - 1) n)
        have HB3 := Lib.hid (below_store (j := M - 1) (v := .int .i64 n) HB2.out (Nat.le_refl _))
        obtain ⟨p5, c5, hv5, hi5, _⟩ := NewVec.slice HV3.out HFs.out
        have hl5 : (L1.set (M - 1) n).length = N := by rw [List.length_set, HLn.out]
        rw [hl5] at hv5
        obtain ⟨hp5, hc5⟩ : (some ⟨w.heap.size, 0, none⟩ : Option Addr) = p5 ∧ N = c5 := by simpa using hv5
        subst hp5
        have hT := trimOk _ N _ _ hi5 (by rw [hl5]; omega) (by rw [hl5]; omega)
        rw [hl5] at hT
        refine hT.mono ?_
        rintro e w4 ⟨⟨v, rfl, hv⟩, hb4⟩
        replace hv := Lib.hid hv
        replace hb4 := Lib.hid hb4
        go_wp2
        go_ret
        exact ⟨⟨_, rfl, by rw [HE.out]; exact hv.out.weaken HB3.out.size⟩, HB3.out.trans (hb4.out.mono HB3.out.size)⟩
end Go.Proofs.Ytkdjfeaaojecdaa
