/-
  Sweep of a store whose cells stand in a map of maps: the walk. The conditions: texts of at most 1000 bytes, rows that rise.
-/
import Derived.Test.YtgbhfhnbmgkaoaaNest12
namespace Go.Proofs.Ytgbhfhnbmgkaoaa
open Go.RowKit Go.Maps TextNat RegMath

theorem SwO.ended {f : Int} {os : List SesK} {xs : List RowV} {w0 w : World} {b bm r : Nat} {D : DataW Unit} {left : Lit → Bool} {gh : Nat} {done rest : List SesK} (h : SwO f os xs w bm r D left gh done rest) (hn : Nest w0 b (some bm) os xs) (hl : ∀ k, left k = false) (ht : Lies w b [.map (some bm)] 68) :
    Nest w b (some bm) (done.filter (aliveS xs f)) (sweepV xs f) ∧ Full16 (done.filter (aliveS xs f)) (sweepV xs f) ∧ dropN xs f done + (sweepV xs f).length = xs.length ∧ ∀ p ∈ done, p ∈ os := by
  have hr : rest = [] := List.eq_nil_iff_forall_not_mem.2 fun p hp => by
    have := h.lrest p hp
    rw [hl] at this
    cases this
  subst hr
  have hp : os.Perm done := by have := h.parts; rw [List.append_nil] at this; exact this
  have ha : ∀ x ∈ sweepV xs f, ∃ p ∈ os, p.1 = x.session := fun x hx => hn.all x (List.mem_filter.1 hx).1
  refine ⟨⟨ht, ?_, fun p hp1 => h.idone p (List.mem_filter.1 hp1).1, fun x hx => ?_, ?_, fun p hp1 => hn.out p (hp.mem_iff.2 (List.mem_filter.1 hp1).1), hn.ne⟩, fun p hp1 => ?_, ?_, fun p hp1 => hp.mem_iff.2 hp1⟩
  · have := h.holds
    rw [List.append_nil] at this
    exact MapAt.of h.runs.owns this
  · obtain ⟨p, hpo, e⟩ := ha x hx
    refine ⟨p, List.mem_filter.2 ⟨hp.mem_iff.1 hpo, decide_eq_true ?_⟩, e⟩
    refine List.length_pos_of_mem (a := (x.key, x.cell)) (mem_entS.2 ?_)
    rw [e]
    exact hx
  · exact (((hp.pairwise_iff fun h e => h e.symm).1 hn.apart).filter _)
  · have h1 := of_decide_eq_true (List.mem_filter.1 hp1).2
    obtain ⟨⟨k, c⟩, hkc⟩ := List.exists_mem_of_length_pos h1
    exact ⟨_, mem_entS.1 hkc, rfl⟩
  · have h1 := dropN_sum xs f os
    rw [count_ses hn.keys hn.all] at h1
    have h2 := count_ses (xs := sweepV xs f) hn.keys ha
    rw [h2, dropN_perm hp] at h1
    exact h1
theorem dropN_le {f : Int} {os : List SesK} {xs : List RowV} {w0 : World} {b bm : Nat} {done rest : List SesK} (hp : os.Perm (done ++ rest)) (hn : Nest w0 b (some bm) os xs) : dropN xs f done ≤ xs.length := by
  have h1 := dropN_sum xs f os
  rw [count_ses hn.keys hn.all, dropN_perm hp] at h1
  have h2 : dropN xs f (done ++ rest) = dropN xs f done + dropN xs f rest := by unfold dropN; rw [List.map_append, List.sum_append]
  omega
set_option maxRecDepth 100000 in
set_option maxHeartbeats 8000000 in
theorem sweep16 : Sweep16 sto16 := by
  rintro b S xs f w ⟨m, os, h, hf, rfl⟩ hx
  obtain ⟨W, hW⟩ : ∃ W, W = w.alloc (.cells #[.int .i64 f] 3) := ⟨_, rfl⟩
  obtain ⟨F, hF⟩ : ∃ F, F = w.heap.size := ⟨_, rfl⟩
  have b1 : Below w.heap.size w W := by rw [hW]; exact (Below.refl _ _).alloc (Nat.le_refl _) _
  have LF := Lib.hid (show Lies W F [.int .i64 f] 3 by rw [hW, hF]; exact Lies.new w _ _)
  have HI := Lib.hid (h.below b1)
  have HI0 := Lib.hid h
  have HB := Lib.hid b1
  have HFe := Lib.hid hF
  have HW := Lib.hid hW
  have HX := Lib.hid hx
  have HFu := Lib.hid hf
  have HA := Lib.hid (all16 b m W (h.below b1).top)
  have x0 := (h.below b1).top.cell (i := 0) rfl
  clear hW hF b1 hx hf
  cases m with
  | none =>
    have h1 : os.map sesE = [] := h.map
    have h2 : os = [] := List.map_eq_nil_iff.1 h1
    subst h2
    have h3 : xs = [] := List.eq_nil_iff_forall_not_mem.2 fun x hx => by
      obtain ⟨p, hp, _⟩ := h.all x hx
      cases hp
    subst h3
    clear h h1
    have hr := run_range_nilMap (P := Try.prog) W 66 9 70 Try.underlying66
    have hn := fun ty => run_next_nilMap (P := Try.prog) W ty 0 0 #[]
    go_enter Try.func14, Try.ntmps14
    go_upto_region 2 with fail
    rw [← HW.out, ← HFe.out]
    go_wp2_with fail
    refine HA.out.mono ?_
    rintro e w0 ⟨rfl, hw0⟩
    rw [hw0]
    clear hw0
    go_upto_region 3 with fail
    obtain ⟨V, hV⟩ : ∃ V, V = W.alloc (.mapIter none 0 #[] 0) := ⟨_, rfl⟩
    have bV : Below W.heap.size W V := by rw [hV]; exact (Below.refl _ _).alloc (Nat.le_refl _) _
    have HBV := Lib.hid (HB.out.trans (bV.mono HB.out.size))
    rw [← hV] at hn ⊢
    clear hV hr bV
    go_loopg [5] 1 (fun gh s5 wx => s5 = .int .i64 0 ∧ wx = V)
    case atStart => exact ⟨rfl, rfl⟩
    case round =>
      obtain ⟨rfl, hw⟩ := hrel
      rw [hw]
      clear hw
      go_wp2
      go_ret
      exact ⟨rfl, ⟨_, ⟨none, [], HI0.out.below HBV.out, HFu.out, rfl⟩, fun _ hk => .inl hk⟩, Apart.of HBV.out⟩
  | some bm =>
  obtain ⟨D, hD1, hD2⟩ := (HI.out.map : MapAt mapE W (some bm) (os.map sesE))
  rw [List.length_map] at hD1
  have HD1 := Lib.hid hD1
  have HD2 := Lib.hid hD2
  obtain ⟨r, hr⟩ : ∃ r, r = W.heap.size := ⟨_, rfl⟩
  have HRe := Lib.hid hr
  have HBl := Lib.hid (show bm < r ∧ b < r ∧ F < r ∧ (∀ p ∈ os, p.2 < r) ∧ F ≠ bm ∧ F ≠ b ∧ (∀ p ∈ os, p.2 ≠ F) from by
    have hsz := HB.out.size
    have hl := HI0.out.lt
    have hFl := LF.out.lt
    have e := HFe.out
    refine ⟨?_, ?_, by rw [hr]; exact hFl, fun p hp => ?_, ?_, ?_, fun p hp => ?_⟩
    · have := hl bm (.inr (.inl rfl)); omega
    · have := hl b (.inl rfl); omega
    · have := hl p.2 (.inr (.inr ⟨p, hp, rfl⟩)); omega
    · have := hl bm (.inr (.inl rfl)); omega
    · have := hl b (.inl rfl); omega
    · have := hl p.2 (.inr (.inr ⟨p, hp, rfl⟩)); omega)
  clear hD1 hD2 h hr
  go_enter Try.func14, Try.ntmps14
  go_upto_region 2 with fail
  rw [← HW.out, ← HFe.out]
  go_wp2_with fail
  refine HA.out.mono ?_
  rintro e w0 ⟨rfl, hw0⟩
  rw [hw0]
  clear hw0
  go_wp2_with (at_range; refine wpList_range_own _ rfl _ 66 rfl 9 70 tk.law Try.underlying66 mapE.read bm os.length D rfl HD1.out ?_; intro w0 hrg0 hg0 hs0)
  go_frame
  rw [← HRe.out] at hrg0 hs0 ⊢
  have hB0 : Below W.heap.size W w0 := (Below.refl _ W).grown hg0 (Nat.le_refl _) (fun j hj => by cases hj)
  have HO0 := Lib.hid (show SwO f os xs w0 bm r D (Maps.has D) (Maps.size D) [] os from ⟨List.Perm.refl _, hrg0, HD2.out, (fun p hp => by cases hp), fun p hp => (HD2.out.has (HD2.out.fits (sesE p) (List.mem_map_of_mem (f := sesE) hp))).2 ⟨some p.2, List.mem_map_of_mem (f := sesE) hp⟩, (fun p hp => by cases hp), fun p hp => (HI.out.inner p hp).below hB0⟩)
  have HAp0 := Lib.hid (show Apart (fun j => j = bm ∨ ∃ p ∈ os, p.2 = j) W w0 from Apart.of hB0)
  have HS0 := Lib.hid (show r + 1 ≤ w0.heap.size by omega)
  clear hrg0 hg0 hs0 hB0 x0
  go_loopg [5] (Maps.size D) (fun gh s5 wx => ∃ (left : Lit → Bool) (done rest : List SesK) (D1 : DataW Unit), s5 = .int .i64 ((dropN xs f done : Nat) : Int) ∧ Hid (SwO f os xs wx bm r D1 left gh done rest) ∧ Hid (Apart (fun j => j = bm ∨ ∃ p ∈ os, p.2 = j) W wx) ∧ Hid (r + 1 ≤ wx.heap.size))
  case atStart => exact ⟨_, [], os, D, rfl, HO0, HAp0, HS0⟩
  case round =>
    obtain ⟨left, done, rest, D1, rfl, HO, HAp, HS⟩ := hrel
    rename World => W1
    obtain ⟨sw, hsw⟩ : ∃ sw, sw = dropN xs f done := ⟨_, rfl⟩
    have HSw := Lib.hid hsw
    have hsw1 : sw ≤ 1000 := by rw [hsw]; exact Nat.le_trans (dropN_le HO.out.parts HI0.out) HX.out.few
    rw [← hsw]
    clear hsw
    have HTb := Lib.hid (show Lies W1 b [.map (some bm)] 68 from (HAp.out.block b (by have := HBl.out.2.1; have := HRe.out; omega) (fun hb => by
      rcases hb with e | ⟨p, hp, e⟩
      · exact HI.out.ne (by rw [e])
      · exact (HI.out.out p hp).1 e)).trans HI.out.top)
    have HTf := Lib.hid (show Lies W1 F [.int .i64 f] 3 from (HAp.out.block F (by have := HBl.out.2.2.1; have := HRe.out; omega) (fun hb => by
      rcases hb with e | ⟨p, hp, e⟩
      · exact HBl.out.2.2.2.2.1 e
      · exact HBl.out.2.2.2.2.2.2 p hp e)).trans LF.out)
    go_wp2_with (at_next; refine wpList_next_left mapE _ rfl _ rfl bm r os.length D1 _ left _ rfl HO.out.runs HO.out.holds ?_ ?_)
    · intro hl
      obtain ⟨e1, e2, e3, e4⟩ := HO.out.ended HI0.out hl HTb.out
      have HE1 := Lib.hid e1
      have HE2 := Lib.hid e2
      have HE3 := Lib.hid (show (sw : Int) = (xs.length : Int) - ((sweepV xs f).length : Int) by rw [HSw.out]; omega)
      have HE4 := Lib.hid e4
      clear e1 e2 e3 e4 hl
      go_wp2
      go_ret
      refine ⟨by rw [← HE3.out]; rfl, ⟨_, ⟨some bm, _, HE1.out, HE2.out, rfl⟩, fun j hj => ?_⟩, (Apart.of (S := NestS b (some bm) os) HB.out).run HAp.out fun j hj => ?_⟩
      · rcases hj with h1 | h1 | ⟨p, hp, h1⟩
        · exact .inl (.inl h1)
        · exact .inl (.inr (.inl h1))
        · exact .inl (.inr (.inr ⟨p, HE4.out p (List.mem_filter.1 hp).1, h1⟩))
      · rcases hj with h1 | h1
        · exact .inl (.inr (.inl (by rw [h1])))
        · exact .inl (.inr (.inr h1))
    · intro s c w2 cnt' hmem hleft hrg hlt hg2 hsz hen
      obtain ⟨k, hk, rfl⟩ : ∃ k, (s, k) ∈ rest ∧ c = some k := by
        rcases hmem with ⟨s', k, ⟨h2, h3⟩, e1, e2⟩ | ⟨s', k, h1, e1, e2⟩
        · subst e1
          have h4 : left (tk.lit s') = false := HO.out.ldone _ h2 h3
          rw [h4] at hleft
          cases hleft
        · subst e1
          exact ⟨k, h1, e2.symm⟩
      have hos : (s, k) ∈ os := HO.out.parts.mem_iff.2 (List.mem_append_right _ hk)
      have hkr : k < r := HBl.out.2.2.2.1 _ hos
      have hr1 : r < W1.heap.size := by have := HS.out; omega
      have hb2 : ∀ j, j < r → w2.heap[j]? = W1.heap[j]? := fun j hj => hg2.block j (by omega) (by intro e; have := Option.some.inj e; omega)
      have HIn := Lib.hid (show MapAt cellE w2 (some k) (entS xs s) from (HO.out.irest _ hk).same fun j hj => by obtain rfl := Option.some.inj hj; exact hb2 _ hkr)
      have HTb2 := Lib.hid (show Lies w2 b [.map (some bm)] 68 from (hb2 b HBl.out.2.1).trans HTb.out)
      have HTf2 := Lib.hid (show Lies w2 F [.int .i64 f] 3 from (hb2 F HBl.out.2.2.1).trans HTf.out)
      have HAp2 := Lib.hid (show Apart (fun j => j = bm ∨ ∃ p ∈ os, p.2 = j) W w2 from HAp.out.run (S1 := fun j => j = r) ⟨hg2.os, hg2.tape, hg2.output, hg2.size, fun j hj hn => hg2.block j hj (by intro e; exact hn (Option.some.inj e))⟩ (fun j hj => by right; have := HRe.out; have hj2 : j = r := hj; omega))
      have HRg := Lib.hid hrg
      have HB2 := Lib.hid hb2
      have HS2 := Lib.hid (show r + 1 ≤ w2.heap.size by rw [hsz]; exact HS.out)
      have HK := Lib.hid hk
      have HOs := Lib.hid (And.intro hos hkr)
      have HLt := Lib.hid hlt
      obtain ⟨n1, hn1⟩ : ∃ n1, n1 = (entS xs s).length := ⟨_, rfl⟩
      obtain ⟨n2, hn2⟩ : ∃ n2, n2 = (entS (sweepV xs f) s).length := ⟨_, rfl⟩
      have HN := Lib.hid (And.intro hn1 hn2)
      have hl1 := HIn.out.len Try.underlying70 3
      rw [← hn1] at hl1
      have hn1b : n1 ≤ 1000 := by rw [hn1]; exact entS_few HX.out s
      have hn2b : n2 ≤ n1 := by rw [hn1, hn2]; exact sweep_le xs f s
      have HDl := Lib.hid (delete16 f F k (entS xs s) w2 HIn.out (HTf2.out.cell (i := 0) rfl) (fun e => HBl.out.2.2.2.2.2.2 _ hos e.symm))
      clear hmem hleft hrg hlt hg2 hsz hk hos hkr hr1 hb2 hn1 hn2
      simp only [mapE] at hen
      simp only [mapE]
      go_wp2_with fail
      refine HDl.out.mono ?_
      rintro e w5 ⟨rfl, hm5, hb5⟩
      rw [← entS_sweep] at hm5
      have HM5 := Lib.hid hm5
      have HB5 := Lib.hid hb5
      have hl2 := hm5.len Try.underlying70 3
      rw [← HN.out.2] at hl2
      have HTb5 := Lib.hid (show Lies w5 b [.map (some bm)] 68 from Lies.but HTb2.out hb5 (fun e => (HI.out.out _ HOs.out.1).1 e.symm))
      have HAp5 := Lib.hid (show Apart (fun j => j = bm ∨ ∃ p ∈ os, p.2 = j) W w5 from HAp2.out.run (S1 := fun j => j = k) ⟨hb5.os, hb5.tape, hb5.output, hb5.size, fun j hj hn => hb5.block j hj hn⟩ (fun j hj => .inl (.inr ⟨_, HOs.out.1, hj.symm⟩)))
      have hbk : bm ≠ k := fun e => (HI.out.out _ HOs.out.1).2 (by rw [e])
      have HR5 := Lib.hid (ranges_same HRg.out (hb5.block bm (by have := HS2.out; have := HBl.out.1; omega) hbk) (hb5.block r (by have := HS2.out; omega) (by have := HOs.out.2; omega)))
      have HS5 := Lib.hid (show r + 1 ≤ w5.heap.size from Nat.le_trans HS2.out hb5.size)
      have HFr := Lib.hid (show ∀ p ∈ os, p.2 ≠ k → w5.heap[p.2]? = W1.heap[p.2]? from fun p hp hn => (hb5.block p.2 (by have := HBl.out.2.2.2.1 p hp; have := HS2.out; omega) hn).trans (HB2.out p.2 (HBl.out.2.2.2.1 p hp)))
      have HFit := Lib.hid (show tk.fits s from HO.out.holds.fits (sesE (s, k)) (List.mem_map_of_mem (f := sesE) (List.mem_append_right _ HK.out)))
      have x0 := HTb5.out.cell (i := 0) rfl
      have HDr := Lib.hid (show dropN xs f (done ++ [(s, k)]) = sw + (n1 - n2) by rw [dropN_snoc, HSw.out, HN.out.1, HN.out.2]; rfl)
      have HNu := Lib.hid (show ((sw : Int) + ((n1 : Int) - (n2 : Int))) = ((dropN xs f (done ++ [(s, k)]) : Nat) : Int) by rw [HDr.out]; omega)
      clear hm5 hb5 hl1 hbk hen
      by_cases hz : 0 < n2
      · have z : ((n2 : Int) == 0) = false := by rw [beq_eq_false_iff_ne]; omega
        have HAl := Lib.hid (show aliveS xs f (s, k) = true from decide_eq_true (by rw [← HN.out.2]; exact hz))
        obtain ⟨rest2, hst⟩ := HO.out.step HI0.out.keys HI0.out.apart HK.out (fun z => rfl) HR5.out HM5.out HFr.out (.inl ⟨HAl.out, rfl⟩)
        have HSt := Lib.hid hst
        clear hz hst
        go_wp2
        go_roundg cnt'
        case measure => exact HLt.out
        case rel => exact ⟨_, _, rest2, D1, by rw [HNu.out], HSt, HAp5, HS5⟩
      · have z : ((n2 : Int) == 0) = true := by rw [beq_iff_eq]; omega
        have HAl := Lib.hid (show aliveS xs f (s, k) = false from decide_eq_false (by rw [← HN.out.2]; exact hz))
        clear hz
        go_wp2_with (at_delete; refine wpList_delete_ranges _ rfl _ _ 66 9 rfl 70 tk.law Try.underlying66 mapE.read bm r os.length D1 _ cnt' rfl HR5.out _ _ rfl (tk.is s HFit.out) ?_; intro w6 cnt6 hrg6 hle hturn; have HR6 := Lib.hid hrg6; have HLe := Lib.hid hle; have HTu := Lib.hid hturn.grown; clear hrg6 hle hturn)
        try go_frame
        have HM6 := Lib.hid (show MapAt cellE w6 (some k) (entS (sweepV xs f) s) from HM5.out.same fun j hj => by
          obtain rfl := Option.some.inj hj
          exact HTu.out.block _ HM5.out.lt (fun e => (HI.out.out _ HOs.out.1).2 (by rw [Option.some.inj e])))
        have HFr6 := Lib.hid (show ∀ p ∈ os, p.2 ≠ k → w6.heap[p.2]? = W1.heap[p.2]? from fun p hp hn => (HTu.out.block p.2 (by have := HBl.out.2.2.2.1 p hp; have := HS5.out; omega) (fun e => (HI.out.out p hp).2 (by rw [Option.some.inj e]))).trans (HFr.out p hp hn))
        obtain ⟨rest2, hst⟩ := HO.out.step HI0.out.keys HI0.out.apart HK.out (fun z => by rw [Bool.and_assoc, Bool.and_self]) HR6.out HM6.out HFr6.out (.inr ⟨HAl.out, rfl⟩)
        have HSt := Lib.hid hst
        have HAp6 := Lib.hid (show Apart (fun j => j = bm ∨ ∃ p ∈ os, p.2 = j) W w6 from HAp5.out.run (S1 := fun j => j = bm) ⟨HTu.out.os, HTu.out.tape, HTu.out.output, HTu.out.size, fun j hj hn => HTu.out.block j hj (fun e => hn (Option.some.inj e))⟩ (fun j hj => .inl (.inl hj)))
        clear hst
        go_roundg cnt6
        case measure => have h1 := HLt.out; have h2 := HLe.out; omega
        case rel => exact ⟨_, _, rest2, _, by rw [HNu.out], HSt, HAp6, Lib.hid (Nat.le_trans HS5.out HTu.out.size)⟩
end Go.Proofs.Ytgbhfhnbmgkaoaa
