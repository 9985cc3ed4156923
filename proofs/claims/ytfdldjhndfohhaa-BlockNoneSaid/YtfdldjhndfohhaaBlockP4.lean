/-
  The contracts of the program's device of chapter 8: Sync, Cut. No conditions but those typed.
-/
import Derived.Test.YtfdldjhndfohhaaBlockP3
namespace Go.Proofs.Ytfdldjhndfohhaa
open Go.RowKit BlockMath TextNat

theorem all_done (d : Dk) : all { d with done := all d, late := ByteArray.empty } = all d := by
  show all d ++ ByteArray.empty = all d
  exact ba_end _
theorem cutD_nats {d : Dk} {m : Nat} : nats (all (cutD m d)) = (nats (all d)).take m := by
  unfold cutD
  split
  · rename_i h
    show nats (d.done.extract 0 m ++ ByteArray.empty) = (nats (d.done ++ d.late)).take m
    rw [ba_end, nats_extract, nats_append, List.take_append_of_le_length (by rw [nats_len]; exact h)]
  · rename_i h
    show nats (d.done ++ d.late.extract 0 (m - d.done.size)) = (nats (d.done ++ d.late)).take m
    rw [nats_append, nats_extract, nats_append, List.take_append, nats_len, List.take_of_length_le (l := nats d.done) (by rw [nats_len]; omega)]
theorem cutD_done {d : Dk} {m : Nat} : (cutD m d).done.size = min d.done.size m := by
  unfold cutD
  split
  · show (d.done.extract 0 m).size = _
    rw [ByteArray.size_extract]
    omega
  · show d.done.size = _
    omega
theorem cutD_rest (d : Dk) (m : Nat) : (cutD m d).room = d.room ∧ (cutD m d).off = d.off ∧ (cutD m d).fuse = d.fuse := by unfold cutD; split <;> exact ⟨rfl, rfl, rfl⟩
theorem Fz.of {d d' : Dk} {fu : Bool} {lf : Int} (h : Fz d fu lf) (ho : d'.off = d.off) (hf : d'.fuse = d.fuse) : Fz d' fu lf := ⟨h.1, by rw [ho, hf]; exact h.2⟩
set_option maxRecDepth 100000 in
set_option maxHeartbeats 4000000 in
theorem syncOk : SyncOk dev := by
  rintro b S d w ⟨p, n, cap, fu, lf, h, hf, hS⟩ ok
  have hn := all_len h
  have H := Lib.hid h
  have HF := Lib.hid hf
  have HS := Lib.hid hS
  have HD := Lib.hid (downR h)
  have HE := Lib.hid (refR h 5)
  have HZ := Lib.hid (size_is hn)
  have HA := Lib.hid (all_does d)
  cases ho : d.off with
  | true =>
    have HX := Lib.hid (sync_off ho)
    rw [HX.out]
    rw [ho] at HD HE HZ
    clear h hf hS ok hn
    go_enter Try.func12, Try.ntmps12
    go_wp2_with (first
      | (go_at_call 19; refine HD.out.mono ?_; rintro e w2 ⟨rfl, rfl⟩)
      | (go_at_call 22; refine HE.out.mono ?_; rintro e w2 ⟨⟨x, rfl, hx⟩, hb⟩; replace hx := Lib.hid hx; replace hb := Lib.hid hb))
    go_ret
    exact ⟨⟨_, rfl, err_some (show (5 : Int) ≠ 0 by decide) (by rw [HZ.out]; exact hx.out)⟩, does_same H.out HF.out HS.out hb.out⟩
  | false =>
    rw [ho] at HD
    have h' := h
    rw [ho] at h'
    have HBl := Lib.hid (blowsR h' ho hf ok)
    cases hd : doesB d with
    | false =>
      have HX := Lib.hid (show sync d = (5, doesD d) by unfold sync; rw [if_neg (by rw [hd]; simp)])
      have HM := Lib.hid (show n = (all (doesD d)).size by rw [all_does]; exact hn)
      rw [HX.out]
      rw [hd] at HBl
      clear h h' hf hS ok hn
      go_enter Try.func12, Try.ntmps12
      go_wp2_with (go_at_call 19; refine HD.out.mono ?_; rintro e w2 ⟨rfl, rfl⟩)
      refine HBl.out.mono ?_
      rintro e w2 ⟨rfl, ⟨fu', lf', hr, hfz⟩, hb⟩
      have HE2 := Lib.hid (refR hr 5)
      replace hb := Lib.hid hb
      replace hfz := Lib.hid hfz
      replace hr := Lib.hid hr
      have HK := Lib.hid (size_is HM.out)
      obtain ⟨q, hq⟩ : ∃ q, q = size (doesD d) := ⟨_, rfl⟩
      rw [← hq] at HK
      rw [← HK.out] at HE2
      replace hq := Lib.hid hq
      go_wp2_with (go_at_call 22; refine HE2.out.mono ?_; rintro e w3 ⟨⟨x, rfl, hx⟩, hb2⟩; replace hx := Lib.hid hx; replace hb2 := Lib.hid hb2)
      go_ret
      refine ⟨⟨_, rfl, err_some (show (5 : Int) ≠ 0 by decide) (by rw [← hq.out]; exact hx.out.mono hb.out.size)⟩, ?_⟩
      exact does_of HS.out (hr.out.below hb2.out) (by rw [HA.out]) (by rw [doesD_done]) (by rw [doesD_room]) rfl hfz.out (fun _ hk => .inl hk) ((Apart.but ((HS.out b).2 (.inl rfl)) hb.out).trans (Apart.of hb2.out))
    | true =>
      have HX := Lib.hid (show sync d = (0, { doesD d with done := all (doesD d), late := ByteArray.empty }) by unfold sync; rw [if_pos hd])
      have HM := Lib.hid hn
      rw [HX.out]
      rw [hd] at HBl
      clear h h' hf hS ok hn
      go_enter Try.func12, Try.ntmps12
      go_wp2_with (go_at_call 19; refine HD.out.mono ?_; rintro e w2 ⟨rfl, rfl⟩)
      refine HBl.out.mono ?_
      rintro e w2 ⟨rfl, ⟨fu', lf', hr, hfz⟩, hb⟩
      replace hb := Lib.hid hb
      replace hfz := Lib.hid hfz
      have HR := Lib.hid (hr.put (i := 1) (x := .int .i64 (n : Int)) rfl)
      have c0 := Lies.cell (i := 0) hr.lies rfl
      have c1 := Lies.cell (i := 1) hr.lies rfl
      have f1 := Lies.free hr.lies 1
      clear hr
      go_wp2
      go_ret
      refine ⟨⟨_, rfl, err_none⟩, ?_⟩
      exact does_of HS.out HR.out (by rw [all_done, HA.out]) (by show _ = (((all (doesD d)).size : Nat) : Int); rw [HA.out, HM.out]) (by show _ = (doesD d).room; rw [doesD_room]) rfl (hfz.out.of rfl rfl) (fun _ hk => .inl hk) ((Apart.but ((HS.out b).2 (.inl rfl)) hb.out).trans (Apart.but ((HS.out b).2 (.inl rfl)) (But.set b 1 _ _)))
theorem Raw.cut {w : World} {b n cap : Nat} {p : Option Addr} {l : List Nat} {sf rm lf : Int} {dn fu : Bool} (h : Raw w b p n cap l sf rm dn fu lf) {m : Nat} (hm : m ≤ n) (k : Int) :
    Raw ((w.setCell ⟨b, 0, none⟩ (.slice p m cap)).setCell ⟨b, 1, none⟩ (.int .i64 k)) b p m cap (l.take m) k rm dn fu lf := by
  have h1 : Raw (w.setCell ⟨b, 0, none⟩ (.slice p m cap)) b p m cap (l.take m) sf rm dn fu lf :=
    ⟨h.lies.set 0 _, own_keep (own_take h.own hm) fun k hk => Below.heap_setCell _ _ _ _ fun e => h.far (by rw [hk, e]), h.far⟩
  exact h1.put (i := 1) (x := .int .i64 k) rfl
theorem pcut_wrong {d : Dk} {n : Int} (ho : d.off = false) (h : n < 0 ∨ ((all d).size : Int) < n) : cut n d = (1, d) := by
  unfold cut
  rw [if_pos ⟨ho, h⟩]
theorem pcut_yes {d : Dk} {n : Int} (h : ¬ (n < 0 ∨ ((all d).size : Int) < n)) (hd : doesB d = true) : cut n d = (0, cutD n.toNat (doesD d)) := by
  unfold cut
  rw [if_neg (fun k => h k.2), if_pos hd]
theorem pcut_no {d : Dk} {n : Int} (h : ¬ (n < 0 ∨ ((all d).size : Int) < n)) (hd : doesB d = false) : cut n d = (5, doesD d) := by
  unfold cut
  rw [if_neg (fun k => h k.2), if_neg (by rw [hd]; simp)]
set_option maxRecDepth 100000 in
set_option maxHeartbeats 4000000 in
theorem cutOk : CutOk dev := by
  rintro b S d z w ⟨p, n, cap, fu, lf, h, hf, hS⟩ ok hz
  have hn := all_len h
  have H := Lib.hid h
  have HF := Lib.hid hf
  have HS := Lib.hid hS
  have HD := Lib.hid (downR h)
  have HE := Lib.hid (fun c => refR h c)
  have HZ := Lib.hid (size_is hn)
  have HA := Lib.hid (all_does d)
  cases ho : d.off with
  | true =>
    have HX := Lib.hid (cut_off z ho)
    rw [HX.out]
    rw [ho] at HD HE HZ
    clear h hf hS ok hn
    go_enter Try.func11, Try.ntmps11
    go_wp2_with (first
      | (go_at_call 19; refine HD.out.mono ?_; rintro e w2 ⟨rfl, rfl⟩)
      | (go_at_call 22; refine (HE.out 5).mono ?_; rintro e w2 ⟨⟨x, rfl, hx⟩, hb⟩; replace hx := Lib.hid hx; replace hb := Lib.hid hb))
    go_ret
    exact ⟨⟨_, rfl, err_some (show (5 : Int) ≠ 0 by decide) (by rw [HZ.out]; exact hx.out)⟩, does_same H.out HF.out HS.out hb.out⟩
  | false =>
    rw [ho] at HD HE HZ
    have c0 := Lies.cell (i := 0) h.lies rfl
    by_cases hw : z < 0 ∨ (n : Int) < z
    · have HX := Lib.hid (pcut_wrong (d := d) (n := z) ho (by rw [← hn]; exact hw))
      rw [HX.out]
      clear h hf hS ok hn
      by_cases h0 : z < 0
      · have t0 : decide (z < 0) = true := decide_eq_true h0
        clear h0 hw
        go_enter Try.func11, Try.ntmps11
        go_wp2_with (first
          | (go_at_call 19; refine HD.out.mono ?_; rintro e w2 ⟨rfl, rfl⟩)
          | (go_at_call 22; refine (HE.out 1).mono ?_; rintro e w2 ⟨⟨x, rfl, hx⟩, hb⟩; replace hx := Lib.hid hx; replace hb := Lib.hid hb))
        go_ret
        exact ⟨⟨_, rfl, err_some (show (1 : Int) ≠ 0 by decide) (by rw [HZ.out]; exact hx.out)⟩, does_same H.out HF.out HS.out hb.out⟩
      · have t0 : decide (z < 0) = false := decide_eq_false h0
        have t1 : decide ((n : Int) < z) = true := decide_eq_true (by omega)
        clear h0 hw
        go_enter Try.func11, Try.ntmps11
        go_wp2_with (first
          | (go_at_call 19; refine HD.out.mono ?_; rintro e w2 ⟨rfl, rfl⟩)
          | (go_at_call 22; refine (HE.out 1).mono ?_; rintro e w2 ⟨⟨x, rfl, hx⟩, hb⟩; replace hx := Lib.hid hx; replace hb := Lib.hid hb))
        go_ret
        exact ⟨⟨_, rfl, err_some (show (1 : Int) ≠ 0 by decide) (by rw [HZ.out]; exact hx.out)⟩, does_same H.out HF.out HS.out hb.out⟩
    obtain ⟨m, rfl⟩ : ∃ m : Nat, z = (m : Int) := ⟨z.toNat, by omega⟩
    have hmn : m ≤ n := by omega
    have hw' : ¬ ((m : Int) < 0 ∨ ((all d).size : Int) < (m : Int)) := by rw [← hn]; exact hw
    have t0 : decide ((m : Int) < 0) = false := decide_eq_false (by omega)
    have t1 : decide ((n : Int) < (m : Int)) = false := decide_eq_false (by omega)
    have t1' : decide (n < m) = false := decide_eq_false (by omega)
    have h' := h
    rw [ho] at h'
    have HBl := Lib.hid (blowsR h' ho hf ok)
    cases hd : doesB d with
    | false =>
      have HX := Lib.hid (pcut_no hw' hd)
      have HM := Lib.hid (show n = (all (doesD d)).size by rw [all_does]; exact hn)
      rw [HX.out]
      rw [hd] at HBl
      clear h h' hf hS ok hn hw hw'
      go_enter Try.func11, Try.ntmps11
      go_wp2_with (go_at_call 19; refine HD.out.mono ?_; rintro e w2 ⟨rfl, rfl⟩)
      refine HBl.out.mono ?_
      rintro e w2 ⟨rfl, ⟨fu', lf', hr, hfz⟩, hb⟩
      have HE2 := Lib.hid (refR hr 5)
      replace hb := Lib.hid hb
      replace hfz := Lib.hid hfz
      replace hr := Lib.hid hr
      have HK := Lib.hid (size_is HM.out)
      obtain ⟨q, hq⟩ : ∃ q, q = size (doesD d) := ⟨_, rfl⟩
      rw [← hq] at HK
      rw [← HK.out] at HE2
      replace hq := Lib.hid hq
      clear c0
      go_wp2_with (go_at_call 22; refine HE2.out.mono ?_; rintro e w3 ⟨⟨x, rfl, hx⟩, hb2⟩; replace hx := Lib.hid hx; replace hb2 := Lib.hid hb2)
      go_ret
      refine ⟨⟨_, rfl, err_some (show (5 : Int) ≠ 0 by decide) (by rw [← hq.out]; exact hx.out.mono hb.out.size)⟩, ?_⟩
      exact does_of HS.out (hr.out.below hb2.out) (by rw [HA.out]) (by rw [doesD_done]) (by rw [doesD_room]) rfl hfz.out (fun _ hk => .inl hk) ((Apart.but ((HS.out b).2 (.inl rfl)) hb.out).trans (Apart.of hb2.out))
    | true =>
      have HX := Lib.hid (pcut_yes hw' hd)
      rw [HX.out]
      rw [hd] at HBl
      clear h' hf hS ok hn hw hw'
      have hcs := own_cases h.own
      clear h
      rcases hcs with ⟨rfl, rfl, rfl⟩ | ⟨g, cur, rfl, -, hc⟩
      · obtain rfl : m = 0 := by omega
        go_enter Try.func11, Try.ntmps11
        go_wp2_with (go_at_call 19; refine HD.out.mono ?_; rintro e w2 ⟨rfl, rfl⟩)
        refine HBl.out.mono ?_
        rintro e w2 ⟨rfl, ⟨fu', lf', hr, hfz⟩, hb⟩
        replace hb := Lib.hid hb
        replace hfz := Lib.hid hfz
        clear c0
        have c0 := Lies.cell (i := 0) hr.lies rfl
        have c1 := Lies.cell (i := 1) hr.lies rfl
        have f0 := Lies.free hr.lies 0
        have f1 := Lies.free hr.lies 1
        replace hr := Lib.hid hr
        go_wp2
        all_goals
          go_ret
          refine ⟨⟨_, rfl, err_none⟩, ?_⟩
          exact does_of HS.out (hr.out.cut hmn _) (by rw [cutD_nats, all_does]) (by rw [cutD_done, doesD_done]; omega) (by rw [(cutD_rest _ _).1, doesD_room]) (by rw [(cutD_rest _ _).2.1]) (hfz.out.of (cutD_rest _ _).2.1 (cutD_rest _ _).2.2) (fun _ hk => .inl hk) ((Apart.but ((HS.out b).2 (.inl rfl)) hb.out).trans (Apart.but ((HS.out b).2 (.inl rfl)) ((But.set b 0 _ _).trans (But.set b 1 _ _))))
      · go_enter Try.func11, Try.ntmps11
        go_wp2_with (go_at_call 19; refine HD.out.mono ?_; rintro e w2 ⟨rfl, rfl⟩)
        refine HBl.out.mono ?_
        rintro e w2 ⟨rfl, ⟨fu', lf', hr, hfz⟩, hb⟩
        replace hb := Lib.hid hb
        replace hfz := Lib.hid hfz
        clear c0
        have c0 := Lies.cell (i := 0) hr.lies rfl
        have c1 := Lies.cell (i := 1) hr.lies rfl
        have f0 := Lies.free hr.lies 0
        have f1 := Lies.free hr.lies 1
        replace hr := Lib.hid hr
        go_wp2
        all_goals
          go_ret
          refine ⟨⟨_, rfl, err_none⟩, ?_⟩
          exact does_of HS.out (hr.out.cut hmn _) (by rw [cutD_nats, all_does]) (by rw [cutD_done, doesD_done]; omega) (by rw [(cutD_rest _ _).1, doesD_room]) (by rw [(cutD_rest _ _).2.1]) (hfz.out.of (cutD_rest _ _).2.1 (cutD_rest _ _).2.2) (fun _ hk => .inl hk) ((Apart.but ((HS.out b).2 (.inl rfl)) hb.out).trans (Apart.but ((HS.out b).2 (.inl rfl)) ((But.set b 0 _ _).trans (But.set b 1 _ _))))
end Go.Proofs.Ytfdldjhndfohhaa
