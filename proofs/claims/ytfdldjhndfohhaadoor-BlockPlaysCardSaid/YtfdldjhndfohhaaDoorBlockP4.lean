/-
  The contracts of the program's device of chapter 8: Sync, Cut, Read, Rot. No conditions but those typed.
-/
import Derived.Test.YtfdldjhndfohhaaDoorBlockP2
namespace Go.Proofs.YtfdldjhndfohhaaDoor
open Go.RowKit BlockMath TextNat

theorem all_done (d : Dk) : all { d with done := all d, late := ByteArray.empty } = all d := by
  show all d ++ ByteArray.empty = all d
  exact ba_end _
theorem cutD_nats {d : Dk} {m : Nat} : nats (all (cutD m d)) = (nats (all d)).take m := by
  unfold cutD
  split
  · rename_i h
    show nats (d.done.extract 0 m ++ ByteArray.empty) = (nats (d.done ++ d.late)).take m
    rw [ba_end, nats_extract, nats_append, List.take_append_of_le_length (by rw [nats_len]; exact h)]
  · rename_i h
    show nats (d.done ++ d.late.extract 0 (m - d.done.size)) = (nats (d.done ++ d.late)).take m
    rw [nats_append, nats_extract, nats_append, List.take_append, nats_len, List.take_of_length_le (l := nats d.done) (by rw [nats_len]; omega)]
theorem cutD_done {d : Dk} {m : Nat} : (cutD m d).done.size = min d.done.size m := by
  unfold cutD
  split
  · show (d.done.extract 0 m).size = _
    rw [ByteArray.size_extract]
    omega
  · show d.done.size = _
    omega
theorem cutD_rest (d : Dk) (m : Nat) : (cutD m d).room = d.room ∧ (cutD m d).off = d.off ∧ (cutD m d).fuse = d.fuse := by unfold cutD; split <;> exact ⟨rfl, rfl, rfl⟩
theorem Fz.of {d d' : Dk} {fu : Bool} {lf : Int} (h : Fz d fu lf) (ho : d'.off = d.off) (hf : d'.fuse = d.fuse) : Fz d' fu lf := ⟨h.1, by rw [ho, hf]; exact h.2⟩
set_option maxRecDepth 100000 in
set_option maxHeartbeats 4000000 in
theorem syncOk : SyncOk dev := by
  rintro b S d w ⟨p, n, cap, fu, lf, h, hf, hS⟩ ok
  have hn := all_len h
  have H := Lib.hid h
  have HF := Lib.hid hf
  have HS := Lib.hid hS
  have HD := Lib.hid (downR h)
  have HE := Lib.hid (refR h 5)
  have HZ := Lib.hid (size_is hn)
  have HA := Lib.hid (all_does d)
  cases ho : d.off with
  | true =>
    have HX := Lib.hid (sync_off ho)
    rw [HX.out]
    rw [ho] at HD HE HZ
    clear h hf hS ok hn
    go_enter Tryd.func12, Tryd.ntmps12
    go_wp2_with (first
      | (go_at_call 31; refine HD.out.mono ?_; rintro e w2 ⟨rfl, rfl⟩)
      | (go_at_call 33; refine HE.out.mono ?_; rintro e w2 ⟨⟨x, rfl, hx⟩, hb⟩; replace hx := Lib.hid hx; replace hb := Lib.hid hb))
    go_ret
    exact ⟨⟨_, rfl, err_some (show (5 : Int) ≠ 0 by decide) (by rw [HZ.out]; exact hx.out)⟩, does_same H.out HF.out HS.out hb.out⟩
  | false =>
    rw [ho] at HD
    have h' := h
    rw [ho] at h'
    have HBl := Lib.hid (blowsR h' ho hf ok)
    cases hd : doesB d with
    | false =>
      have HX := Lib.hid (show sync d = (5, doesD d) by unfold sync; rw [if_neg (by rw [hd]; simp)])
      have HM := Lib.hid (show n = (all (doesD d)).size by rw [all_does]; exact hn)
      rw [HX.out]
      rw [hd] at HBl
      clear h h' hf hS ok hn
      go_enter Tryd.func12, Tryd.ntmps12
      go_wp2_with (go_at_call 31; refine HD.out.mono ?_; rintro e w2 ⟨rfl, rfl⟩)
      refine HBl.out.mono ?_
      rintro e w2 ⟨rfl, ⟨fu', lf', hr, hfz⟩, hb⟩
      have HE2 := Lib.hid (refR hr 5)
      replace hb := Lib.hid hb
      replace hfz := Lib.hid hfz
      replace hr := Lib.hid hr
      have HK := Lib.hid (size_is HM.out)
      obtain ⟨q, hq⟩ : ∃ q, q = size (doesD d) := ⟨_, rfl⟩
      rw [← hq] at HK
      rw [← HK.out] at HE2
      replace hq := Lib.hid hq
      go_wp2_with (go_at_call 33; refine HE2.out.mono ?_; rintro e w3 ⟨⟨x, rfl, hx⟩, hb2⟩; replace hx := Lib.hid hx; replace hb2 := Lib.hid hb2)
      go_ret
      refine ⟨⟨_, rfl, err_some (show (5 : Int) ≠ 0 by decide) (by rw [← hq.out]; exact hx.out.mono hb.out.size)⟩, ?_⟩
      exact does_of HS.out (hr.out.below hb2.out) (by rw [HA.out]) (by rw [doesD_done]) (by rw [doesD_room]) rfl hfz.out (fun _ hk => .inl hk) ((Apart.but ((HS.out b).2 (.inl rfl)) hb.out).trans (Apart.of hb2.out))
    | true =>
      have HX := Lib.hid (show sync d = (0, { doesD d with done := all (doesD d), late := ByteArray.empty }) by unfold sync; rw [if_pos hd])
      have HM := Lib.hid hn
      rw [HX.out]
      rw [hd] at HBl
      clear h h' hf hS ok hn
      go_enter Tryd.func12, Tryd.ntmps12
      go_wp2_with (go_at_call 31; refine HD.out.mono ?_; rintro e w2 ⟨rfl, rfl⟩)
      refine HBl.out.mono ?_
      rintro e w2 ⟨rfl, ⟨fu', lf', hr, hfz⟩, hb⟩
      replace hb := Lib.hid hb
      replace hfz := Lib.hid hfz
      have HR := Lib.hid (hr.put (i := 1) (x := .int .i64 (n : Int)) rfl)
      have c0 := Lies.cell (i := 0) hr.lies rfl
      have c1 := Lies.cell (i := 1) hr.lies rfl
      have f1 := Lies.free hr.lies 1
      clear hr
      go_wp2
      go_ret
      refine ⟨⟨_, rfl, err_none⟩, ?_⟩
      exact does_of HS.out HR.out (by rw [all_done, HA.out]) (by show _ = (((all (doesD d)).size : Nat) : Int); rw [HA.out, HM.out]) (by show _ = (doesD d).room; rw [doesD_room]) rfl (hfz.out.of rfl rfl) (fun _ hk => .inl hk) ((Apart.but ((HS.out b).2 (.inl rfl)) hb.out).trans (Apart.but ((HS.out b).2 (.inl rfl)) (But.set b 1 _ _)))
theorem Raw.cut {w : World} {b n cap : Nat} {p : Option Addr} {l : List Nat} {sf rm lf : Int} {dn fu : Bool} (h : Raw w b p n cap l sf rm dn fu lf) {m : Nat} (hm : m ≤ n) (k : Int) :
    Raw ((w.setCell ⟨b, 0, none⟩ (.slice p m cap)).setCell ⟨b, 1, none⟩ (.int .i64 k)) b p m cap (l.take m) k rm dn fu lf := by
  have h1 : Raw (w.setCell ⟨b, 0, none⟩ (.slice p m cap)) b p m cap (l.take m) sf rm dn fu lf :=
    ⟨h.lies.set 0 _, own_keep (own_take h.own hm) fun k hk => Below.heap_setCell _ _ _ _ fun e => h.far (by rw [hk, e]), h.far⟩
  exact h1.put (i := 1) (x := .int .i64 k) rfl
theorem pcut_wrong {d : Dk} {n : Int} (ho : d.off = false) (h : n < 0 ∨ ((all d).size : Int) < n) : cut n d = (1, d) := by
  unfold cut
  rw [if_pos ⟨ho, h⟩]
theorem pcut_yes {d : Dk} {n : Int} (h : ¬ (n < 0 ∨ ((all d).size : Int) < n)) (hd : doesB d = true) : cut n d = (0, cutD n.toNat (doesD d)) := by
  unfold cut
  rw [if_neg (fun k => h k.2), if_pos hd]
theorem pcut_no {d : Dk} {n : Int} (h : ¬ (n < 0 ∨ ((all d).size : Int) < n)) (hd : doesB d = false) : cut n d = (5, doesD d) := by
  unfold cut
  rw [if_neg (fun k => h k.2), if_neg (by rw [hd]; simp)]
set_option maxRecDepth 100000 in
set_option maxHeartbeats 4000000 in
theorem cutOk : CutOk dev := by
  rintro b S d z w ⟨p, n, cap, fu, lf, h, hf, hS⟩ ok hz
  have hn := all_len h
  have H := Lib.hid h
  have HF := Lib.hid hf
  have HS := Lib.hid hS
  have HD := Lib.hid (downR h)
  have HE := Lib.hid (fun c => refR h c)
  have HZ := Lib.hid (size_is hn)
  have HA := Lib.hid (all_does d)
  cases ho : d.off with
  | true =>
    have HX := Lib.hid (cut_off z ho)
    rw [HX.out]
    rw [ho] at HD HE HZ
    clear h hf hS ok hn
    go_enter Tryd.func24, Tryd.ntmps24
    go_wp2_with (first
      | (go_at_call 31; refine HD.out.mono ?_; rintro e w2 ⟨rfl, rfl⟩)
      | (go_at_call 33; refine (HE.out 5).mono ?_; rintro e w2 ⟨⟨x, rfl, hx⟩, hb⟩; replace hx := Lib.hid hx; replace hb := Lib.hid hb))
    go_ret
    exact ⟨⟨_, rfl, err_some (show (5 : Int) ≠ 0 by decide) (by rw [HZ.out]; exact hx.out)⟩, does_same H.out HF.out HS.out hb.out⟩
  | false =>
    rw [ho] at HD HE HZ
    have c0 := Lies.cell (i := 0) h.lies rfl
    by_cases hw : z < 0 ∨ (n : Int) < z
    · have HX := Lib.hid (pcut_wrong (d := d) (n := z) ho (by rw [← hn]; exact hw))
      rw [HX.out]
      clear h hf hS ok hn
      by_cases h0 : z < 0
      · have t0 : decide (z < 0) = true := decide_eq_true h0
        clear h0 hw
        go_enter Tryd.func24, Tryd.ntmps24
        go_wp2_with (first
          | (go_at_call 31; refine HD.out.mono ?_; rintro e w2 ⟨rfl, rfl⟩)
          | (go_at_call 33; refine (HE.out 1).mono ?_; rintro e w2 ⟨⟨x, rfl, hx⟩, hb⟩; replace hx := Lib.hid hx; replace hb := Lib.hid hb))
        go_ret
        exact ⟨⟨_, rfl, err_some (show (1 : Int) ≠ 0 by decide) (by rw [HZ.out]; exact hx.out)⟩, does_same H.out HF.out HS.out hb.out⟩
      · have t0 : decide (z < 0) = false := decide_eq_false h0
        have t1 : decide ((n : Int) < z) = true := decide_eq_true (by omega)
        clear h0 hw
        go_enter Tryd.func24, Tryd.ntmps24
        go_wp2_with (first
          | (go_at_call 31; refine HD.out.mono ?_; rintro e w2 ⟨rfl, rfl⟩)
          | (go_at_call 33; refine (HE.out 1).mono ?_; rintro e w2 ⟨⟨x, rfl, hx⟩, hb⟩; replace hx := Lib.hid hx; replace hb := Lib.hid hb))
        go_ret
        exact ⟨⟨_, rfl, err_some (show (1 : Int) ≠ 0 by decide) (by rw [HZ.out]; exact hx.out)⟩, does_same H.out HF.out HS.out hb.out⟩
    obtain ⟨m, rfl⟩ : ∃ m : Nat, z = (m : Int) := ⟨z.toNat, by omega⟩
    have hmn : m ≤ n := by omega
    have hw' : ¬ ((m : Int) < 0 ∨ ((all d).size : Int) < (m : Int)) := by rw [← hn]; exact hw
    have t0 : decide ((m : Int) < 0) = false := decide_eq_false (by omega)
    have t1 : decide ((n : Int) < (m : Int)) = false := decide_eq_false (by omega)
    have t1' : decide (n < m) = false := decide_eq_false (by omega)
    have h' := h
    rw [ho] at h'
    have HBl := Lib.hid (blowsR h' ho hf ok)
    cases hd : doesB d with
    | false =>
      have HX := Lib.hid (pcut_no hw' hd)
      have HM := Lib.hid (show n = (all (doesD d)).size by rw [all_does]; exact hn)
      rw [HX.out]
      rw [hd] at HBl
      clear h h' hf hS ok hn hw hw'
      go_enter Tryd.func24, Tryd.ntmps24
      go_wp2_with (go_at_call 31; refine HD.out.mono ?_; rintro e w2 ⟨rfl, rfl⟩)
      refine HBl.out.mono ?_
      rintro e w2 ⟨rfl, ⟨fu', lf', hr, hfz⟩, hb⟩
      have HE2 := Lib.hid (refR hr 5)
      replace hb := Lib.hid hb
      replace hfz := Lib.hid hfz
      replace hr := Lib.hid hr
      have HK := Lib.hid (size_is HM.out)
      obtain ⟨q, hq⟩ : ∃ q, q = size (doesD d) := ⟨_, rfl⟩
      rw [← hq] at HK
      rw [← HK.out] at HE2
      replace hq := Lib.hid hq
      clear c0
      go_wp2_with (go_at_call 33; refine HE2.out.mono ?_; rintro e w3 ⟨⟨x, rfl, hx⟩, hb2⟩; replace hx := Lib.hid hx; replace hb2 := Lib.hid hb2)
      go_ret
      refine ⟨⟨_, rfl, err_some (show (5 : Int) ≠ 0 by decide) (by rw [← hq.out]; exact hx.out.mono hb.out.size)⟩, ?_⟩
      exact does_of HS.out (hr.out.below hb2.out) (by rw [HA.out]) (by rw [doesD_done]) (by rw [doesD_room]) rfl hfz.out (fun _ hk => .inl hk) ((Apart.but ((HS.out b).2 (.inl rfl)) hb.out).trans (Apart.of hb2.out))
    | true =>
      have HX := Lib.hid (pcut_yes hw' hd)
      rw [HX.out]
      rw [hd] at HBl
      clear h' hf hS ok hn hw hw'
      have hcs := own_cases h.own
      clear h
      rcases hcs with ⟨rfl, rfl, rfl⟩ | ⟨g, cur, rfl, -, hc⟩
      · obtain rfl : m = 0 := by omega
        go_enter Tryd.func24, Tryd.ntmps24
        go_wp2_with (go_at_call 31; refine HD.out.mono ?_; rintro e w2 ⟨rfl, rfl⟩)
        refine HBl.out.mono ?_
        rintro e w2 ⟨rfl, ⟨fu', lf', hr, hfz⟩, hb⟩
        replace hb := Lib.hid hb
        replace hfz := Lib.hid hfz
        clear c0
        have c0 := Lies.cell (i := 0) hr.lies rfl
        have c1 := Lies.cell (i := 1) hr.lies rfl
        have f0 := Lies.free hr.lies 0
        have f1 := Lies.free hr.lies 1
        replace hr := Lib.hid hr
        go_wp2
        all_goals
          go_ret
          refine ⟨⟨_, rfl, err_none⟩, ?_⟩
          exact does_of HS.out (hr.out.cut hmn _) (by rw [cutD_nats, all_does]) (by rw [cutD_done, doesD_done]; omega) (by rw [(cutD_rest _ _).1, doesD_room]) (by rw [(cutD_rest _ _).2.1]) (hfz.out.of (cutD_rest _ _).2.1 (cutD_rest _ _).2.2) (fun _ hk => .inl hk) ((Apart.but ((HS.out b).2 (.inl rfl)) hb.out).trans (Apart.but ((HS.out b).2 (.inl rfl)) ((But.set b 0 _ _).trans (But.set b 1 _ _))))
      · go_enter Tryd.func24, Tryd.ntmps24
        go_wp2_with (go_at_call 31; refine HD.out.mono ?_; rintro e w2 ⟨rfl, rfl⟩)
        refine HBl.out.mono ?_
        rintro e w2 ⟨rfl, ⟨fu', lf', hr, hfz⟩, hb⟩
        replace hb := Lib.hid hb
        replace hfz := Lib.hid hfz
        clear c0
        have c0 := Lies.cell (i := 0) hr.lies rfl
        have c1 := Lies.cell (i := 1) hr.lies rfl
        have f0 := Lies.free hr.lies 0
        have f1 := Lies.free hr.lies 1
        replace hr := Lib.hid hr
        go_wp2
        all_goals
          go_ret
          refine ⟨⟨_, rfl, err_none⟩, ?_⟩
          exact does_of HS.out (hr.out.cut hmn _) (by rw [cutD_nats, all_does]) (by rw [cutD_done, doesD_done]; omega) (by rw [(cutD_rest _ _).1, doesD_room]) (by rw [(cutD_rest _ _).2.1]) (hfz.out.of (cutD_rest _ _).2.1 (cutD_rest _ _).2.2) (fun _ hk => .inl hk) ((Apart.but ((HS.out b).2 (.inl rfl)) hb.out).trans (Apart.but ((HS.out b).2 (.inl rfl)) ((But.set b 0 _ _).trans (But.set b 1 _ _))))
end Go.Proofs.YtfdldjhndfohhaaDoor
namespace Go.Proofs.YtfdldjhndfohhaaDoor
open Go.RowKit BlockMath TextNat

theorem pread_wrong {d : Dk} {a b : Int} (ho : d.off = false) (h : a < 0 ∨ b < a ∨ ((all d).size : Int) < b) : read a b d = (ByteArray.empty, 1) := by
  unfold BlockMath.read
  rw [if_neg (by rw [ho]; simp), if_pos h]
theorem pread_right {d : Dk} {a b : Nat} (ho : d.off = false) (h1 : a ≤ b) (h2 : b ≤ (all d).size) : read a b d = ((all d).extract a b, 0) := by
  unfold BlockMath.read
  rw [if_neg (by rw [ho]; simp), if_neg (by omega)]
  rfl
theorem nats_part (s : ByteArray) (a m : Nat) : nats (s.extract a m) = ((nats s).drop a).take (m - a) := by
  unfold nats
  rw [ByteArray.data_extract, Array.toList_extract, List.extract_eq_take_drop, List.map_take, List.map_drop]
/-- Bytes in memory from a place on, as a text. -/
theorem text_part (w : World) (g a k cap : Nat) (s : ByteArray) (hs : s.size = k) (hc : ∀ j z : Nat, (nats s)[j]? = some z → w.cell? ⟨g, a + j, none⟩ = some (.int .u8 (z : Int))) :
    (convert 46 9 (.slice (some ⟨g, a, none⟩) k cap)).run Tryd.prog w = .ok (.string s) w := by
  have h := run_convert_bytes_back (P := Tryd.prog) w 46 9 5 ⟨g, a, none⟩ cap s.data.toList Tryd.underlying46 Tryd.underlying5 Tryd.underlying9 (fun j hj => by
    rw [WideShapes.add_plain]
    refine hc j _ ?_
    unfold nats
    rw [List.getElem?_map, List.getElem?_eq_getElem hj]
    rfl)
  rw [show s.data.toList.length = k from by rw [← hs]; exact Array.length_toList] at h
  exact h
theorem text_none (w : World) (cap : Nat) : (convert 46 9 (.slice none 0 cap)).run Tryd.prog w = .ok (.string ByteArray.empty) w := by
  rw [run_convert_bytes_string w 46 9 5 none 0 cap Tryd.underlying46 Tryd.underlying5 Tryd.underlying9]
  simp [Conv.bytesToString]
set_option maxRecDepth 100000 in
set_option maxHeartbeats 4000000 in
theorem readOk : ReadOk dev := by
  rintro b S d y z w ⟨p, n, cap, fu, lf, h, hf, hS⟩ ok hy hz
  have hn := all_len h
  have HD := Lib.hid (downR h)
  have HE := Lib.hid (fun c => refR h c)
  have HZ := Lib.hid (size_is hn)
  have c0 := Lies.cell (i := 0) h.lies rfl
  cases ho : d.off with
  | true =>
    have HX := Lib.hid (read_off y z ho)
    rw [HX.out]
    rw [ho] at HD HE HZ
    clear h hf hS ok hn
    go_enter Tryd.func14, Tryd.ntmps14
    go_wp2_with (first
      | (go_at_call 31; refine HD.out.mono ?_; rintro e w2 ⟨rfl, rfl⟩)
      | (go_at_call 33; refine (HE.out 5).mono ?_; rintro e w2 ⟨⟨x, rfl, hx⟩, hb⟩; replace hx := Lib.hid hx; replace hb := Lib.hid hb))
    go_ret2
    exact ⟨⟨_, rfl, err_some (show (5 : Int) ≠ 0 by decide) (by rw [HZ.out]; exact hx.out)⟩, hb.out⟩
  | false =>
    rw [ho] at HD HE HZ
    by_cases hw : y < 0 ∨ z < y ∨ (n : Int) < z
    · have HX := Lib.hid (pread_wrong (d := d) (a := y) (b := z) ho (by rw [← hn]; exact hw))
      rw [HX.out]
      clear h hf hS ok hn
      cases t0 : decide (y < 0) <;> cases t1 : decide (z < y) <;> cases t2 : decide ((n : Int) < z)
      · exact absurd hw (by have := of_decide_eq_false t0; have := of_decide_eq_false t1; have := of_decide_eq_false t2; omega)
      all_goals
        clear hw
        go_enter Tryd.func14, Tryd.ntmps14
        go_wp2_with (first
          | (go_at_call 31; refine HD.out.mono ?_; rintro e w2 ⟨rfl, rfl⟩)
          | (go_at_call 33; refine (HE.out 1).mono ?_; rintro e w2 ⟨⟨x, rfl, hx⟩, hb⟩; replace hx := Lib.hid hx; replace hb := Lib.hid hb))
        go_ret2
        exact ⟨⟨_, rfl, err_some (show (1 : Int) ≠ 0 by decide) (by rw [HZ.out]; exact hx.out)⟩, hb.out⟩
    obtain ⟨a, rfl⟩ : ∃ a : Nat, y = (a : Int) := ⟨y.toNat, by omega⟩
    obtain ⟨m, rfl⟩ : ∃ m : Nat, z = (m : Int) := ⟨z.toNat, by omega⟩
    have ham : a ≤ m := by omega
    have hmn : m ≤ n := by omega
    have HX := Lib.hid (pread_right ho ham (by rw [← hn]; exact hmn))
    have t0 : decide ((a : Int) < 0) = false := decide_eq_false (by omega)
    have t1 : decide ((m : Int) < (a : Int)) = false := decide_eq_false (by omega)
    have t1' : decide (m < a) = false := decide_eq_false (by omega)
    have t2 : decide ((n : Int) < (m : Int)) = false := decide_eq_false (by omega)
    have t2' : decide (n < m) = false := decide_eq_false (by omega)
    rw [HX.out]
    have hex : ((all d).extract a m).size = m - a := by rw [ByteArray.size_extract, ← hn]; omega
    obtain ⟨R, hR⟩ : ∃ R, R = (all d).extract a m := ⟨_, rfl⟩
    rw [← hR] at hex ⊢
    have hown := h.own
    replace hn := Lib.hid hn
    rcases own_cases h.own with ⟨rfl, rfl, rfl⟩ | ⟨g, cur, rfl, -, hc⟩
    · obtain rfl : m = 0 := by omega
      obtain rfl : a = 0 := by omega
      have he : R = ByteArray.empty := ba_ext (Array.eq_empty_of_size_eq_zero hex)
      have kw := text_none w 0
      rw [he]
      clear h hf hS ok hw hown hR hex he
      go_enter Tryd.func14, Tryd.ntmps14
      go_wp2_with (go_at_call 31; refine HD.out.mono ?_; rintro e w2 ⟨rfl, rfl⟩)
      go_ret2
      exact ⟨⟨_, rfl, err_none⟩, Below.refl _ _⟩
    · by_cases hca : cap = a
      · have e0 : m - a = 0 := by omega
        have e1 : cap - a = 0 := by omega
        have kw := text_part w g 0 0 0 R (by omega) (fun j z hz => by
          have := (List.getElem?_eq_some_iff.1 hz).1
          rw [nats_len] at this
          omega)
        clear h hf hS ok hw hown hR hex
        go_enter Tryd.func14, Tryd.ntmps14
        go_wp2_with (go_at_call 31; refine HD.out.mono ?_; rintro e w2 ⟨rfl, rfl⟩)
        go_ret2
        exact ⟨⟨_, rfl, err_none⟩, Below.refl _ _⟩
      · have kw := text_part w g a (m - a) (cap - a) R hex (fun j z hz => by
          rw [hR, nats_part] at hz
          rw [List.getElem?_take] at hz
          split at hz
          · rename_i hj
            rw [List.getElem?_drop] at hz
            rw [hown.cellAt (a + j) (by omega), byteVals_at, hz]
            rfl
          · cases hz)
        clear h hf hS ok hw hown hR hex
        go_enter Tryd.func14, Tryd.ntmps14
        go_wp2_with (go_at_call 31; refine HD.out.mono ?_; rintro e w2 ⟨rfl, rfl⟩)
        go_ret2
        exact ⟨⟨_, rfl, err_none⟩, Below.refl _ _⟩
theorem prot_byte (a b : Nat) (ha : a < 256) (hb : b < 256) : bits .xor .u8 (a : Int) (b : Int) = (((a ^^^ b) % 256 : Nat) : Int) := by
  have hx : a ^^^ b < 2 ^ 8 := Nat.xor_lt_two_pow (by omega) (by omega)
  show IntKind.u8.wrap ((BitVec.ofInt 8 (a : Int) ^^^ BitVec.ofInt 8 (b : Int)).toNat : Int) = _
  have h1 : (BitVec.ofInt 8 (a : Int)).toNat = a := by rw [BitVec.ofInt_natCast, BitVec.toNat_ofNat]; exact Nat.mod_eq_of_lt (by omega)
  have h2 : (BitVec.ofInt 8 (b : Int)).toNat = b := by rw [BitVec.ofInt_natCast, BitVec.toNat_ofNat]; exact Nat.mod_eq_of_lt (by omega)
  rw [BitVec.toNat_xor, h1, h2, IntKind.wrap_u8]
  omega
theorem prot_no {d : Dk} {n : Int} {c : Nat} (h : rotB n c d = false) : rotD n c d = d := by
  unfold rotD
  rw [if_neg (by rw [h]; simp)]
/-- A cell of the row written. -/
theorem Raw.byte {w : World} {b g n cap : Nat} {l : List Nat} {sf rm lf : Int} {dn fu : Bool} (h : Raw w b (some ⟨g, 0, none⟩) n cap l sf rm dn fu lf) (j z : Nat) :
    Raw (w.setCell ⟨g, j, none⟩ (.int .u8 (z : Int))) b (some ⟨g, 0, none⟩) n cap (l.set j z) sf rm dn fu lf := by
  refine ⟨?_, ?_, h.far⟩
  · exact (Below.heap_setCell _ _ _ _ fun e => h.far (by rw [e]; rfl)).trans h.lies
  · rw [← byteVals_set]
    exact (h.own.stored j _).1
theorem rot_nats {d : Dk} {m x c : Nat} (hb : rotB (m : Int) c d = true) (hx : (nats d.done)[m]? = some x) : nats (all (rotD (m : Int) c d)) = (nats (all d)).set m ((x ^^^ c) % 256) := by
  have hm : m < d.done.size := by rw [← nats_len]; exact (List.getElem?_eq_some_iff.1 hx).1
  unfold rotD
  rw [if_pos hb, show (m : Int).toNat = m by omega, hx]
  show nats (d.done.extract 0 m ++ txt [((x ^^^ c) % 256)] ++ d.done.extract (m + 1) d.done.size ++ d.late) = (nats (d.done ++ d.late)).set m _
  rw [nats_append, nats_append, nats_append, nats_extract, nats_part, nats_txt _ (by simp; omega), nats_append, List.set_append_left _ _ (by rw [nats_len]; exact hm), List.set_eq_take_append_cons_drop, if_pos (by rw [nats_len]; exact hm)]
  congr 1
  rw [List.append_assoc]
  congr 1
  show _ :: List.take _ _ = _
  rw [List.take_of_length_le (by rw [List.length_drop, nats_len]; omega)]
theorem rot_rest (d : Dk) (n : Int) (c : Nat) : (rotD n c d).room = d.room ∧ (rotD n c d).off = d.off ∧ (rotD n c d).fuse = d.fuse := by unfold rotD; split <;> exact ⟨rfl, rfl, rfl⟩
set_option maxRecDepth 100000 in
set_option maxHeartbeats 4000000 in
theorem rotOk : RotOk dev := by
  rintro b S d z c w ⟨p, n, cap, fu, lf, h, hf, hS⟩ ok hz hc
  have hn := all_len h
  have H := Lib.hid h
  have HF := Lib.hid hf
  have HS := Lib.hid hS
  have HD := Lib.hid (safeR h)
  have kA := ok.all
  by_cases h0 : z < 0
  · have hb : rotB z c d = false := by unfold rotB; rw [decide_eq_false (show ¬ 0 ≤ z by omega)]; simp
    rw [prot_no hb, hb]
    have t0 : decide (z < 0) = true := decide_eq_true h0
    clear h0 hb h hf hS hn
    go_enter Tryd.func29, Tryd.ntmps29
    go_wp2
    go_ret
    exact ⟨rfl, does_same H.out HF.out HS.out (Below.refl _ _)⟩
  have t0 : decide (z < 0) = false := decide_eq_false h0
  obtain ⟨q, hq⟩ : ∃ q : Int, q = if d.off then 0 else (d.done.size : Int) := ⟨_, rfl⟩
  rw [← hq] at HD
  by_cases h1 : q ≤ z
  · have hb : rotB z c d = false := by
      unfold rotB
      cases ho : d.off with
      | true => rfl
      | false =>
        rw [ho] at hq
        rw [decide_eq_false (show ¬ z < (d.done.size : Int) by rw [hq] at h1; simp at h1; omega)]
        simp
    rw [prot_no hb, hb]
    have t1 : decide (q ≤ z) = true := decide_eq_true h1
    clear h0 h1 hb h hf hS hn hq
    go_enter Tryd.func29, Tryd.ntmps29
    go_wp2_with (go_at_call 32; refine HD.out.mono ?_; rintro e w2 ⟨rfl, rfl⟩)
    go_ret
    exact ⟨rfl, does_same H.out HF.out HS.out (Below.refl _ _)⟩
  have t1 : decide (q ≤ z) = false := decide_eq_false h1
  have ho : d.off = false := by
    cases ho : d.off with
    | false => rfl
    | true =>
      rw [ho] at hq
      simp at hq
      omega
  rw [ho] at hq
  simp at hq
  by_cases h2 : c = 0
  · have hb : rotB z c d = false := by unfold rotB; rw [decide_eq_true h2]; simp
    rw [prot_no hb, hb]
    subst h2
    clear h0 h1 hb h hf hS hn hq
    go_enter Tryd.func29, Tryd.ntmps29
    go_wp2_with (go_at_call 32; refine HD.out.mono ?_; rintro e w2 ⟨rfl, rfl⟩)
    go_ret
    exact ⟨rfl, does_same H.out HF.out HS.out (Below.refl _ _)⟩
  have t2 : ((c : Int) == 0) = false := by rw [beq_eq_false_iff_ne]; omega
  obtain ⟨m, rfl⟩ : ∃ m : Nat, z = (m : Int) := ⟨z.toNat, by omega⟩
  have hm : m < d.done.size := by omega
  have hb : rotB (m : Int) c d = true := by unfold rotB; rw [ho, decide_eq_true (show 0 ≤ (m : Int) by omega), decide_eq_true (show (m : Int) < (d.done.size : Int) by omega), decide_eq_false h2]; rfl
  obtain ⟨x, hx⟩ : ∃ x, (nats d.done)[m]? = some x := ⟨_, nats_at d.done m hm⟩
  have hx256 : x < 256 := nats_lt d.done x (List.mem_of_getElem? hx)
  have HR := Lib.hid (rot_nats hb hx)
  have hxa : (nats (all d))[m]? = some x := by
    show (nats (d.done ++ d.late))[m]? = _
    rw [nats_append, List.getElem?_append_left (by rw [nats_len]; exact hm), hx]
  obtain ⟨y, hy⟩ : ∃ y, y = (x ^^^ c) % 256 := ⟨_, rfl⟩
  have ke : bits .xor .u8 (x : Int) (c : Int) = (y : Int) := by rw [hy]; exact prot_byte x c hx256 hc
  rw [← hy] at HR
  rw [hb]
  have hmn : m < n := by rw [hn, all_size]; omega
  rcases own_cases h.own with ⟨rfl, rfl, rfl⟩ | ⟨g, cur, rfl, -, hc2⟩
  · omega
  have c0 := Lies.cell (i := 0) h.lies rfl
  have d1 : w.cell? ⟨g, m, none⟩ = some (.int .u8 (x : Int)) := by rw [h.own.cellAt m (by omega), byteVals_at, hxa]; rfl
  have f1 : w.frozen? ⟨g, m, none⟩ = false := h.own.frozenAt m
  replace hn := Lib.hid hn
  replace hq := Lib.hid hq
  clear h h0 h1 h2 hb hf hS hy hx hxa
  go_enter Tryd.func29, Tryd.ntmps29
  go_wp2_with (go_at_call 32; refine HD.out.mono ?_; rintro e w2 ⟨rfl, rfl⟩)
  go_ret
  refine ⟨rfl, ?_⟩
  exact does_of HS.out (H.out.byte m y) HR.out.symm (by rw [rotD_size]) (rot_rest _ _ _).1.symm (rot_rest _ _ _).2.1.symm (HF.out.of (rot_rest _ _ _).2.1 (rot_rest _ _ _).2.2) (fun _ hk => .inl hk) (Apart.but ((HS.out g).2 (.inr rfl)) (But.set g m _ _))
end Go.Proofs.YtfdldjhndfohhaaDoor
