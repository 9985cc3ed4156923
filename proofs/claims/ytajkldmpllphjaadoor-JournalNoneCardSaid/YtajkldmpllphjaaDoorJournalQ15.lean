/-
  The program's Put of chapter 10. The conditions: crc's tables; what lies in memory.
-/
import Derived.Test.YtajkldmpllphjaaDoorJournalQ14
import Derived.Deep.RegionHeld3
namespace Go.Proofs.YtajkldmpllphjaaDoor
open Go.RowKit BlockMath FrameMath TextNat JournalMath

theorem doesj_same {w w' : World} {p ba bb : Nat} {S : Nat → Prop} {j : Jn} (h : Trio dev jrn w p ba bb S j) (hb : Below w.heap.size w w') : DoesJ dev jrn w p ba bb S j w' :=
  ⟨⟨S, h.stays hb.size fun k hk => hb.block k (h.lt k hk), fun _ hk => .inl hk⟩, .of hb⟩
theorem terr_jerr {w : World} {c : Int} {x : Value} (hc : c ≠ 0) (h : ErrT w c x) : JErr w c x := by
  unfold JErr
  rw [if_neg hc]
  exact h.is
theorem write_text (d : Dk) (g : Nat) (l : List (List Nat)) : JournalMath.write d g (all d).size (enc (recordsP g (safeNo d) l)) = JournalMath.write d g (all d).size (enc (recordsP g d.done.size l)) := by
  cases ho : d.off with
  | false => rw [show safeNo d = d.done.size by unfold safeNo; rw [ho]; rfl]
  | true => rw [write_off _ _ _ ho, write_off _ _ _ ho]
theorem ok_write {d : Dk} (h : Ok d) (g c : Nat) (t : List Nat) : Ok (JournalMath.write d g c t).2 := by
  have hu : ∀ r : Int × Dk, Ok r.2 → Ok (undo c r).2 := fun r hr => by
    unfold undo
    split
    · exact hr.cut _
    · exact hr
  unfold JournalMath.write
  apply hu
  split
  · exact ok_marks (h.append _) g
  · exact h.append _
set_option maxRecDepth 100000 in
set_option maxHeartbeats 8000000 in
theorem putOk : PutOk dev jrn := by
  intro p ba bb S j pp cap xs w h hT hS hx hs hc hn
  have HTr := Lib.hid h
  obtain ⟨Sd, Sj, hd, hj, hdj, hdS, hjS, ok, hmove⟩ := h.one j.now
  obtain ⟨N, hN⟩ : ∃ N, N = xs.length := ⟨_, rfl⟩
  have HN := Lib.hid hN
  have HEn := Lib.hid (pended_ok p ba bb j.gen Sj j.now j.over w hj)
  by_cases ho : j.over = true
  · rw [ho] at HEn
    have HR := Lib.hid (prefusal_ok p ba bb j.gen Sj j.now j.over 5 _ w hj (ErrT.code w 5))
    have HP := Lib.hid (show JournalMath.put (xs.map nats) j = (5, j) by unfold JournalMath.put; rw [if_pos ho])
    rw [← hN]
    clear h hT hS hx hs hc hn hd hj hdj hdS hjS ok hmove hN ho
    go_enter Tryd.func8, Tryd.ntmps8
    go_wp2_with fail
    refine HEn.out.mono ?_
    rintro e w1 ⟨rfl, hw1⟩
    rw [hw1]
    clear hw1
    go_wp2_with fail
    refine HR.out.mono ?_
    rintro e w2 ⟨⟨r, rfl, hr⟩, hb⟩
    have HE := Lib.hid hr
    have HB := Lib.hid hb
    clear hr hb
    go_wp2
    go_ret
    rw [HP.out]
    exact ⟨⟨_, rfl, terr_jerr (by simp) HE.out⟩, doesj_same HTr.out HB.out⟩
  replace ho : j.over = false := by simpa using ho
  rw [ho] at HEn
  by_cases h0 : N = 0
  · have HP := Lib.hid (show JournalMath.put (xs.map nats) j = (0, j) by unfold JournalMath.put; rw [if_neg (by rw [ho]; simp), if_pos (by rw [List.length_map]; omega)])
    rw [← hN, h0]
    clear h hT hS hx hs hc hn hd hj hdj hdS hjS ok hmove hN ho h0
    go_enter Tryd.func8, Tryd.ntmps8
    go_wp2_with fail
    refine HEn.out.mono ?_
    rintro e w1 ⟨rfl, hw1⟩
    rw [hw1]
    clear hw1
    go_wp2
    go_ret
    rw [HP.out]
    exact ⟨⟨.nilIface, rfl, by unfold JErr; rw [if_pos rfl]⟩, doesj_same HTr.out (Below.refl _ _)⟩
  have t0 : ((N : Int) == 0) = false := by rw [beq_eq_false_iff_ne]; omega
  have t0' : (N == 0) = false := by rw [beq_eq_false_iff_ne]; omega
  have HLg := Lib.hid (plong_ok pp cap xs w hx (by have := hs.few; omega))
  obtain ⟨lg, hlg⟩ : ∃ lg, lg = JournalMath.long (xs.map nats) := ⟨_, rfl⟩
  rw [← hlg] at HLg
  by_cases h4 : 400 < N
  · have t1 : decide ((400 : Int) < (N : Int)) = true := decide_eq_true (by omega)
    have t1' : decide (400 < N) = true := decide_eq_true h4
    have HR := Lib.hid (prefusal_ok p ba bb j.gen Sj j.now j.over 3 _ w hj (ErrT.code w 3))
    have HP := Lib.hid (show JournalMath.put (xs.map nats) j = (3, j) by unfold JournalMath.put; rw [if_neg (by rw [ho]; simp), if_neg (by rw [List.length_map]; omega), if_pos (.inl (by rw [List.length_map]; omega))])
    rw [← hN] at HLg ⊢
    clear h hT hS hx hs hc hn hd hj hdj hdS hjS ok hmove hN ho h0 h4 hlg
    go_enter Tryd.func8, Tryd.ntmps8
    go_wp2_with fail
    refine HEn.out.mono ?_
    rintro e w1 ⟨rfl, hw1⟩
    rw [hw1]
    clear hw1
    go_wp2_with fail
    refine HR.out.mono ?_
    rintro e w2 ⟨⟨r, rfl, hr⟩, hb⟩
    have HE := Lib.hid hr
    have HB := Lib.hid hb
    clear hr hb
    go_wp2
    go_ret
    rw [HP.out]
    exact ⟨⟨_, rfl, terr_jerr (by simp) HE.out⟩, doesj_same HTr.out HB.out⟩
  have t1 : decide ((400 : Int) < (N : Int)) = false := decide_eq_false (by omega)
  have t1' : decide (400 < N) = false := decide_eq_false h4
  cases hl2 : lg with
  | true =>
    rw [hl2] at HLg
    have HR := Lib.hid (prefusal_ok p ba bb j.gen Sj j.now j.over 3 _ w hj (ErrT.code w 3))
    have HP := Lib.hid (show JournalMath.put (xs.map nats) j = (3, j) by unfold JournalMath.put; rw [if_neg (by rw [ho]; simp), if_neg (by rw [List.length_map]; omega), if_pos (.inr (by rw [← hlg, hl2]))])
    rw [← hN] at HLg ⊢
    clear h hT hS hx hs hc hn hd hj hdj hdS hjS ok hmove hN ho h0 h4 hlg
    go_enter Tryd.func8, Tryd.ntmps8
    go_wp2_with fail
    refine HEn.out.mono ?_
    rintro e w1 ⟨rfl, hw1⟩
    rw [hw1]
    clear hw1
    go_wp2_with (go_at_call 20; refine HLg.out.mono ?_; rintro e w8 ⟨rfl, hw8⟩; rw [hw8]; clear hw8)
    refine HR.out.mono ?_
    rintro e w2 ⟨⟨r, rfl, hr⟩, hb⟩
    have HE := Lib.hid hr
    have HB := Lib.hid hb
    clear hr hb
    go_wp2
    go_ret
    rw [HP.out]
    exact ⟨⟨_, rfl, terr_jerr (by simp) HE.out⟩, doesj_same HTr.out HB.out⟩
  | false =>
    rw [hl2] at HLg
    obtain ⟨q, hq⟩ : ∃ q, q = if j.now then bb else ba := ⟨_, rfl⟩
    rw [dev_cur] at hd ok
    rw [← hq] at hd hmove
    obtain ⟨d, hdd⟩ : ∃ d, d = j.cur := ⟨_, rfl⟩
    rw [← hdd] at hd ok
    obtain ⟨q2, hq2⟩ : ∃ q2, q2 = if j.now then ba else bb := ⟨_, rfl⟩
    obtain ⟨g, hg⟩ : ∃ g, g = j.gen := ⟨_, rfl⟩
    have LJ := Lib.hid (show Lies w p [ptr q, ptr q2, .int .i64 (g : Int), .bool false] 50 by rw [hq, hq2, hg, ← ho]; exact hj.1)
    have HJ := Lib.hid hj
    have HGT := Lib.hid (show g ≤ WireMath.top by have := hj.2.1; unfold big at this; unfold WireMath.top; omega)
    have NP := Lib.hid (show ¬ Sd p from fun hs => hdj p hs ((hj.2.2 p).2 rfl))
    have HT := Lib.hid hT
    have HS := Lib.hid (show Far Sd from fun k hk => hS k (hdS k hk))
    have HB0 := Lib.hid (Been.start hd)
    have OK := Lib.hid ok
    have HX := Lib.hid hx
    have HXS := Lib.hid hs
    have HNX := Lib.hid (show ∀ a, pp = some a → 0 < xs.length → ¬ Sd a.block from fun a ha h0 hk => hn a ha h0 (hdS _ hk))
    have HMV := Lib.hid hmove
    have HDJ := Lib.hid hdj
    have HDD := Lib.hid (And.intro hdd hg)
    have HQQ := Lib.hid (And.intro hq hq2)
    have HOV := Lib.hid ho
    have HP := Lib.hid (show JournalMath.put (xs.map nats) j = ((JournalMath.write d g (all d).size (enc (partsK 2 g (safeNo d) xs))).1, (j.setCur (JournalMath.write d g (all d).size (enc (partsK 2 g (safeNo d) xs))).2).ends (JournalMath.write d g (all d).size (enc (partsK 2 g (safeNo d) xs))).1) by
      unfold JournalMath.put
      rw [if_neg (by rw [ho]; simp), if_neg (by rw [List.length_map]; omega), if_neg (by rw [List.length_map, ← hlg, hl2]; simp; omega), partsK_records, write_text, hdd, hg])
    obtain ⟨TT, hTT⟩ : ∃ TT, TT = enc (partsK 2 g (safeNo d) xs) := ⟨_, rfl⟩
    have HTT := Lib.hid hTT
    have HTL := Lib.hid (show TT.length ≤ 100000 by
      rw [hTT]
      have := smalls_len hs 2 g (safeNo d) xs.length
      rw [List.take_length] at this
      omega)
    rw [← hTT] at HP
    obtain ⟨R, hR⟩ : ∃ R, R = JournalMath.write d g (all d).size TT := ⟨_, rfl⟩
    have HRE := Lib.hid hR
    have OKR := Lib.hid (show Ok R.2 by rw [hR]; exact ok_write ok _ _ _)
    rw [← hR] at HP
    have HPL := Lib.hid (safe_top ok)
    obtain ⟨pl, hpl⟩ : ∃ pl, pl = safeNo d := ⟨_, rfl⟩
    have HPLE := Lib.hid hpl
    rw [← hpl] at HPL HTT
    have HB0d := Lib.hid (HB0.out.below (Below.refl _ _).drew)
    have HWr := Lib.hid (pwriter_ok q g Sd d w.drew HB0d.out.at_ ok)
    rw [← hpl] at HWr
    have c0 := Lies.cell (i := 0) LJ.out rfl
    have c2 := Lies.cell (i := 2) LJ.out rfl
    rw [← hN] at HLg ⊢
    clear h hT hS hx hs hc hn hd hj hdj hdS hjS ok hmove hN ho h0 h4 hlg hq hdd hq2 hg hTT hR hpl
    go_enter Tryd.func8, Tryd.ntmps8
    go_wp2_with fail
    refine HEn.out.mono ?_
    rintro e w1 ⟨rfl, hw1⟩
    rw [hw1]
    clear hw1
    go_wp2_with (go_at_call 20; refine HLg.out.mono ?_; rintro e w8 ⟨rfl, hw8⟩; rw [hw8]; clear hw8)
    go_region_held3 (fun w' => w'.cell? ⟨p, 0, none⟩ = some (ptr q) ∧ w'.cell? ⟨p, 2, none⟩ = some (.int .i64 (g : Int))) (first | exact ⟨a0, a2⟩ | exact ⟨c0, c2⟩) (first
      | (go_at_call 21
         refine HWr.out.mono ?_
         rintro e w2 ⟨⟨v, rfl, hv⟩, hb⟩
         have HVv := Lib.hid hv
         have HB2 := Lib.hid (HB0d.out.below hb)
         have LJ2 := Lib.hid (HB2.out.lies LJ.out NP.out)
         have a0 := Lies.cell (i := 0) LJ2.out rfl
         have a2 := Lies.cell (i := 2) LJ2.out rfl
         clear hv hb))
    all_goals
      obtain ⟨gb, pb, -, -, rfl, hl1, hl2⟩ := HVv.out
      have HB2d := Lib.hid (HB2.out.below (Below.refl _ _).drew)
      have HCl := Lib.hid (pclos_ok 2 g pl pp cap xs gb pb w2.drew (HB2d.out.tables HT.out HS.out) (HB2d.out.texts HX.out HNX.out) HXS.out (by decide) HGT.out HPL.out hl1 hl2)
      rw [← HTT.out, ← HN.out] at HCl
      clear hl1 hl2
      go_wp2_with fail
      go_region_held3 (fun w' => w'.cell? ⟨p, 0, none⟩ = some (ptr q) ∧ w'.cell? ⟨p, 2, none⟩ = some (.int .i64 (g : Int))) (first | exact ⟨k5, m5⟩ | exact ⟨k4, m4⟩ | exact ⟨k3, m3⟩ | exact ⟨a0, a2⟩) (first
        | (go_at_call 37
           refine HCl.out.mono ?_
           rintro e w3 ⟨rfl, hb⟩
           have HB3 := Lib.hid (HB2d.out.below hb)
           have LJ3 := Lib.hid (HB3.out.lies LJ.out NP.out)
           have k3 := Lies.cell (i := 0) LJ3.out rfl
           have m3 := Lies.cell (i := 2) LJ3.out rfl
           clear hb)
        | (go_at_call 23
           refine (padd_ok q g TT HTL.out Sd d w3 (HB3.out.tables HT.out HS.out) (been_far HB3.out HT.out HS.out) HB3.out.at_ OK.out HGT.out).mono ?_
           rintro e w4 ⟨⟨x, rfl, X⟩, hd⟩
           rw [← HRE.out] at X hd
           obtain ⟨S4, hb4⟩ := HB3.out.does hd
           have HB4 := Lib.hid hb4
           have HX4 := Lib.hid X
           have HJ4 := Lib.hid (show JAt w4 p Sj ba bb j.now j.gen j.over from ⟨HB4.out.lies HJ.out.1 NP.out, HJ.out.2⟩)
           have LJ4 := Lib.hid (HB4.out.lies LJ.out NP.out)
           have k4 := Lies.cell (i := 0) LJ4.out rfl
           have m4 := Lies.cell (i := 2) LJ4.out rfl
           clear hd hb4 X)
        | (go_at_call 22
           refine (panswer_ok p ba bb j.gen Sj j.now j.over R.1 x w4 HJ4.out HX4.out).mono ?_
           rintro e w5 ⟨⟨r, rfl, hr⟩, hj5, ha5⟩
           have HR5 := Lib.hid hr
           have HJ5 := Lib.hid hj5
           have HA5 := Lib.hid ha5
           have LJ5 := Lib.hid (show Lies w5 p [ptr q, ptr q2, .int .i64 (g : Int), .bool (j.over || (decide (R.1 ≠ 0) && decide (R.1 ≠ 4)))] 50 by
             have h := hj5.1
             rw [← HQQ.out.1, ← HQQ.out.2, ← HDD.out.2] at h
             exact h)
           have k5 := Lies.cell (i := 0) LJ5.out rfl
           have m5 := Lies.cell (i := 2) LJ5.out rfl
           clear hr hj5 ha5))
      all_goals
        have hsp : ∀ k, S4 k → ¬ Sj k := fun k hk hs => by
          rcases HB4.out.incl k hk with h | h
          · exact HDJ.out k h hs
          · have := LJ.out.lt
            rw [(HJ.out.2.2 k).1 hs] at h
            omega
        have hd5 := dev.stays HB4.out.at_ HA5.out.size (fun k hk => HA5.out.block k (dev.lt HB4.out.at_ k hk) (hsp k hk))
        have hap : Apart (fun k => Sd k ∨ Sj k) w w5 := (HB4.out.apart.wide (fun k hk => .inl hk)).trans (HA5.out.wide (fun k hk => .inr hk))
        have hres := HMV.out w5 R.2 j.now j.gen _ S4 hd5 HB4.out.incl HJ5.out hap OKR.out
        go_wp2
        go_ret
        rw [HP.out]
        refine ⟨⟨_, rfl, HR5.out.jerr⟩, ?_⟩
        rw [← with_cur, ends_is]
        exact hres
end Go.Proofs.YtajkldmpllphjaaDoor
