/-
  The program's Start of chapter 10. The conditions: crc's tables; what lies in memory.
-/
import Derived.Test.YtajkldmpllphjaaDoorJournalQ15
namespace Go.Proofs.YtajkldmpllphjaaDoor
open Go.RowKit BlockMath FrameMath TextNat JournalMath

theorem start_renew (j : Jn) (l : List (List Nat)) (ho : j.over = false) (h : ¬ (big ≤ j.gen ∨ JournalMath.long l = true)) :
    JournalMath.start l j = ((renewR j.spare j.gen l).1, Jn.ends { Jn.with_ j (!j.now) (renewR j.spare j.gen l).2.1 with now := if (renewR j.spare j.gen l).2.2 then !j.now else j.now, gen := if (renewR j.spare j.gen l).2.2 then j.gen + 1 else j.gen } (renewR j.spare j.gen l).1) := by
  rw [with_spare]
  unfold JournalMath.start renewR
  rw [if_neg (by rw [ho]; simp), if_neg h]
  by_cases hc : (cut 0 j.spare).1 = 0
  · simp only [if_neg (fun h : (cut 0 j.spare).1 ≠ 0 => h hc)]
    by_cases hw : (JournalMath.write (cut 0 j.spare).2 (j.gen + 1) 0 (enc (anew (j.gen + 1) l))).1 = 0
    · rw [if_pos hw]
      simp only [hw, decide_true, if_true]
      unfold Jn.ends
      simp
    · rw [if_neg hw]
      simp only [decide_eq_false hw]
      unfold Jn.setSpare
      cases j.now <;> rfl
  · simp only [if_pos (show (cut 0 j.spare).1 ≠ 0 from hc)]
    unfold Jn.setSpare
    cases j.now <;> rfl
theorem ok_renew {d : Dk} (h : Ok d) (g : Nat) (l : List (List Nat)) : Ok (renewR d g l).2.1 := by
  unfold renewR
  split
  · exact h.cut 0
  · exact ok_write (h.cut 0) _ _ _
set_option maxRecDepth 100000 in
set_option maxHeartbeats 8000000 in
theorem startOk : StartOk dev jrn := by
  intro p ba bb S j pp cap xs w h hT hS hx hs hc hn
  have HTr := Lib.hid h
  obtain ⟨Sd, Sj, hd, hj, hdj, hdS, hjS, ok, hmove⟩ := h.one (!j.now)
  obtain ⟨N, hN⟩ : ∃ N, N = xs.length := ⟨_, rfl⟩
  have HN := Lib.hid hN
  have HEn := Lib.hid (pended_ok p ba bb j.gen Sj j.now j.over w hj)
  by_cases ho : j.over = true
  · rw [ho] at HEn
    have HR := Lib.hid (prefusal_ok p ba bb j.gen Sj j.now j.over 5 _ w hj (ErrT.code w 5))
    have HP := Lib.hid (show JournalMath.start (xs.map nats) j = (5, j) by unfold JournalMath.start; rw [if_pos ho])
    rw [← hN]
    clear h hT hS hx hs hc hn hd hj hdj hdS hjS ok hmove hN ho
    go_enter Tryd.func9, Tryd.ntmps9
    go_wp2_with fail
    refine HEn.out.mono ?_
    rintro e w1 ⟨rfl, hw1⟩
    rw [hw1]
    clear hw1
    go_wp2_with fail
    refine HR.out.mono ?_
    rintro e w2 ⟨⟨r, rfl, hr⟩, hb⟩
    have HE := Lib.hid hr
    have HB := Lib.hid hb
    clear hr hb
    go_wp2
    go_ret
    rw [HP.out]
    exact ⟨⟨_, rfl, terr_jerr (by simp) HE.out⟩, doesj_same HTr.out HB.out⟩
  replace ho : j.over = false := by simpa using ho
  rw [ho] at HEn
  have HLg := Lib.hid (plong_ok pp cap xs w hx (by have := hs.few; omega))
  obtain ⟨lg, hlg⟩ : ∃ lg, lg = JournalMath.long (xs.map nats) := ⟨_, rfl⟩
  rw [← hlg] at HLg
  have c2 := Lies.cell (i := 2) hj.1 rfl
  obtain ⟨g, hg⟩ : ∃ g, g = j.gen := ⟨_, rfl⟩
  rw [← hg] at c2
  by_cases h4 : big ≤ g
  · have t1 : decide ((1099511627776 : Int) ≤ (g : Int)) = true := decide_eq_true (by unfold big at h4; omega)
    have t1' : decide (1099511627776 ≤ g) = true := decide_eq_true h4
    have HR := Lib.hid (prefusal_ok p ba bb j.gen Sj j.now j.over 3 _ w hj (ErrT.code w 3))
    have HP := Lib.hid (show JournalMath.start (xs.map nats) j = (3, j) by unfold JournalMath.start; rw [if_neg (by rw [ho]; simp), if_pos (.inl (by rw [← hg]; exact h4))])
    rw [← hN] at HLg ⊢
    clear h hT hS hx hs hc hn hd hj hdj hdS hjS ok hmove hN ho h4 hlg hg
    go_enter Tryd.func9, Tryd.ntmps9
    go_wp2_with fail
    refine HEn.out.mono ?_
    rintro e w1 ⟨rfl, hw1⟩
    rw [hw1]
    clear hw1
    go_wp2_with fail
    refine HR.out.mono ?_
    rintro e w2 ⟨⟨r, rfl, hr⟩, hb⟩
    have HE := Lib.hid hr
    have HB := Lib.hid hb
    clear hr hb
    go_wp2
    go_ret
    rw [HP.out]
    exact ⟨⟨_, rfl, terr_jerr (by simp) HE.out⟩, doesj_same HTr.out HB.out⟩
  have t1 : decide ((1099511627776 : Int) ≤ (g : Int)) = false := decide_eq_false (by unfold big at h4; omega)
  have t1' : decide (1099511627776 ≤ g) = false := decide_eq_false h4
  cases hl2 : lg with
  | true =>
    rw [hl2] at HLg
    have HR := Lib.hid (prefusal_ok p ba bb j.gen Sj j.now j.over 3 _ w hj (ErrT.code w 3))
    have HP := Lib.hid (show JournalMath.start (xs.map nats) j = (3, j) by unfold JournalMath.start; rw [if_neg (by rw [ho]; simp), if_pos (.inr (by rw [← hlg, hl2]))])
    rw [← hN] at HLg ⊢
    clear h hT hS hx hs hc hn hd hj hdj hdS hjS ok hmove hN ho h4 hlg hg
    go_enter Tryd.func9, Tryd.ntmps9
    go_wp2_with fail
    refine HEn.out.mono ?_
    rintro e w1 ⟨rfl, hw1⟩
    rw [hw1]
    clear hw1
    go_wp2_with (go_at_call 20; refine HLg.out.mono ?_; rintro e w8 ⟨rfl, hw8⟩; rw [hw8]; clear hw8)
    refine HR.out.mono ?_
    rintro e w2 ⟨⟨r, rfl, hr⟩, hb⟩
    have HE := Lib.hid hr
    have HB := Lib.hid hb
    clear hr hb
    go_wp2
    go_ret
    rw [HP.out]
    exact ⟨⟨_, rfl, terr_jerr (by simp) HE.out⟩, doesj_same HTr.out HB.out⟩
  | false =>
    rw [hl2] at HLg
    obtain ⟨d, hdd⟩ : ∃ d, d = j.spare := ⟨_, rfl⟩
    obtain ⟨R, hR⟩ : ∃ R, R = renewR d g (xs.map nats) := ⟨_, rfl⟩
    have HP := Lib.hid (show JournalMath.start (xs.map nats) j = (R.1, Jn.ends { Jn.with_ j (!j.now) R.2.1 with now := if R.2.2 then !j.now else j.now, gen := if R.2.2 then g + 1 else g } R.1) by
      rw [start_renew j _ ho (by rw [← hlg, hl2, ← hg]; simp; omega), hR, hdd, hg])
    obtain ⟨n2, hn2⟩ : ∃ n2, n2 = if R.2.2 then !j.now else j.now := ⟨_, rfl⟩
    obtain ⟨g2, hg2⟩ : ∃ g2, g2 = if R.2.2 then g + 1 else g := ⟨_, rfl⟩
    rw [← hn2, ← hg2] at HP
    have hq : (if (!j.now) = true then bb else ba) = if j.now = true then ba else bb := by cases j.now <;> rfl
    rw [dev_spare, ← hdd] at hd ok
    rw [hq] at hd hmove
    have HOKR := Lib.hid (show Ok R.2.1 by rw [hR]; exact ok_renew ok _ _)
    have HRn := Lib.hid (prenew_ok p ba bb g Sd Sj j.now j.over d pp cap xs w hT (fun k hk => hS k (hdS k hk)) (by rw [hg]; exact hj) hd ok hdj (by omega) hx hs (fun a ha h0 hk => hn a ha h0 (hdS _ hk)))
    rw [← hR, ← hn2, ← hg2] at HRn
    have HMV := Lib.hid hmove
    have HDJ := Lib.hid hdj
    have HJ := Lib.hid hj
    obtain ⟨q, hqq⟩ : ∃ q, q = if j.now = true then ba else bb := ⟨_, rfl⟩
    rw [← hqq] at HRn HMV
    rw [← hN] at HLg HRn ⊢
    clear h hT hS hx hs hc hn hd hj hdj hdS hjS ok hmove hN ho h4 hlg hg hdd hR hn2 hg2 hq hqq
    go_enter Tryd.func9, Tryd.ntmps9
    go_wp2_with fail
    refine HEn.out.mono ?_
    rintro e w1 ⟨rfl, hw1⟩
    rw [hw1]
    clear hw1
    go_wp2_with (go_at_call 20; refine HLg.out.mono ?_; rintro e w8 ⟨rfl, hw8⟩; rw [hw8]; clear hw8)
    refine HRn.out.mono ?_
    rintro e w4 ⟨⟨x, rfl, X⟩, ⟨S4, hd4, hin4⟩, hj4, ha4⟩
    have HD4 := Lib.hid hd4
    have HI4 := Lib.hid hin4
    have HJ4 := Lib.hid hj4
    have HA4 := Lib.hid ha4
    have HX4 := Lib.hid X
    clear hd4 hin4 hj4 ha4 X
    go_wp2_with fail
    refine (panswer_ok p ba bb g2 Sj n2 j.over R.1 x w4 HJ4.out HX4.out).mono ?_
    rintro e w5 ⟨⟨r, rfl, hr⟩, hj5, ha5⟩
    have HR5 := Lib.hid hr
    have HJ5 := Lib.hid hj5
    have HA5 := Lib.hid ha5
    clear hr hj5 ha5
    have hsp : ∀ k, S4 k → ¬ Sj k := fun k hk hs => by
      rcases HI4.out k hk with h | h
      · exact HDJ.out k h hs
      · have := jrn.lt HJ.out k hs
        omega
    have hd5 := dev.stays HD4.out HA5.out.size (fun k hk => HA5.out.block k (dev.lt HD4.out k hk) (hsp k hk))
    have hap : Apart (fun k => Sd k ∨ Sj k) w w5 := HA4.out.trans (HA5.out.wide (fun k hk => .inr hk))
    have hres := HMV.out w5 R.2.1 n2 g2 _ S4 hd5 HI4.out HJ5.out hap HOKR.out
    go_wp2
    go_ret
    rw [HP.out]
    refine ⟨⟨_, rfl, HR5.out.jerr⟩, ?_⟩
    rw [show Jn.ends { Jn.with_ j (!j.now) R.2.1 with now := n2, gen := g2 } R.1 = { Jn.with_ j (!j.now) R.2.1 with now := n2, gen := g2, over := j.over || (decide (R.1 ≠ 0) && decide (R.1 ≠ 4)) } by
      unfold Jn.ends Jn.with_
      cases j.now <;> rfl]
    exact hres
end Go.Proofs.YtajkldmpllphjaaDoor
