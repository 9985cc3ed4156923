/-
  The program's open of chapter 10, where both are whole, the second of a greater generation. The conditions: crc's tables; two devices that lie in memory, apart.
-/
import Derived.StillTailTactics
import Derived.Test.YtajkldmpllphjaaDoorPart10
import Derived.Test.YtajkldmpllphjaaDoorPart03
import Derived.Test.YtajkldmpllphjaaDoorJournalQ11
namespace Go.Proofs.YtajkldmpllphjaaDoor
open Go.RowKit BlockMath FrameMath TextNat JournalMath

set_option maxRecDepth 100000
set_option maxHeartbeats 8000000
theorem open_second_two {w : World} {ba bb : Nat} {S : Nat → Prop} {a b : Dk} (h : Duo dev w ba bb S a b) (hT : Tables w) (hS : Far S) (hoa : a.off = false) (hob : b.off = false) (kcx : corrupt (nats (all a)) = false) (kcy : corrupt (nats (all b)) = false) (kbx : (!corrupt (nats (all a)) && whole (partsOf (nats (all a)))) = true) (kby : (!corrupt (nats (all b)) && whole (partsOf (nats (all b)))) = true) (kg : headGen (partsOf (nats (all a))) < headGen (partsOf (nats (all b)))) :
    Calls Tryd.prog 14 #[ptr ba, ptr bb] w fun e w' => OpenJ w w' ba bb S a b e := by
  have kcx0 := kcx
  have kcy0 := kcy
  obtain ⟨Sa, Sb, hda, hdb, hab, hSab⟩ := h.lies
  have hpe := ptr_ne hda hdb h.ne
  have HDU := Lib.hid h
  have OKa := Lib.hid h.oka
  have OKb := Lib.hid h.okb
  have HDa := Lib.hid (downOk ba Sa a w hda h.oka)
  have HDb := Lib.hid (fun w1 (hb1 : Below w.heap.size w w1) => downOk bb Sb b w1 (dev.stays hdb hb1.size fun k hk => hb1.block k (dev.lt hdb k hk)) h.okb)
  have HVa := Lib.hid (fun w1 (hb1 : Below w.heap.size w w1) => dev.stays hda hb1.size fun k hk => hb1.block k (dev.lt hda k hk))
  have HVb := Lib.hid (fun w1 (hb1 : Below w.heap.size w w1) => dev.stays hdb hb1.size fun k hk => hb1.block k (dev.lt hdb k hk))
  have HRa := Lib.hid (fun w1 (hb1 : Below w.heap.size w w1) => pdevice_ok ba Sa a w1 (hT.grown hb1) (HVa.out w1 hb1) h.oka hoa)
  have HRb := Lib.hid (fun w1 (hb1 : Below w.heap.size w w1) => pdevice_ok bb Sb b w1 (hT.grown hb1) (HVb.out w1 hb1) h.okb hob)
  rw [hoa] at HDa
  rw [hob] at HDb
  have HLA := Lib.hid (dev.lt hda)
  have HLB := Lib.hid (dev.lt hdb)
  have HAB := Lib.hid hab
  have HSAB := Lib.hid hSab
  have HNE := Lib.hid h.ne
  have HOF := Lib.hid hob
  have HT := Lib.hid hT
  have HS := Lib.hid hS
  have RDa := Lib.hid (reading_all (all a))
  have RDb := Lib.hid (reading_all (all b))
  have HSZ := Lib.hid (show (nats (all a)).length ≤ 1048576 ∧ (nats (all b)).length ≤ 1048576 by
    rw [nats_len, nats_len, all_size, all_size]
    exact ⟨h.oka.all, h.okb.all⟩)
  obtain ⟨l1, hl1⟩ : ∃ l, l = nats (all a) := ⟨_, rfl⟩
  obtain ⟨l2, hl2⟩ : ∃ l, l = nats (all b) := ⟨_, rfl⟩
  have HL1 := Lib.hid hl1
  have HL2 := Lib.hid hl2
  rw [← hl1] at HRa RDa HSZ
  rw [← hl2] at HRb RDb HSZ
  obtain ⟨L1, hL1⟩ : ∃ L, L = partsOf l1 := ⟨_, rfl⟩
  obtain ⟨L2, hL2⟩ : ∃ L, L = partsOf l2 := ⟨_, rfl⟩
  obtain ⟨E1, hE1⟩ : ∃ E, E = endOf l1 := ⟨_, rfl⟩
  obtain ⟨E2, hE2⟩ : ∃ E, E = endOf l2 := ⟨_, rfl⟩
  obtain ⟨cx, hcx⟩ : ∃ c, c = corrupt l1 := ⟨_, rfl⟩
  obtain ⟨cy, hcy⟩ : ∃ c, c = corrupt l2 := ⟨_, rfl⟩
  have HX1 := Lib.hid (And.intro hL1 (And.intro hE1 hcx))
  have HX2 := Lib.hid (And.intro hL2 (And.intro hE2 hcy))
  obtain rfl : cx = false := by rw [hcx, hl1]; exact kcx
  obtain rfl : cy = false := by rw [hcy, hl2]; exact kcy
  have KBX := Lib.hid (show (!false && whole L1) = true by have q := kbx; rw [kcx] at q; rw [hL1, hl1]; exact q)
  have KBY := Lib.hid (show (!false && whole L2) = true by have q := kby; rw [kcy] at q; rw [hL2, hl2]; exact q)
  have HOP := Lib.hid (show opened a b = ((JournalMath.settle b (headGen L2) L2 E2).1, recs (JournalMath.settle b (headGen L2) L2 E2).2.1, ⟨a, (JournalMath.settle b (headGen L2) L2 E2).2.2, true, headGen L2, false⟩) by
    have q := opened_second hoa hob (show badB (nats (all a)) (nats (all b)) = false by unfold badB; rw [kcx, kcy]; rfl) kby (.inr ⟨kbx, kg⟩)
    rw [← hl2, ← hL2, ← hE2] at q
    exact q)
  have HWHO := Lib.hid (show whole L2 = true by have q := KBY.out; simpa using q)
  have HEB := Lib.hid (show E2 ≤ 1048576 ∧ (enc L2).length ≤ 1048576 by
    have h1 := RDb.out.at_
    have h2 := RDb.out.le
    have h3 := HSZ.out
    rw [← hE2, ← hL2] at h1
    rw [← hE2] at h2
    omega)
  have HVAL := Lib.hid (show ∀ p ∈ L2, Valid p by rw [hL2]; exact RDb.out.valid)
  have HKG := Lib.hid (show headGen L1 < headGen L2 by rw [hL1, hL2, hl1, hl2]; exact kg)
  have HSM := Lib.hid (show L1.length ≤ 500000 ∧ L2.length ≤ 500000 by
    have h1 := RDa.out.few
    have h2 := RDb.out.few
    have h3 := HSZ.out
    rw [hL1, hL2]
    omega)
  clear hda hdb hab hSab hT hS hl1 hl2 hL1 hL2 hE1 hE2 hcx hcy h hoa hob kg kcx kcy kcx0 kcy0 kbx kby
  go_enter Tryd.func14, Tryd.ntmps14
  go_wp2_with fail
  refine HDa.out.mono ?_
  rintro e w1 ⟨rfl, hb⟩
  have HB1 := Lib.hid hb
  clear hb HDa
  go_wp2_with fail
  refine (HDb.out w1 HB1.out).mono ?_
  rintro e w2 ⟨rfl, hb⟩
  have HB2 := Lib.hid (HB1.out.trans (hb.mono HB1.out.size))
  clear hb HDb HB1
  go_wp2_with fail
  refine (HRa.out w2 HB2.out).mono ?_
  rintro e w3 ⟨⟨x3, rfl, ht⟩, hb⟩
  obtain ⟨p1, c1, rfl, ho1⟩ := told_is ht
  rw [← HX1.out.1] at ho1 ⊢
  rw [← HX1.out.2.1, ← HX1.out.2.2]
  have HB3 := Lib.hid (HB2.out.trans (hb.mono HB2.out.size))
  have HO1 := Lib.hid (ho1.base HB2.out.size)
  clear hb ht ho1 HB2 HRa
  go_wp2_with fail
  refine (HRb.out w3 HB3.out).mono ?_
  rintro e w4 ⟨⟨x4, rfl, ht⟩, hb⟩
  obtain ⟨p2, c2, rfl, ho2⟩ := told_is ht
  rw [← HX2.out.1] at ho2 ⊢
  rw [← HX2.out.2.1, ← HX2.out.2.2]
  have HB4 := Lib.hid (HB3.out.trans (hb.mono HB3.out.size))
  replace HO1 := Lib.hid (HO1.out.below hb)
  have HO2 := Lib.hid (ho2.base HB3.out.size)
  clear hb ht ho2 HB3 HRb
  obtain ⟨n1, hn1⟩ : ∃ n, n = L1.length := ⟨_, rfl⟩
  obtain ⟨n2, hn2⟩ : ∃ n, n = L2.length := ⟨_, rfl⟩
  have HN1 := Lib.hid hn1
  have HN2 := Lib.hid hn2
  rw [← hn1] at HO1 ⊢
  rw [← hn2] at HO2 ⊢
  clear hn1 hn2
  obtain ⟨xb, hxb⟩ : ∃ xb, xb = w4.heap.size := ⟨_, rfl⟩
  obtain ⟨yb, hyb⟩ : ∃ yb, yb = w4.heap.size + 1 := ⟨_, rfl⟩
  obtain ⟨W5, hW5⟩ : ∃ W5, W5 = (w4.alloc (.cells #[.slice p1 n1 c1, .int .i64 (E1 : Int), .bool false] 61)).alloc (.cells #[.slice p2 n2 c2, .int .i64 (E2 : Int), .bool false] 61) := ⟨_, rfl⟩
  have HXB := Lib.hid hxb
  have HYB := Lib.hid (show yb = xb + 1 by rw [hyb, hxb])
  have HW5 := Lib.hid hW5
  have al5 := below_pair w4 (.cells #[.slice p1 n1 c1, .int .i64 (E1 : Int), .bool false] 61) (.cells #[.slice p2 n2 c2, .int .i64 (E2 : Int), .bool false] 61)
  rw [← hW5] at al5
  have HB5 := Lib.hid (HB4.out.trans (al5.mono HB4.out.size))
  have LX := Lib.hid (show Lies W5 xb [.slice p1 n1 c1, .int .i64 (E1 : Int), .bool false] 61 by rw [hW5, hxb]; exact (Lies.new w4 [.slice p1 n1 c1, .int .i64 (E1 : Int), .bool false] 61).below ((Below.refl _ _).alloc (Nat.le_refl _) _))
  have LY := Lib.hid (show Lies W5 yb [.slice p2 n2 c2, .int .i64 (E2 : Int), .bool false] 61 by rw [hW5, hyb]; simpa using Lies.new (w4.alloc (.cells #[.slice p1 n1 c1, .int .i64 (E1 : Int), .bool false] 61)) [.slice p2 n2 c2, .int .i64 (E2 : Int), .bool false] 61)
  have HO1l := Lib.hid HO1.out.lt
  have HO2l := Lib.hid HO2.out.lt
  replace HO1 := Lib.hid (HO1.out.below al5)
  replace HO2 := Lib.hid (HO2.out.below al5)
  have hz5 := And.intro (Below.refl W5.heap.size W5) (And.intro (LX.out.cell (i := 0) rfl) (And.intro (LX.out.cell (i := 1) rfl) (And.intro (LX.out.cell (i := 2) rfl) (And.intro (LY.out.cell (i := 0) rfl) (And.intro (LY.out.cell (i := 1) rfl) (LY.out.cell (i := 2) rfl))))))
  have HP1 := Lib.hid (fun wx (h : Below W5.heap.size W5 wx) => (HO1.out.below h).parts)
  have HP2 := Lib.hid (fun wx (h : Below W5.heap.size W5 wx) => (HO2.out.below h).parts)
  have HWX := Lib.hid (fun wx (h : Below W5.heap.size W5 wx ∧ wx.cell? ⟨xb, 0, none⟩ = some (.slice p1 n1 c1) ∧ wx.cell? ⟨xb, 1, none⟩ = some (.int .i64 (E1 : Int)) ∧ wx.cell? ⟨xb, 2, none⟩ = some (.bool false) ∧ wx.cell? ⟨yb, 0, none⟩ = some (.slice p2 n2 c2) ∧ wx.cell? ⟨yb, 1, none⟩ = some (.int .i64 (E2 : Int)) ∧ wx.cell? ⟨yb, 2, none⟩ = some (.bool false)) => pwhole_ok p1 c1 L1 (E1 : Int) false wx (HP1.out wx h.1) (by have := HSM.out; omega) _ rfl)
  have HWY := Lib.hid (fun wx (h : Below W5.heap.size W5 wx ∧ wx.cell? ⟨xb, 0, none⟩ = some (.slice p1 n1 c1) ∧ wx.cell? ⟨xb, 1, none⟩ = some (.int .i64 (E1 : Int)) ∧ wx.cell? ⟨xb, 2, none⟩ = some (.bool false) ∧ wx.cell? ⟨yb, 0, none⟩ = some (.slice p2 n2 c2) ∧ wx.cell? ⟨yb, 1, none⟩ = some (.int .i64 (E2 : Int)) ∧ wx.cell? ⟨yb, 2, none⟩ = some (.bool false)) => pwhole_ok p2 c2 L2 (E2 : Int) false wx (HP2.out wx h.1) (by have := HSM.out; omega) _ rfl)
  rw [show (!false && whole L1) = true from KBX.out, ← HN1.out] at HWX
  rw [show (!false && whole L2) = true from KBY.out, ← HN2.out] at HWY
  have HGX := Lib.hid (fun wx (h : Below W5.heap.size W5 wx ∧ wx.cell? ⟨xb, 0, none⟩ = some (.slice p1 n1 c1) ∧ wx.cell? ⟨xb, 1, none⟩ = some (.int .i64 (E1 : Int)) ∧ wx.cell? ⟨xb, 2, none⟩ = some (.bool false) ∧ wx.cell? ⟨yb, 0, none⟩ = some (.slice p2 n2 c2) ∧ wx.cell? ⟨yb, 1, none⟩ = some (.int .i64 (E2 : Int)) ∧ wx.cell? ⟨yb, 2, none⟩ = some (.bool false)) => phead_ok p1 c1 L1 (E1 : Int) false wx (HP1.out wx h.1) (by have := HSM.out; omega))
  have HGY := Lib.hid (fun wx (h : Below W5.heap.size W5 wx ∧ wx.cell? ⟨xb, 0, none⟩ = some (.slice p1 n1 c1) ∧ wx.cell? ⟨xb, 1, none⟩ = some (.int .i64 (E1 : Int)) ∧ wx.cell? ⟨xb, 2, none⟩ = some (.bool false) ∧ wx.cell? ⟨yb, 0, none⟩ = some (.slice p2 n2 c2) ∧ wx.cell? ⟨yb, 1, none⟩ = some (.int .i64 (E2 : Int)) ∧ wx.cell? ⟨yb, 2, none⟩ = some (.bool false)) => phead_ok p2 c2 L2 (E2 : Int) false wx (HP2.out wx h.1) (by have := HSM.out; omega))
  rw [← HN1.out] at HGX
  rw [← HN2.out] at HGY
  clear hxb hyb hW5 al5
  go_wp2_with fail
  rw [← HW5.out, ← HXB.out, ← HYB.out]
  refine (HWX.out _ hz5).mono ?_
  rintro e w7 ⟨rfl, hb⟩
  have hz7 := keepSix hz5 hb
  obtain ⟨-, x0, x1, x2, y0, y1, y2⟩ := id hz7
  clear hb
  have t1 : decide ((headGen L1 : Int) < (headGen L2 : Int)) = true := decide_eq_true (by have := HKG.out; omega)
  have t1' : decide (headGen L1 < headGen L2) = true := decide_eq_true (by have := HKG.out; omega)
  clear x0 x1 x2 y0 y1 y2
  go_wp2_with fail
  have hzd := keepSix hz7 (Below.refl _ _).drew
  obtain ⟨-, q0, q1, q2, q3, q4, q5⟩ := id hzd
  go_region_with (first | (go_at_call 32; refine (HWX.out _ hzd).mono ?_; rintro e wr1 ⟨rfl, hbr1⟩; have hr1 := keepSix hzd hbr1; clear HWX; obtain ⟨-, r0, r1, r2, r3, r4, r5⟩ := id hr1) | (go_at_call 32; refine (HWY.out _ hr1).mono ?_; rintro e wr2 ⟨rfl, hbr2⟩; have hr2 := keepSix hr1 hbr2; clear HWY; obtain ⟨-, s0, s1, s2, s3, s4, s5⟩ := id hr2) | (go_at_call 33; refine (HGY.out _ hr2).mono ?_; rintro e wr3 ⟨rfl, hbr3⟩; have hr3 := keepSix hr2 hbr3; clear HGY; obtain ⟨-, u0, u1, u2, u3, u4, u5⟩ := id hr3) | (go_at_call 33; refine (HGX.out _ hr3).mono ?_; rintro e wr4 ⟨rfl, hbr4⟩; have hr4 := keepSix hr3 hbr4; clear HGX; obtain ⟨-, v0, v1, v2, v3, v4, v5⟩ := id hr4))
  all_goals
    have HRR := Lib.hid hr4
    have HB12 := Lib.hid (HB5.out.trans (hr4.1.mono HB5.out.size))
    have HXW := Lib.hid (LX.out.below hr4.1)
    obtain ⟨wq, hwq⟩ : ∃ wq, wq = wr4.drew := ⟨_, rfl⟩
    have HWQ := Lib.hid hwq
    have HBq := Lib.hid (show Below wr4.heap.size wr4 wq by rw [hwq]; exact (Below.refl _ _).drew)
    have HXD := Lib.hid (show Lies wq xb [.slice p1 n1 c1, .int .i64 (E1 : Int), .bool false] 61 by rw [hwq]; exact HXW.out)
    have HYD := Lib.hid (show Lies wr4.drew yb [.slice p2 n2 c2, .int .i64 (E2 : Int), .bool false] 61 from LY.out.below HRR.out.1.drew)
    clear q0 q1 q2 q3 q4 q5 hwq
    have x0 := Lies.cell (i := 0) HXD.out rfl
    have x1 := Lies.cell (i := 1) HXD.out rfl
    have x2 := Lies.cell (i := 2) HXD.out rfl
    have f0 := Lies.free HXD.out 0
    have f1 := Lies.free HXD.out 1
    have f2 := Lies.free HXD.out 2
    have y0 := Lies.cell (i := 0) HYD.out rfl
    have y1 := Lies.cell (i := 1) HYD.out rfl
    have y2 := Lies.cell (i := 2) HYD.out rfl
    go_wp2_with fail
    go_still_tail 5, (by kernel_rfl)
    change wpList _ _ _ _ _ wr4.drew
    rw [← HWQ.out]
    go_wp2_with fail
    obtain ⟨W13, hW13⟩ : ∃ W13, W13 = (((wq.setCell ⟨xb, 0, none⟩ (.slice p2 n2 c2)).setCell ⟨xb, 1, none⟩ (.int .i64 (E2 : Int))).setCell ⟨xb, 2, none⟩ (.bool false)) := ⟨_, rfl⟩
    rw [← hW13]
    have BNx := ((But.set xb 0 wq (.slice p2 n2 c2)).trans (But.set xb 1 _ (.int .i64 (E2 : Int)))).trans (But.set xb 2 _ (.bool false))
    have HB13 := Lib.hid (show Below w.heap.size w W13 by
      have hxw : w.heap.size ≤ xb := by rw [HXB.out]; exact HB4.out.size
      have h0 : Below w.heap.size w wq := HB12.out.trans (HBq.out.mono HB12.out.size)
      rw [hW13]
      exact own_store (own_store (own_store h0 hxw) hxw) hxw)
    have LX13 := Lib.hid (show Lies W13 xb [.slice p2 n2 c2, .int .i64 (E2 : Int), .bool false] 61 by rw [hW13]; exact ((HXD.out.set 0 (.slice p2 n2 c2)).set 1 (.int .i64 (E2 : Int))).set 2 (.bool false))
    have HP13 := Lib.hid (show PartsIn W13 p2 (pairs L2 0) by
      have ho := (HO2.out.below HRR.out.1).below HBq.out
      have hk := ho.keep (w' := W13) fun q hq => by
        rw [hW13]
        exact BNx.block q (ho.lt q hq) (by have := HO2l.out q hq; rw [HXB.out]; omega)
      exact hk.parts)
    clear hW13 BNx x0 x1 x2 y0 y1 y2 f0 f1 f2
    have HL0 := Lib.hid (whole_some HWHO.out)
    have HCAP := Lib.hid (show L2.length ≤ c2 by
      have h1 := own_cap HO2.out
      have h2 := HL0.out
      rw [HN2.out] at h1
      omega)
    have HNPa := Lib.hid (show ∀ a, p2 = some a → ¬ Sb a.block from fun a ha hs => by
      have h1 := own_block HO2.out (by rw [HN2.out]; exact HL0.out) a ha
      have h2 := HLB.out _ hs
      omega)
    have HVq := Lib.hid (HVb.out W13 HB13.out)
    have HMd := Lib.hid (pmend_ok bb Sb b p2 c2 L2 E2 false W13 (HT.out.grown HB13.out) (fun k hk => HS.out k ((HSAB.out k).2 (.inr hk))) HVq.out OKb.out HOF.out HP13.out (by have := HSM.out; omega) HL0.out HCAP.out (by have := HEB.out; omega) (by have := HEB.out; omega) HNPa.out (headGen L2) rfl (by have := head_top HVAL.out; unfold big at this; unfold WireMath.top; omega))
    rw [← HN2.out] at HMd
    refine HMd.out.mono ?_
    rintro e w14 ⟨hm, hd⟩
    obtain ⟨pq, nn, cq, x, rfl, hx, hpq, hnn, hrr⟩ := hm
    have HDo := Lib.hid hd
    have HX14 := Lib.hid hx
    have HPQ := Lib.hid hpq
    have HNN := Lib.hid hnn
    have HRE := Lib.hid hrr
    obtain ⟨S1, hb1⟩ := (Been.start HVq.out).does hd
    have LX14 := Lib.hid (hb1.liesM LX13.out (fun hs => by have h1 := HLB.out _ hs; have h2 : w.heap.size ≤ xb := (by rw [HXB.out]; exact HB4.out.size); omega))
    have HP14 := Lib.hid (hb1.parts HP13.out HNPa.out)
    have HGn := Lib.hid (phead_ok p2 c2 L2 (E2 : Int) false w14 HP14.out (by have := HSM.out; omega))
    rw [← HN2.out] at HGn
    have z0 := Lies.cell (i := 0) LX14.out rfl
    have z1 := Lies.cell (i := 1) LX14.out rfl
    have z2 := Lies.cell (i := 2) LX14.out rfl
    clear hd hx hpq hnn hrr hb1 HMd
    go_wp2_with fail
    refine HGn.out.mono ?_
    rintro e w15 ⟨rfl, hb⟩
    have HB15 := Lib.hid hb
    have al16 := (Below.refl w15.heap.size w15).alloc (Nat.le_refl _) (.cells #[ptr bb, ptr ba, .int .i64 (headGen L2 : Int), .bool false] 50)
    have HB16 := Lib.hid (hb.trans (al16.mono hb.size))
    have HJ16 := Lib.hid (Lies.new w15 [ptr bb, ptr ba, .int .i64 (headGen L2 : Int), .bool false] 50)
    have HRec := Lib.hid (precords_ok pq cq (L2.take nn) _ (HPQ.out.below HB16.out) (by rw [List.length_take]; have := HSM.out; omega))
    rw [show (L2.take nn).length = nn by rw [List.length_take]; have := HNN.out; omega] at HRec
    clear hb al16 z0 z1 z2
    go_wp2_with fail
    refine HRec.out.mono ?_
    rintro e w17 ⟨⟨v, rfl, hrow⟩, hb⟩
    have HRow := Lib.hid hrow
    have HB17 := Lib.hid hb
    have HJ17 := Lib.hid (HJ16.out.below hb)
    have HB147 := Lib.hid (HB16.out.trans (hb.mono HB16.out.size))
    clear hrow hb
    go_wp2
    go_ret3
    have hdo := HDo.out
    have hs14 := HB13.out.size
    have hs15 := HDo.out.2.size
    have hs16 := HB15.out.size
    obtain ⟨S1, g1, g2, g3, g4, g5, g6, g7⟩ := trio_of (p := w15.heap.size) HDo.out (HVa.out W13 HB13.out) HB13.out HLA.out (fun k hk hs => HAB.out k hs hk) HB147.out HB15.out.size
    refine ⟨⟨_, v, x, rfl, by rw [HOP.out]; exact TErr.below HX14.out HB147.out, fun h0 => ?_⟩, (Apart.of HB13.out).trans ((HDo.out.2.wide (fun k hk => (HSAB.out k).2 (.inr hk))).trans (Apart.of HB147.out))⟩
    rw [HOP.out] at h0 ⊢
    have h0' : (JournalMath.settle b (headGen L2) L2 E2).1 = 0 := h0
    have hrow := HRow.out
    rw [← HRE.out h0'] at hrow
    have hblk := fun k hk => (OwnsM.lt hrow k hk).1
    have h1516 : (w15.alloc (.cells #[ptr bb, ptr ba, .int .i64 (headGen L2 : Int), .bool false] 50)).heap.size = w15.heap.size + 1 := by simp
    refine ⟨w15.heap.size, fun k => Sa k ∨ S1 k ∨ k = w15.heap.size, rfl, ⟨⟨Sa, S1, fun k => k = w15.heap.size, g2, g1, jat_new (n := true) HJ17.out (head_top HVAL.out), fun k hk hs => g3 k hs hk, g5, g4, fun k => Iff.rfl⟩, HNE.out, OKa.out, ok_settle OKb.out _ _ _⟩, fun k hk => ?_, OwnsM.weaken hrow (by rw [h1516]; omega), fun k hk hs => ?_⟩
    · rcases hk with hk | hk | hk
      · exact .inl ((HSAB.out k).2 (.inl hk))
      · rcases g6 k hk with h | h
        · exact .inl ((HSAB.out k).2 (.inr h))
        · exact .inr h
      · exact .inr (by omega)
    · have h1 := hblk k hk
      rw [h1516] at h1
      rcases hs with hs | hs | hs
      · have := HLA.out k hs
        omega
      · have := g7 k hs
        omega
      · omega
end Go.Proofs.YtajkldmpllphjaaDoor
