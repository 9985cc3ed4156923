/-
  Texts of one claim, merged.
  JournalQ18: The program's open of chapter 10, where the power is off. The conditions: crc's tables; two devices that lie in memory, apart.
  JournalQ19: The program's open of chapter 10, where a device is corrupt. The conditions: crc's tables; two devices that lie in memory, apart.
  JournalQ20: The program's open of chapter 10, what a journal is made of. The conditions: crc's tables; two devices that lie in memory, apart.
  JournalQ21: The program's open of chapter 10, where none is whole. The conditions: crc's tables; two devices that lie in memory, apart.
-/
import Derived.Test.YtajkldmpllphjaaDoorJournalQ17
import Derived.Test.YtajkldmpllphjaaDoorPart08
import Derived.Test.YtajkldmpllphjaaDoorJournalQ8
import Derived.Test.YtajkldmpllphjaaDoorJournalQ13
import Derived.Test.YtajkldmpllphjaaDoorJournalQ14
import Derived.Test.YtajkldmpllphjaaDoorPart03
namespace Go.Proofs.YtajkldmpllphjaaDoor
open Go.RowKit BlockMath FrameMath TextNat JournalMath

set_option maxRecDepth 100000
set_option maxHeartbeats 8000000
/-- What open answers. -/
def OpenJ (w w' : World) (ba bb : Nat) (S : Nat → Prop) (a b : Dk) (e : Ending) : Prop := (∃ pj v x, e = .returned (.tuple #[pj, v, x]) ∧ TErr w' (opened a b).1 x ∧ ((opened a b).1 = 0 → ∃ p S', pj = ptr p ∧ Trio dev jrn w' p ba bb S' (opened a b).2.2 ∧ (∀ k, S' k → S k ∨ w.heap.size ≤ k) ∧ RowT w' w.heap.size v ((opened a b).2.1.map txt) ∧ ∀ k, v.ownBlock = some k → ¬ S' k)) ∧ Apart S w w'
theorem openj_err {w w' : World} {ba bb : Nat} {S : Nat → Prop} {a b : Dk} {c : Int} {pj v x : Value} (hc : (opened a b).1 = c) (h0 : c ≠ 0) (hx : ErrT w' c x) (ha : Apart S w w') : OpenJ w w' ba bb S a b (.returned (.tuple #[pj, v, x])) :=
  ⟨⟨pj, v, x, rfl, by unfold TErr; rw [hc, if_neg h0]; exact hx, fun h => absurd (hc ▸ h) h0⟩, ha⟩
theorem told_is {w : World} {B : Nat} {l : List Nat} {x : Value} (h : ToldOf w B l x) : ∃ p c, x = .agg #[.slice p (partsOf l).length c, .int .i64 (endOf l : Int), .bool (corrupt l)] ∧ OwnP w B (.slice p (partsOf l).length c) (pairs (partsOf l) 0) := by
  obtain ⟨v, h1, h2⟩ := h
  obtain ⟨p, c, hv⟩ := h2.shape
  rw [pairs_len] at hv
  subst hv
  exact ⟨p, c, h1, h2⟩
theorem own_cap {w : World} {B : Nat} {p : Option Addr} {n c : Nat} {A : List (Part × Nat)} (h : OwnP w B (.slice p n c) A) : n ≤ c ∨ n = 0 := by
  rcases h.2 with ⟨h1, h2⟩ | ⟨g, cap, cur, h3, h4, h5, h6⟩
  · cases h1
    exact .inr rfl
  · cases h3
    exact .inl h6.1
theorem off_ok {w : World} {ba bb : Nat} {S : Nat → Prop} {a b : Dk} (h : Duo dev w ba bb S a b) (ho : a.off = true ∨ b.off = true) :
    Calls Tryd.prog 14 #[ptr ba, ptr bb] w fun e w' => OpenJ w w' ba bb S a b e := by
  have HO := Lib.hid (opened_off (a := a) (b := b) ho)
  obtain ⟨Sa, Sb, hda, hdb, hab, hSab⟩ := h.lies
  have hpe := ptr_ne hda hdb h.ne
  have ne := h.ne
  have oka := h.oka
  have okb := h.okb
  have HDa := Lib.hid (downOk ba Sa a w hda oka)
  have HDb := Lib.hid (fun w1 (hb1 : Below w.heap.size w w1) => downOk bb Sb b w1 (dev.stays hdb hb1.size fun k hk => hb1.block k (dev.lt hdb k hk)) okb)
  clear h hda hdb hab hSab oka okb
  cases hoa : a.off with
  | true =>
    rw [hoa] at HDa
    clear ho hoa
    go_enter Tryd.func14, Tryd.ntmps14
    go_wp2_with fail
    refine HDa.out.mono ?_
    rintro e w1 ⟨rfl, hb⟩
    have HB := Lib.hid hb
    clear hb
    go_wp2
    go_ret3
    exact openj_err HO.out (by decide) (ErrT.code _ 5) (Apart.of HB.out)
  | false =>
    have hob : b.off = true := ho.resolve_left (by rw [hoa]; simp)
    rw [hoa] at HDa
    rw [hob] at HDb
    clear ho hoa hob
    go_enter Tryd.func14, Tryd.ntmps14
    go_wp2_with fail
    refine HDa.out.mono ?_
    rintro e w1 ⟨rfl, hb⟩
    have HB := Lib.hid hb
    clear hb
    go_wp2_with fail
    refine (HDb.out w1 HB.out).mono ?_
    rintro e w2 ⟨rfl, hb⟩
    replace HB := Lib.hid (HB.out.trans (hb.mono HB.out.size))
    clear hb
    go_wp2
    go_ret3
    exact openj_err HO.out (by decide) (ErrT.code _ 5) (Apart.of HB.out)
end Go.Proofs.YtajkldmpllphjaaDoor
namespace Go.Proofs.YtajkldmpllphjaaDoor
open Go.RowKit BlockMath FrameMath TextNat JournalMath

set_option maxRecDepth 100000
set_option maxHeartbeats 8000000
theorem open_bad1_true {w : World} {ba bb : Nat} {S : Nat → Prop} {a b : Dk} (h : Duo dev w ba bb S a b) (hT : Tables w) (hS : Far S) (hoa : a.off = false) (hob : b.off = false) {bY : Bool} (kcx : corrupt (nats (all a)) = true) (kcy : corrupt (nats (all b)) = true) (kbx : (!corrupt (nats (all a)) && whole (partsOf (nats (all a)))) = false) (kby : (!corrupt (nats (all b)) && whole (partsOf (nats (all b)))) = bY) (kr1 : reliedB (partsOf (nats (all a))) (partsOf (nats (all b))) (corrupt (nats (all b))) = true) :
    Calls Tryd.prog 14 #[ptr ba, ptr bb] w fun e w' => OpenJ w w' ba bb S a b e := by
  have HBAD := Lib.hid (opened_bad hoa hob (show badB (nats (all a)) (nats (all b)) = true by unfold badB; rw [kcx, kcy]; rw [kcy] at kr1; rw [kr1]; rfl))
  have kcx0 := kcx
  have kcy0 := kcy
  obtain ⟨Sa, Sb, hda, hdb, hab, hSab⟩ := h.lies
  have hpe := ptr_ne hda hdb h.ne
  have HDU := Lib.hid h
  have OKa := Lib.hid h.oka
  have OKb := Lib.hid h.okb
  have HDa := Lib.hid (downOk ba Sa a w hda h.oka)
  have HDb := Lib.hid (fun w1 (hb1 : Below w.heap.size w w1) => downOk bb Sb b w1 (dev.stays hdb hb1.size fun k hk => hb1.block k (dev.lt hdb k hk)) h.okb)
  have HVa := Lib.hid (fun w1 (hb1 : Below w.heap.size w w1) => dev.stays hda hb1.size fun k hk => hb1.block k (dev.lt hda k hk))
  have HVb := Lib.hid (fun w1 (hb1 : Below w.heap.size w w1) => dev.stays hdb hb1.size fun k hk => hb1.block k (dev.lt hdb k hk))
  have HRa := Lib.hid (fun w1 (hb1 : Below w.heap.size w w1) => pdevice_ok ba Sa a w1 (hT.grown hb1) (HVa.out w1 hb1) h.oka hoa)
  have HRb := Lib.hid (fun w1 (hb1 : Below w.heap.size w w1) => pdevice_ok bb Sb b w1 (hT.grown hb1) (HVb.out w1 hb1) h.okb hob)
  rw [hoa] at HDa
  rw [hob] at HDb
  have HLA := Lib.hid (dev.lt hda)
  have HLB := Lib.hid (dev.lt hdb)
  have HAB := Lib.hid hab
  have HSAB := Lib.hid hSab
  have HNE := Lib.hid h.ne
  have HT := Lib.hid hT
  have HS := Lib.hid hS
  have RDa := Lib.hid (reading_all (all a))
  have RDb := Lib.hid (reading_all (all b))
  have HSZ := Lib.hid (show (nats (all a)).length ≤ 1048576 ∧ (nats (all b)).length ≤ 1048576 by
    rw [nats_len, nats_len, all_size, all_size]
    exact ⟨h.oka.all, h.okb.all⟩)
  obtain ⟨l1, hl1⟩ : ∃ l, l = nats (all a) := ⟨_, rfl⟩
  obtain ⟨l2, hl2⟩ : ∃ l, l = nats (all b) := ⟨_, rfl⟩
  have HL1 := Lib.hid hl1
  have HL2 := Lib.hid hl2
  rw [← hl1] at HRa RDa HSZ
  rw [← hl2] at HRb RDb HSZ
  obtain ⟨L1, hL1⟩ : ∃ L, L = partsOf l1 := ⟨_, rfl⟩
  obtain ⟨L2, hL2⟩ : ∃ L, L = partsOf l2 := ⟨_, rfl⟩
  obtain ⟨E1, hE1⟩ : ∃ E, E = endOf l1 := ⟨_, rfl⟩
  obtain ⟨E2, hE2⟩ : ∃ E, E = endOf l2 := ⟨_, rfl⟩
  obtain ⟨cx, hcx⟩ : ∃ c, c = corrupt l1 := ⟨_, rfl⟩
  obtain ⟨cy, hcy⟩ : ∃ c, c = corrupt l2 := ⟨_, rfl⟩
  have HX1 := Lib.hid (And.intro hL1 (And.intro hE1 hcx))
  have HX2 := Lib.hid (And.intro hL2 (And.intro hE2 hcy))
  obtain rfl : cx = true := by rw [hcx, hl1]; exact kcx
  obtain rfl : cy = true := by rw [hcy, hl2]; exact kcy
  have KBX := Lib.hid (show (!true && whole L1) = false by have q := kbx; rw [kcx] at q; rw [hL1, hl1]; exact q)
  have KBY := Lib.hid (show (!true && whole L2) = bY by have q := kby; rw [kcy] at q; rw [hL2, hl2]; exact q)
  have KR1 := Lib.hid (show reliedB L1 L2 true = true by have q := kr1; rw [kcy] at q; rw [hL1, hL2, hl1, hl2]; exact q)
  have HSM := Lib.hid (show L1.length ≤ 500000 ∧ L2.length ≤ 500000 by
    have h1 := RDa.out.few
    have h2 := RDb.out.few
    have h3 := HSZ.out
    rw [hL1, hL2]
    omega)
  clear hda hdb hab hSab hT hS hl1 hl2 hL1 hL2 hE1 hE2 hcx hcy h hoa hob kcx kcy kcx0 kcy0 kbx kby kr1
  go_enter Tryd.func14, Tryd.ntmps14
  go_wp2_with fail
  refine HDa.out.mono ?_
  rintro e w1 ⟨rfl, hb⟩
  have HB1 := Lib.hid hb
  clear hb HDa
  go_wp2_with fail
  refine (HDb.out w1 HB1.out).mono ?_
  rintro e w2 ⟨rfl, hb⟩
  have HB2 := Lib.hid (HB1.out.trans (hb.mono HB1.out.size))
  clear hb HDb HB1
  go_wp2_with fail
  refine (HRa.out w2 HB2.out).mono ?_
  rintro e w3 ⟨⟨x3, rfl, ht⟩, hb⟩
  obtain ⟨p1, c1, rfl, ho1⟩ := told_is ht
  rw [← HX1.out.1] at ho1 ⊢
  rw [← HX1.out.2.1, ← HX1.out.2.2]
  have HB3 := Lib.hid (HB2.out.trans (hb.mono HB2.out.size))
  have HO1 := Lib.hid (ho1.base HB2.out.size)
  clear hb ht ho1 HB2 HRa
  go_wp2_with fail
  refine (HRb.out w3 HB3.out).mono ?_
  rintro e w4 ⟨⟨x4, rfl, ht⟩, hb⟩
  obtain ⟨p2, c2, rfl, ho2⟩ := told_is ht
  rw [← HX2.out.1] at ho2 ⊢
  rw [← HX2.out.2.1, ← HX2.out.2.2]
  have HB4 := Lib.hid (HB3.out.trans (hb.mono HB3.out.size))
  replace HO1 := Lib.hid (HO1.out.below hb)
  have HO2 := Lib.hid (ho2.base HB3.out.size)
  clear hb ht ho2 HB3 HRb
  obtain ⟨n1, hn1⟩ : ∃ n, n = L1.length := ⟨_, rfl⟩
  obtain ⟨n2, hn2⟩ : ∃ n, n = L2.length := ⟨_, rfl⟩
  have HN1 := Lib.hid hn1
  have HN2 := Lib.hid hn2
  rw [← hn1] at HO1 ⊢
  rw [← hn2] at HO2 ⊢
  clear hn1 hn2
  obtain ⟨xb, hxb⟩ : ∃ xb, xb = w4.heap.size := ⟨_, rfl⟩
  obtain ⟨yb, hyb⟩ : ∃ yb, yb = w4.heap.size + 1 := ⟨_, rfl⟩
  obtain ⟨W5, hW5⟩ : ∃ W5, W5 = (w4.alloc (.cells #[.slice p1 n1 c1, .int .i64 (E1 : Int), .bool true] 61)).alloc (.cells #[.slice p2 n2 c2, .int .i64 (E2 : Int), .bool true] 61) := ⟨_, rfl⟩
  have HXB := Lib.hid hxb
  have HYB := Lib.hid (show yb = xb + 1 by rw [hyb, hxb])
  have HW5 := Lib.hid hW5
  have al5 := below_pair w4 (.cells #[.slice p1 n1 c1, .int .i64 (E1 : Int), .bool true] 61) (.cells #[.slice p2 n2 c2, .int .i64 (E2 : Int), .bool true] 61)
  rw [← hW5] at al5
  have HB5 := Lib.hid (HB4.out.trans (al5.mono HB4.out.size))
  have LX := Lib.hid (show Lies W5 xb [.slice p1 n1 c1, .int .i64 (E1 : Int), .bool true] 61 by rw [hW5, hxb]; exact (Lies.new w4 [.slice p1 n1 c1, .int .i64 (E1 : Int), .bool true] 61).below ((Below.refl _ _).alloc (Nat.le_refl _) _))
  have LY := Lib.hid (show Lies W5 yb [.slice p2 n2 c2, .int .i64 (E2 : Int), .bool true] 61 by rw [hW5, hyb]; simpa using Lies.new (w4.alloc (.cells #[.slice p1 n1 c1, .int .i64 (E1 : Int), .bool true] 61)) [.slice p2 n2 c2, .int .i64 (E2 : Int), .bool true] 61)
  have HO1l := Lib.hid HO1.out.lt
  have HO2l := Lib.hid HO2.out.lt
  replace HO1 := Lib.hid (HO1.out.below al5)
  replace HO2 := Lib.hid (HO2.out.below al5)
  have hz5 := And.intro (Below.refl W5.heap.size W5) (And.intro (LX.out.cell (i := 0) rfl) (And.intro (LX.out.cell (i := 1) rfl) (And.intro (LX.out.cell (i := 2) rfl) (And.intro (LY.out.cell (i := 0) rfl) (And.intro (LY.out.cell (i := 1) rfl) (LY.out.cell (i := 2) rfl))))))
  have HP1 := Lib.hid (fun wx (h : Below W5.heap.size W5 wx) => (HO1.out.below h).parts)
  have HP2 := Lib.hid (fun wx (h : Below W5.heap.size W5 wx) => (HO2.out.below h).parts)
  have HWX := Lib.hid (fun wx (h : Below W5.heap.size W5 wx ∧ wx.cell? ⟨xb, 0, none⟩ = some (.slice p1 n1 c1) ∧ wx.cell? ⟨xb, 1, none⟩ = some (.int .i64 (E1 : Int)) ∧ wx.cell? ⟨xb, 2, none⟩ = some (.bool true) ∧ wx.cell? ⟨yb, 0, none⟩ = some (.slice p2 n2 c2) ∧ wx.cell? ⟨yb, 1, none⟩ = some (.int .i64 (E2 : Int)) ∧ wx.cell? ⟨yb, 2, none⟩ = some (.bool true)) => pwhole_ok p1 c1 L1 (E1 : Int) true wx (HP1.out wx h.1) (by have := HSM.out; omega) _ rfl)
  have HWY := Lib.hid (fun wx (h : Below W5.heap.size W5 wx ∧ wx.cell? ⟨xb, 0, none⟩ = some (.slice p1 n1 c1) ∧ wx.cell? ⟨xb, 1, none⟩ = some (.int .i64 (E1 : Int)) ∧ wx.cell? ⟨xb, 2, none⟩ = some (.bool true) ∧ wx.cell? ⟨yb, 0, none⟩ = some (.slice p2 n2 c2) ∧ wx.cell? ⟨yb, 1, none⟩ = some (.int .i64 (E2 : Int)) ∧ wx.cell? ⟨yb, 2, none⟩ = some (.bool true)) => pwhole_ok p2 c2 L2 (E2 : Int) true wx (HP2.out wx h.1) (by have := HSM.out; omega) _ rfl)
  rw [show (!true && whole L1) = false from KBX.out, ← HN1.out] at HWX
  rw [show (!true && whole L2) = bY from KBY.out, ← HN2.out] at HWY
  have HGX := Lib.hid (fun wx (h : Below W5.heap.size W5 wx ∧ wx.cell? ⟨xb, 0, none⟩ = some (.slice p1 n1 c1) ∧ wx.cell? ⟨xb, 1, none⟩ = some (.int .i64 (E1 : Int)) ∧ wx.cell? ⟨xb, 2, none⟩ = some (.bool true) ∧ wx.cell? ⟨yb, 0, none⟩ = some (.slice p2 n2 c2) ∧ wx.cell? ⟨yb, 1, none⟩ = some (.int .i64 (E2 : Int)) ∧ wx.cell? ⟨yb, 2, none⟩ = some (.bool true)) => phead_ok p1 c1 L1 (E1 : Int) true wx (HP1.out wx h.1) (by have := HSM.out; omega))
  have HGY := Lib.hid (fun wx (h : Below W5.heap.size W5 wx ∧ wx.cell? ⟨xb, 0, none⟩ = some (.slice p1 n1 c1) ∧ wx.cell? ⟨xb, 1, none⟩ = some (.int .i64 (E1 : Int)) ∧ wx.cell? ⟨xb, 2, none⟩ = some (.bool true) ∧ wx.cell? ⟨yb, 0, none⟩ = some (.slice p2 n2 c2) ∧ wx.cell? ⟨yb, 1, none⟩ = some (.int .i64 (E2 : Int)) ∧ wx.cell? ⟨yb, 2, none⟩ = some (.bool true)) => phead_ok p2 c2 L2 (E2 : Int) true wx (HP2.out wx h.1) (by have := HSM.out; omega))
  rw [← HN1.out] at HGX
  rw [← HN2.out] at HGY
  have HR1 := Lib.hid (fun wx (h : Below W5.heap.size W5 wx ∧ wx.cell? ⟨xb, 0, none⟩ = some (.slice p1 n1 c1) ∧ wx.cell? ⟨xb, 1, none⟩ = some (.int .i64 (E1 : Int)) ∧ wx.cell? ⟨xb, 2, none⟩ = some (.bool true) ∧ wx.cell? ⟨yb, 0, none⟩ = some (.slice p2 n2 c2) ∧ wx.cell? ⟨yb, 1, none⟩ = some (.int .i64 (E2 : Int)) ∧ wx.cell? ⟨yb, 2, none⟩ = some (.bool true)) => prelied_ok p1 c1 L1 (E1 : Int) true p2 c2 L2 (E2 : Int) true wx (HP1.out wx h.1) (by have := HSM.out; omega) (HP2.out wx h.1) (by have := HSM.out; omega))
  rw [show reliedB L1 L2 true = true from KR1.out, ← HN1.out, ← HN2.out] at HR1
  clear hxb hyb hW5 al5
  go_wp2_with fail
  rw [← HW5.out, ← HXB.out, ← HYB.out]
  refine (HR1.out _ hz5).mono ?_
  rintro e w6 ⟨rfl, hb⟩
  have hz6 := keepSix hz5 hb
  obtain ⟨-, x0, x1, x2, y0, y1, y2⟩ := id hz6
  clear hb
  go_wp2
  go_ret3
  exact openj_err HBAD.out (by decide) (ErrT.code _ 6) (Apart.of (HB5.out.trans (hz6.1.mono HB5.out.size)))
theorem open_bad1_false {w : World} {ba bb : Nat} {S : Nat → Prop} {a b : Dk} (h : Duo dev w ba bb S a b) (hT : Tables w) (hS : Far S) (hoa : a.off = false) (hob : b.off = false) {bY : Bool} (kcx : corrupt (nats (all a)) = true) (kcy : corrupt (nats (all b)) = false) (kbx : (!corrupt (nats (all a)) && whole (partsOf (nats (all a)))) = false) (kby : (!corrupt (nats (all b)) && whole (partsOf (nats (all b)))) = bY) (kr1 : reliedB (partsOf (nats (all a))) (partsOf (nats (all b))) (corrupt (nats (all b))) = true) :
    Calls Tryd.prog 14 #[ptr ba, ptr bb] w fun e w' => OpenJ w w' ba bb S a b e := by
  have HBAD := Lib.hid (opened_bad hoa hob (show badB (nats (all a)) (nats (all b)) = true by unfold badB; rw [kcx, kcy]; rw [kcy] at kr1; rw [kr1]; rfl))
  have kcx0 := kcx
  have kcy0 := kcy
  obtain ⟨Sa, Sb, hda, hdb, hab, hSab⟩ := h.lies
  have hpe := ptr_ne hda hdb h.ne
  have HDU := Lib.hid h
  have OKa := Lib.hid h.oka
  have OKb := Lib.hid h.okb
  have HDa := Lib.hid (downOk ba Sa a w hda h.oka)
  have HDb := Lib.hid (fun w1 (hb1 : Below w.heap.size w w1) => downOk bb Sb b w1 (dev.stays hdb hb1.size fun k hk => hb1.block k (dev.lt hdb k hk)) h.okb)
  have HVa := Lib.hid (fun w1 (hb1 : Below w.heap.size w w1) => dev.stays hda hb1.size fun k hk => hb1.block k (dev.lt hda k hk))
  have HVb := Lib.hid (fun w1 (hb1 : Below w.heap.size w w1) => dev.stays hdb hb1.size fun k hk => hb1.block k (dev.lt hdb k hk))
  have HRa := Lib.hid (fun w1 (hb1 : Below w.heap.size w w1) => pdevice_ok ba Sa a w1 (hT.grown hb1) (HVa.out w1 hb1) h.oka hoa)
  have HRb := Lib.hid (fun w1 (hb1 : Below w.heap.size w w1) => pdevice_ok bb Sb b w1 (hT.grown hb1) (HVb.out w1 hb1) h.okb hob)
  rw [hoa] at HDa
  rw [hob] at HDb
  have HLA := Lib.hid (dev.lt hda)
  have HLB := Lib.hid (dev.lt hdb)
  have HAB := Lib.hid hab
  have HSAB := Lib.hid hSab
  have HNE := Lib.hid h.ne
  have HT := Lib.hid hT
  have HS := Lib.hid hS
  have RDa := Lib.hid (reading_all (all a))
  have RDb := Lib.hid (reading_all (all b))
  have HSZ := Lib.hid (show (nats (all a)).length ≤ 1048576 ∧ (nats (all b)).length ≤ 1048576 by
    rw [nats_len, nats_len, all_size, all_size]
    exact ⟨h.oka.all, h.okb.all⟩)
  obtain ⟨l1, hl1⟩ : ∃ l, l = nats (all a) := ⟨_, rfl⟩
  obtain ⟨l2, hl2⟩ : ∃ l, l = nats (all b) := ⟨_, rfl⟩
  have HL1 := Lib.hid hl1
  have HL2 := Lib.hid hl2
  rw [← hl1] at HRa RDa HSZ
  rw [← hl2] at HRb RDb HSZ
  obtain ⟨L1, hL1⟩ : ∃ L, L = partsOf l1 := ⟨_, rfl⟩
  obtain ⟨L2, hL2⟩ : ∃ L, L = partsOf l2 := ⟨_, rfl⟩
  obtain ⟨E1, hE1⟩ : ∃ E, E = endOf l1 := ⟨_, rfl⟩
  obtain ⟨E2, hE2⟩ : ∃ E, E = endOf l2 := ⟨_, rfl⟩
  obtain ⟨cx, hcx⟩ : ∃ c, c = corrupt l1 := ⟨_, rfl⟩
  obtain ⟨cy, hcy⟩ : ∃ c, c = corrupt l2 := ⟨_, rfl⟩
  have HX1 := Lib.hid (And.intro hL1 (And.intro hE1 hcx))
  have HX2 := Lib.hid (And.intro hL2 (And.intro hE2 hcy))
  obtain rfl : cx = true := by rw [hcx, hl1]; exact kcx
  obtain rfl : cy = false := by rw [hcy, hl2]; exact kcy
  have KBX := Lib.hid (show (!true && whole L1) = false by have q := kbx; rw [kcx] at q; rw [hL1, hl1]; exact q)
  have KBY := Lib.hid (show (!false && whole L2) = bY by have q := kby; rw [kcy] at q; rw [hL2, hl2]; exact q)
  have KR1 := Lib.hid (show reliedB L1 L2 false = true by have q := kr1; rw [kcy] at q; rw [hL1, hL2, hl1, hl2]; exact q)
  have HSM := Lib.hid (show L1.length ≤ 500000 ∧ L2.length ≤ 500000 by
    have h1 := RDa.out.few
    have h2 := RDb.out.few
    have h3 := HSZ.out
    rw [hL1, hL2]
    omega)
  clear hda hdb hab hSab hT hS hl1 hl2 hL1 hL2 hE1 hE2 hcx hcy h hoa hob kcx kcy kcx0 kcy0 kbx kby kr1
  go_enter Tryd.func14, Tryd.ntmps14
  go_wp2_with fail
  refine HDa.out.mono ?_
  rintro e w1 ⟨rfl, hb⟩
  have HB1 := Lib.hid hb
  clear hb HDa
  go_wp2_with fail
  refine (HDb.out w1 HB1.out).mono ?_
  rintro e w2 ⟨rfl, hb⟩
  have HB2 := Lib.hid (HB1.out.trans (hb.mono HB1.out.size))
  clear hb HDb HB1
  go_wp2_with fail
  refine (HRa.out w2 HB2.out).mono ?_
  rintro e w3 ⟨⟨x3, rfl, ht⟩, hb⟩
  obtain ⟨p1, c1, rfl, ho1⟩ := told_is ht
  rw [← HX1.out.1] at ho1 ⊢
  rw [← HX1.out.2.1, ← HX1.out.2.2]
  have HB3 := Lib.hid (HB2.out.trans (hb.mono HB2.out.size))
  have HO1 := Lib.hid (ho1.base HB2.out.size)
  clear hb ht ho1 HB2 HRa
  go_wp2_with fail
  refine (HRb.out w3 HB3.out).mono ?_
  rintro e w4 ⟨⟨x4, rfl, ht⟩, hb⟩
  obtain ⟨p2, c2, rfl, ho2⟩ := told_is ht
  rw [← HX2.out.1] at ho2 ⊢
  rw [← HX2.out.2.1, ← HX2.out.2.2]
  have HB4 := Lib.hid (HB3.out.trans (hb.mono HB3.out.size))
  replace HO1 := Lib.hid (HO1.out.below hb)
  have HO2 := Lib.hid (ho2.base HB3.out.size)
  clear hb ht ho2 HB3 HRb
  obtain ⟨n1, hn1⟩ : ∃ n, n = L1.length := ⟨_, rfl⟩
  obtain ⟨n2, hn2⟩ : ∃ n, n = L2.length := ⟨_, rfl⟩
  have HN1 := Lib.hid hn1
  have HN2 := Lib.hid hn2
  rw [← hn1] at HO1 ⊢
  rw [← hn2] at HO2 ⊢
  clear hn1 hn2
  obtain ⟨xb, hxb⟩ : ∃ xb, xb = w4.heap.size := ⟨_, rfl⟩
  obtain ⟨yb, hyb⟩ : ∃ yb, yb = w4.heap.size + 1 := ⟨_, rfl⟩
  obtain ⟨W5, hW5⟩ : ∃ W5, W5 = (w4.alloc (.cells #[.slice p1 n1 c1, .int .i64 (E1 : Int), .bool true] 61)).alloc (.cells #[.slice p2 n2 c2, .int .i64 (E2 : Int), .bool false] 61) := ⟨_, rfl⟩
  have HXB := Lib.hid hxb
  have HYB := Lib.hid (show yb = xb + 1 by rw [hyb, hxb])
  have HW5 := Lib.hid hW5
  have al5 := below_pair w4 (.cells #[.slice p1 n1 c1, .int .i64 (E1 : Int), .bool true] 61) (.cells #[.slice p2 n2 c2, .int .i64 (E2 : Int), .bool false] 61)
  rw [← hW5] at al5
  have HB5 := Lib.hid (HB4.out.trans (al5.mono HB4.out.size))
  have LX := Lib.hid (show Lies W5 xb [.slice p1 n1 c1, .int .i64 (E1 : Int), .bool true] 61 by rw [hW5, hxb]; exact (Lies.new w4 [.slice p1 n1 c1, .int .i64 (E1 : Int), .bool true] 61).below ((Below.refl _ _).alloc (Nat.le_refl _) _))
  have LY := Lib.hid (show Lies W5 yb [.slice p2 n2 c2, .int .i64 (E2 : Int), .bool false] 61 by rw [hW5, hyb]; simpa using Lies.new (w4.alloc (.cells #[.slice p1 n1 c1, .int .i64 (E1 : Int), .bool true] 61)) [.slice p2 n2 c2, .int .i64 (E2 : Int), .bool false] 61)
  have HO1l := Lib.hid HO1.out.lt
  have HO2l := Lib.hid HO2.out.lt
  replace HO1 := Lib.hid (HO1.out.below al5)
  replace HO2 := Lib.hid (HO2.out.below al5)
  have hz5 := And.intro (Below.refl W5.heap.size W5) (And.intro (LX.out.cell (i := 0) rfl) (And.intro (LX.out.cell (i := 1) rfl) (And.intro (LX.out.cell (i := 2) rfl) (And.intro (LY.out.cell (i := 0) rfl) (And.intro (LY.out.cell (i := 1) rfl) (LY.out.cell (i := 2) rfl))))))
  have HP1 := Lib.hid (fun wx (h : Below W5.heap.size W5 wx) => (HO1.out.below h).parts)
  have HP2 := Lib.hid (fun wx (h : Below W5.heap.size W5 wx) => (HO2.out.below h).parts)
  have HWX := Lib.hid (fun wx (h : Below W5.heap.size W5 wx ∧ wx.cell? ⟨xb, 0, none⟩ = some (.slice p1 n1 c1) ∧ wx.cell? ⟨xb, 1, none⟩ = some (.int .i64 (E1 : Int)) ∧ wx.cell? ⟨xb, 2, none⟩ = some (.bool true) ∧ wx.cell? ⟨yb, 0, none⟩ = some (.slice p2 n2 c2) ∧ wx.cell? ⟨yb, 1, none⟩ = some (.int .i64 (E2 : Int)) ∧ wx.cell? ⟨yb, 2, none⟩ = some (.bool false)) => pwhole_ok p1 c1 L1 (E1 : Int) true wx (HP1.out wx h.1) (by have := HSM.out; omega) _ rfl)
  have HWY := Lib.hid (fun wx (h : Below W5.heap.size W5 wx ∧ wx.cell? ⟨xb, 0, none⟩ = some (.slice p1 n1 c1) ∧ wx.cell? ⟨xb, 1, none⟩ = some (.int .i64 (E1 : Int)) ∧ wx.cell? ⟨xb, 2, none⟩ = some (.bool true) ∧ wx.cell? ⟨yb, 0, none⟩ = some (.slice p2 n2 c2) ∧ wx.cell? ⟨yb, 1, none⟩ = some (.int .i64 (E2 : Int)) ∧ wx.cell? ⟨yb, 2, none⟩ = some (.bool false)) => pwhole_ok p2 c2 L2 (E2 : Int) false wx (HP2.out wx h.1) (by have := HSM.out; omega) _ rfl)
  rw [show (!true && whole L1) = false from KBX.out, ← HN1.out] at HWX
  rw [show (!false && whole L2) = bY from KBY.out, ← HN2.out] at HWY
  have HGX := Lib.hid (fun wx (h : Below W5.heap.size W5 wx ∧ wx.cell? ⟨xb, 0, none⟩ = some (.slice p1 n1 c1) ∧ wx.cell? ⟨xb, 1, none⟩ = some (.int .i64 (E1 : Int)) ∧ wx.cell? ⟨xb, 2, none⟩ = some (.bool true) ∧ wx.cell? ⟨yb, 0, none⟩ = some (.slice p2 n2 c2) ∧ wx.cell? ⟨yb, 1, none⟩ = some (.int .i64 (E2 : Int)) ∧ wx.cell? ⟨yb, 2, none⟩ = some (.bool false)) => phead_ok p1 c1 L1 (E1 : Int) true wx (HP1.out wx h.1) (by have := HSM.out; omega))
  have HGY := Lib.hid (fun wx (h : Below W5.heap.size W5 wx ∧ wx.cell? ⟨xb, 0, none⟩ = some (.slice p1 n1 c1) ∧ wx.cell? ⟨xb, 1, none⟩ = some (.int .i64 (E1 : Int)) ∧ wx.cell? ⟨xb, 2, none⟩ = some (.bool true) ∧ wx.cell? ⟨yb, 0, none⟩ = some (.slice p2 n2 c2) ∧ wx.cell? ⟨yb, 1, none⟩ = some (.int .i64 (E2 : Int)) ∧ wx.cell? ⟨yb, 2, none⟩ = some (.bool false)) => phead_ok p2 c2 L2 (E2 : Int) false wx (HP2.out wx h.1) (by have := HSM.out; omega))
  rw [← HN1.out] at HGX
  rw [← HN2.out] at HGY
  have HR1 := Lib.hid (fun wx (h : Below W5.heap.size W5 wx ∧ wx.cell? ⟨xb, 0, none⟩ = some (.slice p1 n1 c1) ∧ wx.cell? ⟨xb, 1, none⟩ = some (.int .i64 (E1 : Int)) ∧ wx.cell? ⟨xb, 2, none⟩ = some (.bool true) ∧ wx.cell? ⟨yb, 0, none⟩ = some (.slice p2 n2 c2) ∧ wx.cell? ⟨yb, 1, none⟩ = some (.int .i64 (E2 : Int)) ∧ wx.cell? ⟨yb, 2, none⟩ = some (.bool false)) => prelied_ok p1 c1 L1 (E1 : Int) true p2 c2 L2 (E2 : Int) false wx (HP1.out wx h.1) (by have := HSM.out; omega) (HP2.out wx h.1) (by have := HSM.out; omega))
  rw [show reliedB L1 L2 false = true from KR1.out, ← HN1.out, ← HN2.out] at HR1
  clear hxb hyb hW5 al5
  go_wp2_with fail
  rw [← HW5.out, ← HXB.out, ← HYB.out]
  refine (HR1.out _ hz5).mono ?_
  rintro e w6 ⟨rfl, hb⟩
  have hz6 := keepSix hz5 hb
  obtain ⟨-, x0, x1, x2, y0, y1, y2⟩ := id hz6
  clear hb
  go_wp2
  go_ret3
  exact openj_err HBAD.out (by decide) (ErrT.code _ 6) (Apart.of (HB5.out.trans (hz6.1.mono HB5.out.size)))
theorem open_bad2 {w : World} {ba bb : Nat} {S : Nat → Prop} {a b : Dk} (h : Duo dev w ba bb S a b) (hT : Tables w) (hS : Far S) (hoa : a.off = false) (hob : b.off = false) {bX : Bool} (kcx : corrupt (nats (all a)) = false) (kcy : corrupt (nats (all b)) = true) (kbx : (!corrupt (nats (all a)) && whole (partsOf (nats (all a)))) = bX) (kby : (!corrupt (nats (all b)) && whole (partsOf (nats (all b)))) = false) (kr2 : reliedB (partsOf (nats (all b))) (partsOf (nats (all a))) (corrupt (nats (all a))) = true) :
    Calls Tryd.prog 14 #[ptr ba, ptr bb] w fun e w' => OpenJ w w' ba bb S a b e := by
  have HBAD := Lib.hid (opened_bad hoa hob (show badB (nats (all a)) (nats (all b)) = true by unfold badB; rw [kcx, kcy]; rw [kcx] at kr2; rw [kr2]; rfl))
  have kcx0 := kcx
  have kcy0 := kcy
  obtain ⟨Sa, Sb, hda, hdb, hab, hSab⟩ := h.lies
  have hpe := ptr_ne hda hdb h.ne
  have HDU := Lib.hid h
  have OKa := Lib.hid h.oka
  have OKb := Lib.hid h.okb
  have HDa := Lib.hid (downOk ba Sa a w hda h.oka)
  have HDb := Lib.hid (fun w1 (hb1 : Below w.heap.size w w1) => downOk bb Sb b w1 (dev.stays hdb hb1.size fun k hk => hb1.block k (dev.lt hdb k hk)) h.okb)
  have HVa := Lib.hid (fun w1 (hb1 : Below w.heap.size w w1) => dev.stays hda hb1.size fun k hk => hb1.block k (dev.lt hda k hk))
  have HVb := Lib.hid (fun w1 (hb1 : Below w.heap.size w w1) => dev.stays hdb hb1.size fun k hk => hb1.block k (dev.lt hdb k hk))
  have HRa := Lib.hid (fun w1 (hb1 : Below w.heap.size w w1) => pdevice_ok ba Sa a w1 (hT.grown hb1) (HVa.out w1 hb1) h.oka hoa)
  have HRb := Lib.hid (fun w1 (hb1 : Below w.heap.size w w1) => pdevice_ok bb Sb b w1 (hT.grown hb1) (HVb.out w1 hb1) h.okb hob)
  rw [hoa] at HDa
  rw [hob] at HDb
  have HLA := Lib.hid (dev.lt hda)
  have HLB := Lib.hid (dev.lt hdb)
  have HAB := Lib.hid hab
  have HSAB := Lib.hid hSab
  have HNE := Lib.hid h.ne
  have HT := Lib.hid hT
  have HS := Lib.hid hS
  have RDa := Lib.hid (reading_all (all a))
  have RDb := Lib.hid (reading_all (all b))
  have HSZ := Lib.hid (show (nats (all a)).length ≤ 1048576 ∧ (nats (all b)).length ≤ 1048576 by
    rw [nats_len, nats_len, all_size, all_size]
    exact ⟨h.oka.all, h.okb.all⟩)
  obtain ⟨l1, hl1⟩ : ∃ l, l = nats (all a) := ⟨_, rfl⟩
  obtain ⟨l2, hl2⟩ : ∃ l, l = nats (all b) := ⟨_, rfl⟩
  have HL1 := Lib.hid hl1
  have HL2 := Lib.hid hl2
  rw [← hl1] at HRa RDa HSZ
  rw [← hl2] at HRb RDb HSZ
  obtain ⟨L1, hL1⟩ : ∃ L, L = partsOf l1 := ⟨_, rfl⟩
  obtain ⟨L2, hL2⟩ : ∃ L, L = partsOf l2 := ⟨_, rfl⟩
  obtain ⟨E1, hE1⟩ : ∃ E, E = endOf l1 := ⟨_, rfl⟩
  obtain ⟨E2, hE2⟩ : ∃ E, E = endOf l2 := ⟨_, rfl⟩
  obtain ⟨cx, hcx⟩ : ∃ c, c = corrupt l1 := ⟨_, rfl⟩
  obtain ⟨cy, hcy⟩ : ∃ c, c = corrupt l2 := ⟨_, rfl⟩
  have HX1 := Lib.hid (And.intro hL1 (And.intro hE1 hcx))
  have HX2 := Lib.hid (And.intro hL2 (And.intro hE2 hcy))
  obtain rfl : cx = false := by rw [hcx, hl1]; exact kcx
  obtain rfl : cy = true := by rw [hcy, hl2]; exact kcy
  have KBX := Lib.hid (show (!false && whole L1) = bX by have q := kbx; rw [kcx] at q; rw [hL1, hl1]; exact q)
  have KBY := Lib.hid (show (!true && whole L2) = false by have q := kby; rw [kcy] at q; rw [hL2, hl2]; exact q)
  have KR2 := Lib.hid (show reliedB L2 L1 false = true by have q := kr2; rw [kcx] at q; rw [hL1, hL2, hl1, hl2]; exact q)
  have HSM := Lib.hid (show L1.length ≤ 500000 ∧ L2.length ≤ 500000 by
    have h1 := RDa.out.few
    have h2 := RDb.out.few
    have h3 := HSZ.out
    rw [hL1, hL2]
    omega)
  clear hda hdb hab hSab hT hS hl1 hl2 hL1 hL2 hE1 hE2 hcx hcy h hoa hob kcx kcy kcx0 kcy0 kbx kby kr2
  go_enter Tryd.func14, Tryd.ntmps14
  go_wp2_with fail
  refine HDa.out.mono ?_
  rintro e w1 ⟨rfl, hb⟩
  have HB1 := Lib.hid hb
  clear hb HDa
  go_wp2_with fail
  refine (HDb.out w1 HB1.out).mono ?_
  rintro e w2 ⟨rfl, hb⟩
  have HB2 := Lib.hid (HB1.out.trans (hb.mono HB1.out.size))
  clear hb HDb HB1
  go_wp2_with fail
  refine (HRa.out w2 HB2.out).mono ?_
  rintro e w3 ⟨⟨x3, rfl, ht⟩, hb⟩
  obtain ⟨p1, c1, rfl, ho1⟩ := told_is ht
  rw [← HX1.out.1] at ho1 ⊢
  rw [← HX1.out.2.1, ← HX1.out.2.2]
  have HB3 := Lib.hid (HB2.out.trans (hb.mono HB2.out.size))
  have HO1 := Lib.hid (ho1.base HB2.out.size)
  clear hb ht ho1 HB2 HRa
  go_wp2_with fail
  refine (HRb.out w3 HB3.out).mono ?_
  rintro e w4 ⟨⟨x4, rfl, ht⟩, hb⟩
  obtain ⟨p2, c2, rfl, ho2⟩ := told_is ht
  rw [← HX2.out.1] at ho2 ⊢
  rw [← HX2.out.2.1, ← HX2.out.2.2]
  have HB4 := Lib.hid (HB3.out.trans (hb.mono HB3.out.size))
  replace HO1 := Lib.hid (HO1.out.below hb)
  have HO2 := Lib.hid (ho2.base HB3.out.size)
  clear hb ht ho2 HB3 HRb
  obtain ⟨n1, hn1⟩ : ∃ n, n = L1.length := ⟨_, rfl⟩
  obtain ⟨n2, hn2⟩ : ∃ n, n = L2.length := ⟨_, rfl⟩
  have HN1 := Lib.hid hn1
  have HN2 := Lib.hid hn2
  rw [← hn1] at HO1 ⊢
  rw [← hn2] at HO2 ⊢
  clear hn1 hn2
  obtain ⟨xb, hxb⟩ : ∃ xb, xb = w4.heap.size := ⟨_, rfl⟩
  obtain ⟨yb, hyb⟩ : ∃ yb, yb = w4.heap.size + 1 := ⟨_, rfl⟩
  obtain ⟨W5, hW5⟩ : ∃ W5, W5 = (w4.alloc (.cells #[.slice p1 n1 c1, .int .i64 (E1 : Int), .bool false] 61)).alloc (.cells #[.slice p2 n2 c2, .int .i64 (E2 : Int), .bool true] 61) := ⟨_, rfl⟩
  have HXB := Lib.hid hxb
  have HYB := Lib.hid (show yb = xb + 1 by rw [hyb, hxb])
  have HW5 := Lib.hid hW5
  have al5 := below_pair w4 (.cells #[.slice p1 n1 c1, .int .i64 (E1 : Int), .bool false] 61) (.cells #[.slice p2 n2 c2, .int .i64 (E2 : Int), .bool true] 61)
  rw [← hW5] at al5
  have HB5 := Lib.hid (HB4.out.trans (al5.mono HB4.out.size))
  have LX := Lib.hid (show Lies W5 xb [.slice p1 n1 c1, .int .i64 (E1 : Int), .bool false] 61 by rw [hW5, hxb]; exact (Lies.new w4 [.slice p1 n1 c1, .int .i64 (E1 : Int), .bool false] 61).below ((Below.refl _ _).alloc (Nat.le_refl _) _))
  have LY := Lib.hid (show Lies W5 yb [.slice p2 n2 c2, .int .i64 (E2 : Int), .bool true] 61 by rw [hW5, hyb]; simpa using Lies.new (w4.alloc (.cells #[.slice p1 n1 c1, .int .i64 (E1 : Int), .bool false] 61)) [.slice p2 n2 c2, .int .i64 (E2 : Int), .bool true] 61)
  have HO1l := Lib.hid HO1.out.lt
  have HO2l := Lib.hid HO2.out.lt
  replace HO1 := Lib.hid (HO1.out.below al5)
  replace HO2 := Lib.hid (HO2.out.below al5)
  have hz5 := And.intro (Below.refl W5.heap.size W5) (And.intro (LX.out.cell (i := 0) rfl) (And.intro (LX.out.cell (i := 1) rfl) (And.intro (LX.out.cell (i := 2) rfl) (And.intro (LY.out.cell (i := 0) rfl) (And.intro (LY.out.cell (i := 1) rfl) (LY.out.cell (i := 2) rfl))))))
  have HP1 := Lib.hid (fun wx (h : Below W5.heap.size W5 wx) => (HO1.out.below h).parts)
  have HP2 := Lib.hid (fun wx (h : Below W5.heap.size W5 wx) => (HO2.out.below h).parts)
  have HWX := Lib.hid (fun wx (h : Below W5.heap.size W5 wx ∧ wx.cell? ⟨xb, 0, none⟩ = some (.slice p1 n1 c1) ∧ wx.cell? ⟨xb, 1, none⟩ = some (.int .i64 (E1 : Int)) ∧ wx.cell? ⟨xb, 2, none⟩ = some (.bool false) ∧ wx.cell? ⟨yb, 0, none⟩ = some (.slice p2 n2 c2) ∧ wx.cell? ⟨yb, 1, none⟩ = some (.int .i64 (E2 : Int)) ∧ wx.cell? ⟨yb, 2, none⟩ = some (.bool true)) => pwhole_ok p1 c1 L1 (E1 : Int) false wx (HP1.out wx h.1) (by have := HSM.out; omega) _ rfl)
  have HWY := Lib.hid (fun wx (h : Below W5.heap.size W5 wx ∧ wx.cell? ⟨xb, 0, none⟩ = some (.slice p1 n1 c1) ∧ wx.cell? ⟨xb, 1, none⟩ = some (.int .i64 (E1 : Int)) ∧ wx.cell? ⟨xb, 2, none⟩ = some (.bool false) ∧ wx.cell? ⟨yb, 0, none⟩ = some (.slice p2 n2 c2) ∧ wx.cell? ⟨yb, 1, none⟩ = some (.int .i64 (E2 : Int)) ∧ wx.cell? ⟨yb, 2, none⟩ = some (.bool true)) => pwhole_ok p2 c2 L2 (E2 : Int) true wx (HP2.out wx h.1) (by have := HSM.out; omega) _ rfl)
  rw [show (!false && whole L1) = bX from KBX.out, ← HN1.out] at HWX
  rw [show (!true && whole L2) = false from KBY.out, ← HN2.out] at HWY
  have HGX := Lib.hid (fun wx (h : Below W5.heap.size W5 wx ∧ wx.cell? ⟨xb, 0, none⟩ = some (.slice p1 n1 c1) ∧ wx.cell? ⟨xb, 1, none⟩ = some (.int .i64 (E1 : Int)) ∧ wx.cell? ⟨xb, 2, none⟩ = some (.bool false) ∧ wx.cell? ⟨yb, 0, none⟩ = some (.slice p2 n2 c2) ∧ wx.cell? ⟨yb, 1, none⟩ = some (.int .i64 (E2 : Int)) ∧ wx.cell? ⟨yb, 2, none⟩ = some (.bool true)) => phead_ok p1 c1 L1 (E1 : Int) false wx (HP1.out wx h.1) (by have := HSM.out; omega))
  have HGY := Lib.hid (fun wx (h : Below W5.heap.size W5 wx ∧ wx.cell? ⟨xb, 0, none⟩ = some (.slice p1 n1 c1) ∧ wx.cell? ⟨xb, 1, none⟩ = some (.int .i64 (E1 : Int)) ∧ wx.cell? ⟨xb, 2, none⟩ = some (.bool false) ∧ wx.cell? ⟨yb, 0, none⟩ = some (.slice p2 n2 c2) ∧ wx.cell? ⟨yb, 1, none⟩ = some (.int .i64 (E2 : Int)) ∧ wx.cell? ⟨yb, 2, none⟩ = some (.bool true)) => phead_ok p2 c2 L2 (E2 : Int) true wx (HP2.out wx h.1) (by have := HSM.out; omega))
  rw [← HN1.out] at HGX
  rw [← HN2.out] at HGY
  have HR2 := Lib.hid (fun wx (h : Below W5.heap.size W5 wx ∧ wx.cell? ⟨xb, 0, none⟩ = some (.slice p1 n1 c1) ∧ wx.cell? ⟨xb, 1, none⟩ = some (.int .i64 (E1 : Int)) ∧ wx.cell? ⟨xb, 2, none⟩ = some (.bool false) ∧ wx.cell? ⟨yb, 0, none⟩ = some (.slice p2 n2 c2) ∧ wx.cell? ⟨yb, 1, none⟩ = some (.int .i64 (E2 : Int)) ∧ wx.cell? ⟨yb, 2, none⟩ = some (.bool true)) => prelied_ok p2 c2 L2 (E2 : Int) true p1 c1 L1 (E1 : Int) false wx (HP2.out wx h.1) (by have := HSM.out; omega) (HP1.out wx h.1) (by have := HSM.out; omega))
  rw [show reliedB L2 L1 false = true from KR2.out, ← HN1.out, ← HN2.out] at HR2
  clear hxb hyb hW5 al5
  go_wp2_with fail
  rw [← HW5.out, ← HXB.out, ← HYB.out]
  refine (HR2.out _ hz5).mono ?_
  rintro e w6 ⟨rfl, hb⟩
  have hz6 := keepSix hz5 hb
  obtain ⟨-, x0, x1, x2, y0, y1, y2⟩ := id hz6
  clear hb
  go_wp2
  go_ret3
  exact openj_err HBAD.out (by decide) (ErrT.code _ 6) (Apart.of (HB5.out.trans (hz6.1.mono HB5.out.size)))
end Go.Proofs.YtajkldmpllphjaaDoor
namespace Go.Proofs.YtajkldmpllphjaaDoor
open Go.RowKit BlockMath FrameMath TextNat JournalMath

theorem TErr.below {w w' : World} {c : Int} {x : Value} (h : TErr w c x) (hb : Below w.heap.size w w') : TErr w' c x := by
  unfold TErr
  split
  · rename_i h0
    exact h.zero h0
  · rename_i h0
    exact (h.not h0).below hb
theorem ok_settle {d : Dk} (h : Ok d) (g : Nat) (L : List Part) (e : Nat) : Ok (JournalMath.settle d g L e).2.2 := by
  have hr : ∀ d', Ok d' → Ok (restF d' g L).2.2 := fun d' h' => by
    unfold restF
    split
    · exact h'
    · split
      · exact ok_marks h' g
      · split
        · exact ok_marks h' g
        · exact (ok_marks h' g).cut _
  by_cases h1 : e < (all d).size
  · by_cases h2 : (cut (e : Int) d).1 = 0
    · rw [settle_rest h1 h2]
      exact hr _ (h.cut _)
    · rw [settle_cut h1 h2]
      exact h.cut _
  · rw [settle_no h1]
    exact hr _ h
/-- A journal's three parts, behind a call of one of its devices. -/
theorem trio_of {w W13 w14 w17 : World} {q q' p : Nat} {Sq Sq' : Nat → Prop} {d1 d2 : Dk} (h1 : Does dev W13 q Sq d1 w14) (h2 : dev.at_ W13 q' Sq' d2) (hb : Below w.heap.size w W13) (hl' : ∀ k, Sq' k → k < w.heap.size) (hd : ∀ k, Sq k → ¬ Sq' k) (hb2 : Below w14.heap.size w14 w17) (hp : w14.heap.size ≤ p) :
    ∃ S1, dev.at_ w17 q S1 d1 ∧ dev.at_ w17 q' Sq' d2 ∧ (∀ k, S1 k → ¬ Sq' k) ∧ (∀ k, S1 k → k ≠ p) ∧ (∀ k, Sq' k → k ≠ p) ∧ (∀ k, S1 k → Sq k ∨ w.heap.size ≤ k) ∧ ∀ k, S1 k → k < w14.heap.size := by
  obtain ⟨⟨S1, h3, h4⟩, h5⟩ := h1
  have hs1 := dev.lt h3
  have hs := hb.size
  have hs2 := h5.size
  have a2 : dev.at_ w14 q' Sq' d2 := dev.stays h2 h5.size fun k hk => h5.block k (by have := hl' k hk; omega) fun hs => hd k hs hk
  refine ⟨S1, dev.stays h3 hb2.size (fun k hk => hb2.block k (hs1 k hk)), dev.stays a2 hb2.size (fun k hk => hb2.block k (dev.lt a2 k hk)), fun k hk hk' => ?_, fun k hk e => ?_, fun k hk e => ?_, fun k hk => ?_, hs1⟩
  · rcases h4 k hk with h | h
    · exact hd k h hk'
    · have := hl' k hk'
      omega
  · have := hs1 k hk
    omega
  · have := hl' k hk
    omega
  · rcases h4 k hk with h | h
    · exact .inl h
    · exact .inr (by omega)
theorem jat_new {w : World} {p ba bb g : Nat} {n : Bool} (h : Lies w p [ptr (if n then bb else ba), ptr (if n then ba else bb), .int .i64 (g : Int), .bool false] 50) (hg : g ≤ big) : JAt w p (fun k => k = p) ba bb n g false := ⟨h, hg, fun _ => Iff.rfl⟩
theorem head_top {L : List Part} (hv : ∀ p ∈ L, Valid p) : headGen L ≤ big := by
  cases L with
  | nil => exact Nat.zero_le _
  | cons p r => exact (hv p (List.mem_cons_self ..)).gb
theorem whole_some {L : List Part} (h : whole L = true) : 0 < L.length := by
  cases L with
  | nil => cases h
  | cons p r => exact Nat.succ_pos _
theorem own_block {w : World} {B : Nat} {p : Option Addr} {n c : Nat} {A : List (Part × Nat)} (h : OwnP w B (.slice p n c) A) (hn : 0 < n) : ∀ a, p = some a → B ≤ a.block := fun a ha => by
  rcases h.2 with ⟨h1, _⟩ | ⟨g, cap, cur, h3, h4, _⟩
  · cases h1
    omega
  · cases h3
    cases ha
    exact h4
end Go.Proofs.YtajkldmpllphjaaDoor
namespace Go.Proofs.YtajkldmpllphjaaDoor
open Go.RowKit BlockMath FrameMath TextNat JournalMath

set_option maxRecDepth 100000
set_option maxHeartbeats 8000000
theorem open_new {w : World} {ba bb : Nat} {S : Nat → Prop} {a b : Dk} (h : Duo dev w ba bb S a b) (hT : Tables w) (hS : Far S) (hoa : a.off = false) (hob : b.off = false) (kcx : corrupt (nats (all a)) = false) (kcy : corrupt (nats (all b)) = false) (kbx : (!corrupt (nats (all a)) && whole (partsOf (nats (all a)))) = false) (kby : (!corrupt (nats (all b)) && whole (partsOf (nats (all b)))) = false) :
    Calls Tryd.prog 14 #[ptr ba, ptr bb] w fun e w' => OpenJ w w' ba bb S a b e := by
  have kcx0 := kcx
  have kcy0 := kcy
  obtain ⟨Sa, Sb, hda, hdb, hab, hSab⟩ := h.lies
  have hpe := ptr_ne hda hdb h.ne
  have HDU := Lib.hid h
  have OKa := Lib.hid h.oka
  have OKb := Lib.hid h.okb
  have HDa := Lib.hid (downOk ba Sa a w hda h.oka)
  have HDb := Lib.hid (fun w1 (hb1 : Below w.heap.size w w1) => downOk bb Sb b w1 (dev.stays hdb hb1.size fun k hk => hb1.block k (dev.lt hdb k hk)) h.okb)
  have HVa := Lib.hid (fun w1 (hb1 : Below w.heap.size w w1) => dev.stays hda hb1.size fun k hk => hb1.block k (dev.lt hda k hk))
  have HVb := Lib.hid (fun w1 (hb1 : Below w.heap.size w w1) => dev.stays hdb hb1.size fun k hk => hb1.block k (dev.lt hdb k hk))
  have HRa := Lib.hid (fun w1 (hb1 : Below w.heap.size w w1) => pdevice_ok ba Sa a w1 (hT.grown hb1) (HVa.out w1 hb1) h.oka hoa)
  have HRb := Lib.hid (fun w1 (hb1 : Below w.heap.size w w1) => pdevice_ok bb Sb b w1 (hT.grown hb1) (HVb.out w1 hb1) h.okb hob)
  rw [hoa] at HDa
  rw [hob] at HDb
  have HLA := Lib.hid (dev.lt hda)
  have HLB := Lib.hid (dev.lt hdb)
  have HAB := Lib.hid hab
  have HSAB := Lib.hid hSab
  have HNE := Lib.hid h.ne
  have HT := Lib.hid hT
  have HS := Lib.hid hS
  have RDa := Lib.hid (reading_all (all a))
  have RDb := Lib.hid (reading_all (all b))
  have HSZ := Lib.hid (show (nats (all a)).length ≤ 1048576 ∧ (nats (all b)).length ≤ 1048576 by
    rw [nats_len, nats_len, all_size, all_size]
    exact ⟨h.oka.all, h.okb.all⟩)
  obtain ⟨l1, hl1⟩ : ∃ l, l = nats (all a) := ⟨_, rfl⟩
  obtain ⟨l2, hl2⟩ : ∃ l, l = nats (all b) := ⟨_, rfl⟩
  have HL1 := Lib.hid hl1
  have HL2 := Lib.hid hl2
  rw [← hl1] at HRa RDa HSZ
  rw [← hl2] at HRb RDb HSZ
  obtain ⟨L1, hL1⟩ : ∃ L, L = partsOf l1 := ⟨_, rfl⟩
  obtain ⟨L2, hL2⟩ : ∃ L, L = partsOf l2 := ⟨_, rfl⟩
  obtain ⟨E1, hE1⟩ : ∃ E, E = endOf l1 := ⟨_, rfl⟩
  obtain ⟨E2, hE2⟩ : ∃ E, E = endOf l2 := ⟨_, rfl⟩
  obtain ⟨cx, hcx⟩ : ∃ c, c = corrupt l1 := ⟨_, rfl⟩
  obtain ⟨cy, hcy⟩ : ∃ c, c = corrupt l2 := ⟨_, rfl⟩
  have HX1 := Lib.hid (And.intro hL1 (And.intro hE1 hcx))
  have HX2 := Lib.hid (And.intro hL2 (And.intro hE2 hcy))
  have HOP := Lib.hid (show opened a b = ((renewR b 0 []).1, [], ⟨a, (renewR b 0 []).2.1, if (renewR b 0 []).2.2 then !false else false, if (renewR b 0 []).2.2 then 0 + 1 else 0, false || (decide ((renewR b 0 []).1 ≠ 0) && decide ((renewR b 0 []).1 ≠ 4))⟩) by
    rw [opened_new hoa hob (show badB (nats (all a)) (nats (all b)) = false by unfold badB; rw [kcx, kcy]; rfl) kbx kby, start_renew ⟨a, b, false, 0, false⟩ [] rfl (by unfold big JournalMath.long; simp)]
    rfl)
  obtain rfl : cx = false := by rw [hcx, hl1]; exact kcx
  obtain rfl : cy = false := by rw [hcy, hl2]; exact kcy
  have KBX := Lib.hid (show (!false && whole L1) = false by have q := kbx; rw [kcx] at q; rw [hL1, hl1]; exact q)
  have KBY := Lib.hid (show (!false && whole L2) = false by have q := kby; rw [kcy] at q; rw [hL2, hl2]; exact q)
  have HSM := Lib.hid (show L1.length ≤ 500000 ∧ L2.length ≤ 500000 by
    have h1 := RDa.out.few
    have h2 := RDb.out.few
    have h3 := HSZ.out
    rw [hL1, hL2]
    omega)
  clear hda hdb hab hSab hT hS hl1 hl2 hL1 hL2 hE1 hE2 hcx hcy h hoa hob kcx kcy kcx0 kcy0 kbx kby
  go_enter Tryd.func14, Tryd.ntmps14
  go_wp2_with fail
  refine HDa.out.mono ?_
  rintro e w1 ⟨rfl, hb⟩
  have HB1 := Lib.hid hb
  clear hb HDa
  go_wp2_with fail
  refine (HDb.out w1 HB1.out).mono ?_
  rintro e w2 ⟨rfl, hb⟩
  have HB2 := Lib.hid (HB1.out.trans (hb.mono HB1.out.size))
  clear hb HDb HB1
  go_wp2_with fail
  refine (HRa.out w2 HB2.out).mono ?_
  rintro e w3 ⟨⟨x3, rfl, ht⟩, hb⟩
  obtain ⟨p1, c1, rfl, ho1⟩ := told_is ht
  rw [← HX1.out.1] at ho1 ⊢
  rw [← HX1.out.2.1, ← HX1.out.2.2]
  have HB3 := Lib.hid (HB2.out.trans (hb.mono HB2.out.size))
  have HO1 := Lib.hid (ho1.base HB2.out.size)
  clear hb ht ho1 HB2 HRa
  go_wp2_with fail
  refine (HRb.out w3 HB3.out).mono ?_
  rintro e w4 ⟨⟨x4, rfl, ht⟩, hb⟩
  obtain ⟨p2, c2, rfl, ho2⟩ := told_is ht
  rw [← HX2.out.1] at ho2 ⊢
  rw [← HX2.out.2.1, ← HX2.out.2.2]
  have HB4 := Lib.hid (HB3.out.trans (hb.mono HB3.out.size))
  replace HO1 := Lib.hid (HO1.out.below hb)
  have HO2 := Lib.hid (ho2.base HB3.out.size)
  clear hb ht ho2 HB3 HRb
  obtain ⟨n1, hn1⟩ : ∃ n, n = L1.length := ⟨_, rfl⟩
  obtain ⟨n2, hn2⟩ : ∃ n, n = L2.length := ⟨_, rfl⟩
  have HN1 := Lib.hid hn1
  have HN2 := Lib.hid hn2
  rw [← hn1] at HO1 ⊢
  rw [← hn2] at HO2 ⊢
  clear hn1 hn2
  obtain ⟨xb, hxb⟩ : ∃ xb, xb = w4.heap.size := ⟨_, rfl⟩
  obtain ⟨yb, hyb⟩ : ∃ yb, yb = w4.heap.size + 1 := ⟨_, rfl⟩
  obtain ⟨W5, hW5⟩ : ∃ W5, W5 = (w4.alloc (.cells #[.slice p1 n1 c1, .int .i64 (E1 : Int), .bool false] 61)).alloc (.cells #[.slice p2 n2 c2, .int .i64 (E2 : Int), .bool false] 61) := ⟨_, rfl⟩
  have HXB := Lib.hid hxb
  have HYB := Lib.hid (show yb = xb + 1 by rw [hyb, hxb])
  have HW5 := Lib.hid hW5
  have al5 := below_pair w4 (.cells #[.slice p1 n1 c1, .int .i64 (E1 : Int), .bool false] 61) (.cells #[.slice p2 n2 c2, .int .i64 (E2 : Int), .bool false] 61)
  rw [← hW5] at al5
  have HB5 := Lib.hid (HB4.out.trans (al5.mono HB4.out.size))
  have LX := Lib.hid (show Lies W5 xb [.slice p1 n1 c1, .int .i64 (E1 : Int), .bool false] 61 by rw [hW5, hxb]; exact (Lies.new w4 [.slice p1 n1 c1, .int .i64 (E1 : Int), .bool false] 61).below ((Below.refl _ _).alloc (Nat.le_refl _) _))
  have LY := Lib.hid (show Lies W5 yb [.slice p2 n2 c2, .int .i64 (E2 : Int), .bool false] 61 by rw [hW5, hyb]; simpa using Lies.new (w4.alloc (.cells #[.slice p1 n1 c1, .int .i64 (E1 : Int), .bool false] 61)) [.slice p2 n2 c2, .int .i64 (E2 : Int), .bool false] 61)
  have HO1l := Lib.hid HO1.out.lt
  have HO2l := Lib.hid HO2.out.lt
  replace HO1 := Lib.hid (HO1.out.below al5)
  replace HO2 := Lib.hid (HO2.out.below al5)
  have hz5 := And.intro (Below.refl W5.heap.size W5) (And.intro (LX.out.cell (i := 0) rfl) (And.intro (LX.out.cell (i := 1) rfl) (And.intro (LX.out.cell (i := 2) rfl) (And.intro (LY.out.cell (i := 0) rfl) (And.intro (LY.out.cell (i := 1) rfl) (LY.out.cell (i := 2) rfl))))))
  have HP1 := Lib.hid (fun wx (h : Below W5.heap.size W5 wx) => (HO1.out.below h).parts)
  have HP2 := Lib.hid (fun wx (h : Below W5.heap.size W5 wx) => (HO2.out.below h).parts)
  have HWX := Lib.hid (fun wx (h : Below W5.heap.size W5 wx ∧ wx.cell? ⟨xb, 0, none⟩ = some (.slice p1 n1 c1) ∧ wx.cell? ⟨xb, 1, none⟩ = some (.int .i64 (E1 : Int)) ∧ wx.cell? ⟨xb, 2, none⟩ = some (.bool false) ∧ wx.cell? ⟨yb, 0, none⟩ = some (.slice p2 n2 c2) ∧ wx.cell? ⟨yb, 1, none⟩ = some (.int .i64 (E2 : Int)) ∧ wx.cell? ⟨yb, 2, none⟩ = some (.bool false)) => pwhole_ok p1 c1 L1 (E1 : Int) false wx (HP1.out wx h.1) (by have := HSM.out; omega) _ rfl)
  have HWY := Lib.hid (fun wx (h : Below W5.heap.size W5 wx ∧ wx.cell? ⟨xb, 0, none⟩ = some (.slice p1 n1 c1) ∧ wx.cell? ⟨xb, 1, none⟩ = some (.int .i64 (E1 : Int)) ∧ wx.cell? ⟨xb, 2, none⟩ = some (.bool false) ∧ wx.cell? ⟨yb, 0, none⟩ = some (.slice p2 n2 c2) ∧ wx.cell? ⟨yb, 1, none⟩ = some (.int .i64 (E2 : Int)) ∧ wx.cell? ⟨yb, 2, none⟩ = some (.bool false)) => pwhole_ok p2 c2 L2 (E2 : Int) false wx (HP2.out wx h.1) (by have := HSM.out; omega) _ rfl)
  rw [show (!false && whole L1) = false from KBX.out, ← HN1.out] at HWX
  rw [show (!false && whole L2) = false from KBY.out, ← HN2.out] at HWY
  have HGX := Lib.hid (fun wx (h : Below W5.heap.size W5 wx ∧ wx.cell? ⟨xb, 0, none⟩ = some (.slice p1 n1 c1) ∧ wx.cell? ⟨xb, 1, none⟩ = some (.int .i64 (E1 : Int)) ∧ wx.cell? ⟨xb, 2, none⟩ = some (.bool false) ∧ wx.cell? ⟨yb, 0, none⟩ = some (.slice p2 n2 c2) ∧ wx.cell? ⟨yb, 1, none⟩ = some (.int .i64 (E2 : Int)) ∧ wx.cell? ⟨yb, 2, none⟩ = some (.bool false)) => phead_ok p1 c1 L1 (E1 : Int) false wx (HP1.out wx h.1) (by have := HSM.out; omega))
  have HGY := Lib.hid (fun wx (h : Below W5.heap.size W5 wx ∧ wx.cell? ⟨xb, 0, none⟩ = some (.slice p1 n1 c1) ∧ wx.cell? ⟨xb, 1, none⟩ = some (.int .i64 (E1 : Int)) ∧ wx.cell? ⟨xb, 2, none⟩ = some (.bool false) ∧ wx.cell? ⟨yb, 0, none⟩ = some (.slice p2 n2 c2) ∧ wx.cell? ⟨yb, 1, none⟩ = some (.int .i64 (E2 : Int)) ∧ wx.cell? ⟨yb, 2, none⟩ = some (.bool false)) => phead_ok p2 c2 L2 (E2 : Int) false wx (HP2.out wx h.1) (by have := HSM.out; omega))
  rw [← HN1.out] at HGX
  rw [← HN2.out] at HGY
  clear hxb hyb hW5 al5
  go_wp2_with fail
  rw [← HW5.out, ← HXB.out, ← HYB.out]
  refine (HWX.out _ hz5).mono ?_
  rintro e w6 ⟨rfl, hb⟩
  have hz6 := keepSix hz5 hb
  obtain ⟨-, x0, x1, x2, y0, y1, y2⟩ := id hz6
  clear hb
  go_wp2_with fail
  refine (HWY.out _ hz6).mono ?_
  rintro e w7 ⟨rfl, hb⟩
  have hz7 := keepSix hz6 hb
  obtain ⟨-, x0, x1, x2, y0, y1, y2⟩ := id hz7
  clear hb
  have HB7 := Lib.hid (HB5.out.trans (hz7.1.mono HB5.out.size))
  have al8 := (Below.refl w7.heap.size w7).alloc (Nat.le_refl _) (.cells #[ptr ba, ptr bb, .int .i64 0, .bool false] 50)
  have HB8 := Lib.hid (HB7.out.trans (al8.mono HB7.out.size))
  have HJ8 := Lib.hid (jat_new (n := false) (g := 0) (ba := ba) (bb := bb) (Lies.new w7 [ptr ba, ptr bb, .int .i64 0, .bool false] 50) (Nat.zero_le _))
  have HSP := Lib.hid (show w.heap.size ≤ w7.heap.size from HB7.out.size)
  clear x0 x1 x2 y0 y1 y2 hz5 hz6 hz7 al8
  go_wp2_with fail
  refine (prenew_ok w7.heap.size ba bb 0 Sb (fun k => k = w7.heap.size) false false b none 0 [] _ (HT.out.grown HB8.out) (fun k hk => HS.out k ((HSAB.out k).2 (.inr hk))) HJ8.out (HVb.out _ HB8.out) OKb.out (fun k hk e => by have := HLB.out k hk; have := HSP.out; omega) (by decide) (fun i x hx => by cases hx) ⟨by decide, (fun x hx => by cases hx), by decide⟩ (fun a ha => by cases ha)).mono ?_
  rintro e w9 ⟨⟨x, rfl, X⟩, ⟨S', hd', hin'⟩, hj', ha'⟩
  have HX := Lib.hid X
  have HD' := Lib.hid hd'
  have HI' := Lib.hid hin'
  have HJ' := Lib.hid hj'
  have HA' := Lib.hid ha'
  clear X hd' hin' hj' ha'
  go_wp2
  go_ret3
  have e1 : ([] : List ByteArray).map nats = [] := rfl
  have hX := HX.out
  have hj := HJ'.out
  have hd := HD'.out
  rw [e1] at hX hj hd
  have hap := HA'.out
  have hw8 := HB8.out
  have da : dev.at_ w9 ba Sa a := dev.stays (HVa.out _ hw8) hap.size fun k hk => hap.block k (dev.lt (HVa.out _ hw8) k hk) fun hs => hs.elim (fun hs => HAB.out k hk hs) (fun hs => by have := HLA.out k hk; have := HSP.out; omega)
  refine ⟨⟨_, _, x, rfl, by rw [HOP.out]; exact hX, fun h0 => ?_⟩, hap.os.trans hw8.os, hap.tape.trans hw8.tape, hap.output.trans hw8.output, Nat.le_trans hw8.size hap.size, fun k hk hn => (hap.block k (Nat.lt_of_lt_of_le hk hw8.size) fun hs => hs.elim (fun hs => hn ((HSAB.out k).2 (.inr hs))) (fun hs => by have := HSP.out; omega)).trans (hw8.block k hk)⟩
  rw [HOP.out] at h0 ⊢
  have h0' : (renewR b 0 []).1 = 0 := h0
  refine ⟨w7.heap.size, fun k => Sa k ∨ S' k ∨ k = w7.heap.size, rfl, ⟨⟨Sa, S', fun k => k = w7.heap.size, da, hd, ?_, fun k hk hs => ?_, fun k hk e => ?_, fun k hk e => ?_, fun k => Iff.rfl⟩, HNE.out, OKa.out, ok_renew OKb.out _ _⟩, fun k hk => ?_, RowT.nil _ _, fun k hk => by simp [Value.ownBlock] at hk⟩
  · show JAt w9 w7.heap.size _ ba bb _ _ (false || (decide ((renewR b 0 []).1 ≠ 0) && decide ((renewR b 0 []).1 ≠ 4)))
    rw [h0']
    exact hj
  · rcases HI'.out k hs with h | h
    · exact HAB.out k hk h
    · have h1 := HLA.out k hk
      have h2 := hw8.size
      omega
  · have := HLA.out k hk
    have := HSP.out
    omega
  · rcases HI'.out k hk with h | h
    · have := HLB.out k h
      have := HSP.out
      omega
    · have h2 : (w7.alloc (.cells #[ptr ba, ptr bb, .int .i64 0, .bool false] 50)).heap.size = w7.heap.size + 1 := by simp
      rw [h2] at h
      omega
  · rcases hk with hk | hk | hk
    · exact .inl ((HSAB.out k).2 (.inl hk))
    · rcases HI'.out k hk with h | h
      · exact .inl ((HSAB.out k).2 (.inr h))
      · exact .inr (Nat.le_trans hw8.size h)
    · exact .inr (by rw [hk]; exact HSP.out)
end Go.Proofs.YtajkldmpllphjaaDoor
