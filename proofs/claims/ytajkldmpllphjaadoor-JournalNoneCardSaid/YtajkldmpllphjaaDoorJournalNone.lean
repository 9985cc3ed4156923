/-
  JournalNone's contract: over one device, or devices that aren't there, there is no journal; one that isn't there is down. The conditions: the program's contracts.
-/
import Derived.Test.YtajkldmpllphjaaDoorPart03
namespace Go.Proofs.YtajkldmpllphjaaDoor
open Go.RowKit BlockMath TextNat JournalMath

theorem one_text (w : World) (s : ByteArray) : TextsIn (w.alloc (.cells #[.string s] 9)) (some ⟨w.heap.size, 0, none⟩) [s] := by
  intro i x hx
  match i, hx with
  | 0, hx => exact ⟨w.heap.size, 0, rfl, by rw [← Option.some.inj hx]; exact (Lies.new w [.string s] 9).cell (i := 0) rfl⟩
  | i + 1, hx => cases hx
set_option maxRecDepth 100000 in
set_option maxHeartbeats 4000000 in
theorem none_true {D : Dev} {J : Jrn} (hW : Owns D) (hN : NewOk D) (hC : CrashOk D) (hO : OpenedOk D J) (hP : PutOk D J) (hG : GenOk D J) (hE : OpenBad D) (hL : NilOk) (s : ByteArray) (w : World) (hTb : Tables w) :
    Calls Tryd.prog 3 #[.string s] w fun e w' => e = .returned (.bool true) ∧ Below w.heap.size w w' := by
  have HA := Lib.hid (awake_true hW hN hC hO hP hG w hTb)
  have H2 := Lib.hid (fun w => two_ok hW hN 1000 w (by decide) (by decide))
  have HE := Lib.hid hE
  obtain ⟨l1, l2, l3, l4⟩ := hL
  have L1 := Lib.hid l1
  have L2 := Lib.hid l2
  have L3 := Lib.hid l3
  have L4 := Lib.hid l4
  clear l1 l2 l3 l4 hE hW hN hC hO hP hG
  go_enter Tryd.func3, Tryd.ntmps3
  go_wp2_with fail
  refine HA.out.mono ?_
  rintro e w0 ⟨rfl, hb⟩
  have HB := Lib.hid hb
  clear hb HA
  go_wp2_with fail
  refine (H2.out w0).mono ?_
  rintro e w1 ⟨⟨ba, bb, rfl, h1⟩, hb⟩
  replace HB := Lib.hid (HB.out.trans (hb.mono HB.out.size))
  obtain ⟨S, h2, -⟩ := h1.own
  obtain ⟨Sa, h3, -⟩ := h2.first
  have HD := Lib.hid h3
  have HLT := Lib.hid (D.lt h3)
  have HK := Lib.hid h2.oka
  clear hb h1 h2 h3 H2
  go_wp2_with fail
  refine (HE.out ba Sa _ w1 HD.out HK.out rfl).1.mono ?_
  rintro e w2 ⟨⟨v2, x2, rfl, hx⟩, hb⟩
  have HX1 := Lib.hid hx
  replace HB := Lib.hid (HB.out.trans (hb.mono HB.out.size))
  have HD2 := Lib.hid (D.stays HD.out hb.size fun k hk => hb.block k (HLT.out k hk))
  have HS2 := Lib.hid hb.size
  clear hx hb HD
  go_wp2_with fail
  refine (HE.out ba Sa _ w2 HD2.out HK.out rfl).2.1.mono ?_
  rintro e w3 ⟨⟨v3, x3, rfl, hx⟩, hb⟩
  have HX2 := Lib.hid hx
  replace HX1 := Lib.hid (HX1.out.below hb)
  replace HB := Lib.hid (HB.out.trans (hb.mono HB.out.size))
  have HD3 := Lib.hid (D.stays HD2.out hb.size fun k hk => hb.block k (D.lt HD2.out k hk))
  clear hx hb HD2
  go_wp2_with fail
  refine (HE.out ba Sa _ w3 HD3.out HK.out rfl).2.2.mono ?_
  rintro e w4 ⟨⟨v4, x4, rfl, hx⟩, hb⟩
  have HX3 := Lib.hid hx
  replace HX1 := Lib.hid (HX1.out.below hb)
  replace HX2 := Lib.hid (HX2.out.below hb)
  replace HB := Lib.hid (HB.out.trans (hb.mono HB.out.size))
  clear hx hb HD3 HE HK HLT HS2
  have HT := Lib.hid (one_text w4 s)
  have HB5 := Lib.hid (show Below w4.heap.size w4 (w4.alloc (.cells #[.string s] 9)) from (Below.refl _ _).alloc (Nat.le_refl _) _)
  go_wp2_with fail
  refine (is_err HX1.out 1).mono ?_
  rintro e w9 ⟨rfl, rfl⟩
  go_wp2_with fail
  refine (is_err HX2.out 5).mono ?_
  rintro e w9 ⟨rfl, rfl⟩
  go_wp2_with fail
  refine (is_err HX3.out 5).mono ?_
  rintro e w9 ⟨rfl, rfl⟩
  go_wp2_with fail
  refine (L1.out _ 1 [s] _ HT.out (Nat.le_refl _)).mono ?_
  rintro e w5 ⟨⟨x5, rfl, hx⟩, hb⟩
  have HX5 := Lib.hid hx
  replace HB := Lib.hid ((HB.out.trans (HB5.out.mono HB.out.size)).trans (hb.mono (Nat.le_trans HB.out.size HB5.out.size)))
  clear hx hb HT HB5
  have HT := Lib.hid (one_text w5 s)
  have HB5 := Lib.hid (show Below w5.heap.size w5 (w5.alloc (.cells #[.string s] 9)) from (Below.refl _ _).alloc (Nat.le_refl _) _)
  go_wp2_with fail
  refine (is_err HX5.out 5).mono ?_
  rintro e w9 ⟨rfl, rfl⟩
  go_wp2_with fail
  refine (L2.out _ 1 [s] _ HT.out (Nat.le_refl _)).mono ?_
  rintro e w6 ⟨⟨x6, rfl, hx⟩, hb⟩
  have HX6 := Lib.hid hx
  replace HB := Lib.hid ((HB.out.trans (HB5.out.mono HB.out.size)).trans (hb.mono (Nat.le_trans HB.out.size HB5.out.size)))
  clear hx hb HT HB5
  go_wp2_with fail
  refine (is_err HX6.out 5).mono ?_
  rintro e w9 ⟨rfl, rfl⟩
  go_wp2_with fail
  refine (L3.out _).mono ?_
  rintro e w7 ⟨rfl, hb⟩
  replace HB := Lib.hid (HB.out.trans (hb.mono HB.out.size))
  clear hb
  go_wp2_with fail
  refine (L4.out _).mono ?_
  rintro e w8 ⟨rfl, hb⟩
  replace HB := Lib.hid (HB.out.trans (hb.mono HB.out.size))
  clear hb
  go_wp2
  go_ret
  exact ⟨by first | rfl | simp, HB.out⟩
end Go.Proofs.YtajkldmpllphjaaDoor
