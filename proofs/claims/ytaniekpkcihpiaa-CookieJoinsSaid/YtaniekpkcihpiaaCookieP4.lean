/-
  The contract of the program's Parse of chapter 13. The conditions: what its callees answer.
-/
import Derived.Test.YtaniekpkcihpiaaCookieP2
import Derived.Test.YtaniekpkcihpiaaCookieMath3
namespace Go.Proofs.Ytaniekpkcihpiaa
open Go.RowKit TextNat CookieMath

theorem cut_nats (s : ByteArray) (a e : Nat) : nats (s.extract a e) = ((nats s).take e).drop a := text_extract s a e
theorem cut_far (s : ByteArray) (a k : Nat) : nats (s.extract a (a + k)) = ((nats s).drop a).take k := by
  rw [cut_nats, List.drop_take]
  congr 1
  omega
theorem cut_size (s : ByteArray) (a k : Nat) (h : a + k ≤ s.size) : (s.extract a (a + k)).size = k := by
  rw [ByteArray.size_extract]
  omega
theorem map_back (A : List PairV) : (A.map PairV.n).map pairB = A := by
  rw [List.map_map]
  conv => rhs; rw [← List.map_id A]
  exact List.map_congr_left fun p _ => pairB_n p
theorem data_list (s : ByteArray) : s.toList = s.data.toList := ByteArray.toList_eq s
theorem none_of (s : ByteArray) : s.toList.isEmpty = decide (s.size = 0) := by
  rw [data_list, ← Bool.eq_iff_iff.mpr (show (s.data.toList.isEmpty = true) ↔ decide (s.size = 0) = true by
    rw [List.isEmpty_iff, decide_eq_true_eq]
    constructor
    · intro h
      show s.data.size = 0
      rw [← Array.length_toList, h]
      rfl
    · intro h
      exact List.eq_nil_of_length_eq_zero (by rw [Array.length_toList]; exact h))]
set_option maxRecDepth 100000 in
set_option maxHeartbeats 16000000 in
theorem parse_prog (hC : CkClone) (hT : ∀ s, OneByte s 11 TextMath.tokenOctet) (hO : ∀ s, OneByte s 12 TextMath.octet) : ParseOk := by
  intro s w hs
  obtain ⟨N, hN⟩ : ∃ N, N = s.size := ⟨_, rfl⟩
  obtain ⟨l, hl⟩ : ∃ l, l = nats s := ⟨_, rfl⟩
  have HLl := Lib.hid (show l.length = N by rw [hl, nats_len, hN])
  have HL := Lib.hid hl
  have HN := Lib.hid hN
  have HRT := Lib.hid (fun (b a : Nat) (w : World) (h : Rdr w b s a) (ha : a ≤ s.size) => rdr_run_token b a s w hC (hT s) h ha (by omega))
  have HRO := Lib.hid (fun (b a : Nat) (w : World) (h : Rdr w b s a) (ha : a ≤ s.size) => rdr_run_octets b a s w hC (hO s) h ha (by omega))
  have HPa := Lib.hid (fun (b a : Nat) (t : ByteArray) (w : World) (h : Rdr w b s a) (ha : a ≤ s.size) (ht : t.size ≤ 100) => rdr_pass b a s t w h ha (by omega) ht)
  by_cases h0 : N = 0
  · have HP := Lib.hid (show parse (nats s) = .inl [] by
      rw [show nats s = [] from List.eq_nil_of_length_eq_zero (by rw [nats_len]; omega)]
      rfl)
    have t0 : s.toList.isEmpty = true := by rw [none_of]; exact decide_eq_true (by omega)
    clear hN hl hs h0 hC hT hO
    go_enter Try.func9, Try.ntmps9
    go_wp2_with fail
    obtain ⟨rb, hrb⟩ : ∃ rb, rb = w.heap.size := ⟨_, rfl⟩
    obtain ⟨W0, hW0⟩ : ∃ W0, W0 = w.alloc (.cells #[.string s, .int .i64 0] 53) := ⟨_, rfl⟩
    have HR0 := Lib.hid (show Rdr W0 rb s 0 by rw [hW0, hrb]; exact Lies.new w [.string s, .int .i64 0] _)
    have HB0 := Lib.hid (show Below w.heap.size w W0 by rw [hW0]; exact (Below.refl _ _).alloc (Nat.le_refl _) _)
    have HZ0 := Lib.hid (show W0.heap.size = rb + 1 by rw [hW0, hrb]; simp)
    rw [← hW0, ← hrb]
    rw [← hrb] at HB0
    clear hW0
    go_loopg [6] 0 (fun gh s6 wx => gh = 0 ∧ s6 = .slice none 0 0 ∧ wx = W0)
    case atStart => exact ⟨rfl, rfl, rfl⟩
    case round =>
      obtain ⟨rfl, rfl, rfl⟩ := hrel
      go_wp2
      go_ret2
      refine ⟨?_, by rw [← hrb]; exact HB0.out⟩
      unfold ParseIs
      rw [HP.out]
      exact ⟨_, _, rfl, Nat.le_refl _, by omega, fun i x h => by simp at h⟩
  have t0 : s.toList.isEmpty = false := by rw [none_of]; exact decide_eq_false (by omega)
  have HPr := Lib.hid (show run 0 [] [] [] l 0 = parse l by
    unfold parse
    rw [if_neg (fun h => by have := HLl.out; rw [h] at this; simp at this; omega)])
  have HNs := Lib.hid (show N ≤ 1000000 by omega)
  clear hN hl hs h0 hC hT hO
  go_enter Try.func9, Try.ntmps9
  go_wp2_with fail
  obtain ⟨rb, hrb⟩ : ∃ rb, rb = w.heap.size := ⟨_, rfl⟩
  obtain ⟨W0, hW0⟩ : ∃ W0, W0 = w.alloc (.cells #[.string s, .int .i64 0] 53) := ⟨_, rfl⟩
  have HR0 := Lib.hid (show Rdr W0 rb s 0 by rw [hW0, hrb]; exact Lies.new w [.string s, .int .i64 0] _)
  have HB0 := Lib.hid (show Below w.heap.size w W0 by rw [hW0]; exact (Below.refl _ _).alloc (Nat.le_refl _) _)
  have HZ0 := Lib.hid (show W0.heap.size = rb + 1 by rw [hW0, hrb]; simp)
  rw [← hW0, ← hrb]
  rw [← hrb] at HB0
  clear hW0
  have HRB := Lib.hid hrb
  clear hrb
  go_loopg [6] N (fun gh s6 wx => ∃ (i : Nat) (out : List PairV), i + gh = N ∧ Hid (run 0 [] [] (out.map PairV.n) (l.drop i) i = parse l) ∧ Hid (out.length ≤ i) ∧ Hid (Rdr wx rb s i) ∧ Hid (OwnQ wx (rb + 1) s6 out) ∧ Hid (Below rb w wx))
  case atStart => exact ⟨0, [], by omega, Lib.hid HPr.out, Lib.hid (Nat.le_refl _), Lib.hid HR0.out, Lib.hid (OwnQ.nil _ _), Lib.hid HB0.out⟩
  case round =>
    obtain ⟨i, out, hi, HRun, HOl, HR, HO, HB⟩ := hrel
    rename World => W
    clear HR0 HB0 HZ0
    have HIN := Lib.hid (show i ≤ s.size by have := HN.out; omega)
    have HI := Lib.hid hi
    obtain ⟨k, hk⟩ : ∃ k, k = far TextMath.tokenOctet ((nats s).drop i) := ⟨_, rfl⟩
    have HT := Lib.hid (HRT.out rb i W HR.out HIN.out)
    rw [← hk] at HT
    have HKN := Lib.hid (show i + k ≤ s.size by
      have := far_le TextMath.tokenOctet ((nats s).drop i)
      rw [List.length_drop, nats_len] at this
      have := HIN.out
      omega)
    have HK := Lib.hid hk
    have HNm := Lib.hid (cut_far s i k)
    have HNz := Lib.hid (cut_size s i k HKN.out)
    obtain ⟨nm, hnm⟩ : ∃ nm, nm = s.extract i (i + k) := ⟨_, rfl⟩
    rw [← hnm] at HT HNm HNz
    obtain ⟨p, c, rfl, hp1, hp2⟩ := HO.out.shape
    clear hk hi hnm hp1 hp2
    go_wp2_with fail
    refine HT.out.mono ?_
    rintro e w1 ⟨rfl, hr, hb⟩
    replace HR := Lib.hid hr
    replace HO := Lib.hid (HO.out.but hb (fun q hq => by have := HO.out.blk q hq; omega))
    replace HB := Lib.hid (HB.out.trans (hb.below (Nat.le_trans (Nat.le_of_eq HRB.out) HB.out.size)))
    replace HR := Lib.hid (HR.out)
    have HRf := Lib.hid (rdr_refused rb (i + k) s)
    by_cases hk0 : k = 0
    · have z1 : nm.toList.isEmpty = true := by rw [none_of, HNz.out]; exact decide_eq_true hk0
      have HP := Lib.hid (show parse (nats s) = .inr (i + k) by
        rw [← HL.out, ← HRun.out, run_refuse _ _ _ _ (.inl (by rw [HL.out, ← HK.out]; exact hk0)), HL.out, ← HK.out])
      clear hk0 hb hr
      go_wp2_with fail
      refine (HRf.out _ HR.out).mono ?_
      rintro e w2 ⟨⟨x, rfl, hx⟩, hb⟩
      have HX := Lib.hid hx
      replace HB := Lib.hid (HB.out.trans (hb.mono (Nat.le_trans (Nat.le_of_eq HRB.out) HB.out.size)))
      clear hb hx
      go_wp2
      go_ret2
      refine ⟨?_, by rw [← HRB.out]; exact HB.out⟩
      unfold ParseIs
      rw [HP.out]
      exact ⟨_, _, x, rfl, HX.out⟩
    have z1 : nm.toList.isEmpty = false := by rw [none_of, HNz.out]; exact decide_eq_false hk0
    have HPq := Lib.hid (HPa.out rb (i + k) ⟨#[61]⟩ w1 HR.out HKN.out (by decide))
    obtain ⟨P, hP⟩ : ∃ P, P = pre ((nats s).drop (i + k)) (nats ⟨#[61]⟩) := ⟨_, rfl⟩
    have HPP := Lib.hid (show P = pre (((nats s).drop i).drop (far TextMath.tokenOctet ((nats s).drop i))) [61] by rw [hP, ← HK.out, List.drop_drop]; rfl)
    rw [← hP] at HPq
    have hP1 : P ≤ 1 := by
      rw [HPP.out]
      exact (pre_le _ [61]).1
    have HK0 := Lib.hid hk0
    clear hk0 hb hr hP
    by_cases hp : P = 0
    · subst hp
      have HP := Lib.hid (show parse (nats s) = .inr (i + k) by
        rw [← HL.out, ← HRun.out, run_refuse _ _ _ _ (.inr (by rw [HL.out, ← HPP.out])), HL.out, ← HK.out])
      rw [decide_eq_false (show ¬ 0 = ByteArray.size ⟨#[61]⟩ by decide)] at HPq
      clear hP1
      go_wp2_with fail
      refine HPq.out.mono ?_
      rintro e w2 ⟨rfl, hr, hb⟩
      replace HR := Lib.hid hr
      replace HB := Lib.hid (HB.out.trans (hb.below (Nat.le_trans (Nat.le_of_eq HRB.out) HB.out.size)))
      clear hb hr
      go_wp2_with fail
      refine (HRf.out _ HR.out).mono ?_
      rintro e w3 ⟨⟨x, rfl, hx⟩, hb⟩
      have HX := Lib.hid hx
      replace HB := Lib.hid (HB.out.trans (hb.mono (Nat.le_trans (Nat.le_of_eq HRB.out) HB.out.size)))
      clear hb hx
      go_wp2
      go_ret2
      refine ⟨?_, by rw [← HRB.out]; exact HB.out⟩
      unfold ParseIs
      rw [HP.out]
      exact ⟨_, _, x, rfl, HX.out⟩
    obtain rfl : P = 1 := by omega
    rw [decide_eq_true (show 1 = ByteArray.size ⟨#[61]⟩ by decide)] at HPq
    have HRun2 := Lib.hid (show run 1 [] (nats nm) (out.map PairV.n) ((nats s).drop (i + k + 1)) (i + k + 1) = parse l by
      rw [← HRun.out, HL.out, run_named _ _ _ _ (by rw [← HK.out]; exact HK0.out) HPP.out.symm, ← HK.out, HNm.out, List.drop_drop]
      congr 2)
    have HKN1 := Lib.hid (show i + k + 1 ≤ s.size by
      have h1 := (pre_le (((nats s).drop i).drop (far TextMath.tokenOctet ((nats s).drop i))) [61]).2
      rw [← HPP.out, ← HK.out, List.drop_drop, List.length_drop, nats_len] at h1
      omega)
    clear hp hP1 HRun
    go_wp2_with fail
    refine HPq.out.mono ?_
    rintro e w2 ⟨rfl, hr, hb⟩
    replace HR := Lib.hid hr
    replace HO := Lib.hid (HO.out.but hb (fun q hq => by have := HO.out.blk q hq; omega))
    replace HB := Lib.hid (HB.out.trans (hb.below (Nat.le_trans (Nat.le_of_eq HRB.out) HB.out.size)))
    clear hb hr HPq HPP
    obtain ⟨j, hj⟩ : ∃ j, j = i + k + 1 := ⟨_, rfl⟩
    rw [← hj] at HR HRun2 HKN1
    have HJ := Lib.hid hj
    have HV := Lib.hid (HRO.out rb j w2 HR.out HKN1.out)
    obtain ⟨m, hm⟩ : ∃ m, m = far TextMath.octet ((nats s).drop j) := ⟨_, rfl⟩
    rw [← hm] at HV
    have HM := Lib.hid hm
    have HJN := Lib.hid (show j + m ≤ s.size by
      have := far_le TextMath.octet ((nats s).drop j)
      rw [List.length_drop, nats_len] at this
      have := HKN1.out
      omega)
    have HVl := Lib.hid (cut_far s j m)
    obtain ⟨vl, hvl⟩ : ∃ vl, vl = s.extract j (j + m) := ⟨_, rfl⟩
    rw [← hvl] at HV HVl
    clear hj hm hvl
    go_wp2_with fail
    refine HV.out.mono ?_
    rintro e w3 ⟨rfl, hr, hb⟩
    replace HR := Lib.hid hr
    replace HO := Lib.hid (HO.out.but hb (fun q hq => by have := HO.out.blk q hq; omega))
    replace HB := Lib.hid (HB.out.trans (hb.below (Nat.le_trans (Nat.le_of_eq HRB.out) HB.out.size)))
    clear hb hr HV
    obtain ⟨W4, hW4⟩ : ∃ W4, W4 = w3.alloc (.cells #[.string nm, .string vl] 24) := ⟨_, rfl⟩
    have b4 : Below w3.heap.size w3 W4 := by rw [hW4]; exact (Below.refl _ _).alloc (Nat.le_refl _) _
    obtain ⟨nb, hnb⟩ : ∃ nb, nb = w3.heap.size := ⟨_, rfl⟩
    have HPI := Lib.hid (show PairsIn W4 (some ⟨nb, 0, none⟩) [(nm, vl)] from fun k y hy => by
      have hk : k = 0 := by have := (List.getElem?_eq_some_iff.1 hy).1; simp at this; exact this
      subst hk
      obtain rfl : (nm, vl) = y := by simpa using hy
      have hn := Lies.new w3 [.string nm, .string vl] 24
      rw [hW4, hnb]
      exact ⟨_, _, rfl, hn.cell (i := 0) rfl, hn.cell (i := 1) rfl⟩)
    have HR4 := Lib.hid (show Rdr W4 rb s (j + m) from Lies.below HR.out b4)
    have HO4 := Lib.hid (HO.out.below b4)
    have HB4 := Lib.hid (HB.out.trans (b4.mono (Nat.le_trans (Nat.le_of_eq HRB.out) HB.out.size)))
    have HS4 := Lib.hid (show rb + 1 ≤ W4.heap.size by have := Lies.lt HR4.out; omega)
    have HW4 := Lib.hid hW4
    have HNB := Lib.hid hnb
    clear hW4 b4 hnb HR HO HB
    go_wp2_with (rw [← HW4.out, ← HNB.out]; at_builtin; refine app_pairs rfl _ _ rfl (rb + 1) (.slice p out.length c) out [(nm, vl)] rfl HO4.out nb 0 1 rfl HPI.out (by have := HOl.out; have := HIN.out; have := HN.out; have := HNs.out; show out.length + 1 ≤ 2000000; omega) HS4.out ?_; intro v5 w5 h1 h2 h3 h4; have HO5 := Lib.hid h1; have HR5 := Lib.hid (show Rdr w5 rb s (j + m) from (h2.block rb (Nat.lt_succ_self rb)).trans HR4.out); have HB5 := Lib.hid (HB4.out.trans (h2.mono (Nat.le_succ rb))); clear h1 h2 h3 h4; have c1 := Rdr.at1 HR5.out)
    refine (rdr_ended rb (j + m) s w5 HR5.out).mono ?_
    rintro e w6 ⟨rfl, n6, rfl⟩
    have HR6 := Lib.hid (HR5.out.drewN n6)
    have HO6 := Lib.hid (show OwnQ (w5.drewN n6) (rb + 1) v5 (out ++ [(nm, vl)]) from HO5.out)
    have HB6 := Lib.hid (show Below rb w (w5.drewN n6) from ⟨HB5.out.os, HB5.out.tape, HB5.out.output, HB5.out.size, HB5.out.block⟩)
    obtain ⟨w6, hw6⟩ : ∃ w6, w6 = w5.drewN n6 := ⟨_, rfl⟩
    rw [← hw6] at HR6 HO6 HB6
    rw [← hw6]
    have HMap := Lib.hid (show (out ++ [(nm, vl)]).map PairV.n = out.map PairV.n ++ [(nats nm, ((nats s).drop j).take (far TextMath.octet ((nats s).drop j)))] by rw [List.map_append, ← HM.out, ← HVl.out]; rfl)
    clear hw6 HR5 HO5 HB5 c1
    by_cases he : j + m = s.size
    · rw [decide_eq_true he]
      have HP := Lib.hid (show parse (nats s) = .inl ((out ++ [(nm, vl)]).map PairV.n) by
        rw [← HL.out, ← HRun2.out, run_last _ _ _ _ (by rw [← HM.out, List.length_drop, nats_len]; omega), HMap.out])
      obtain ⟨p6, c6, rfl, h61, h62⟩ := HO6.out.shape
      have H61 := Lib.hid h61
      have H62 := Lib.hid h62
      clear h61 h62 he
      go_wp2
      go_ret2
      refine ⟨?_, by rw [← HRB.out]; exact HB6.out⟩
      unfold ParseIs
      rw [HP.out]
      exact ⟨p6, c6, by rw [List.length_map, List.length_append]; rfl, by rw [List.length_map]; exact H61.out, H62.out, by rw [map_back]; exact HO6.out.pairs⟩
    rw [decide_eq_false he]
    have HE := Lib.hid he
    have HPq := Lib.hid (HPa.out rb (j + m) ⟨#[59, 32]⟩ w6 HR6.out HJN.out (by decide))
    obtain ⟨P, hP⟩ : ∃ P, P = pre ((nats s).drop (j + m)) (nats ⟨#[59, 32]⟩) := ⟨_, rfl⟩
    have HPP := Lib.hid (show P = pre (((nats s).drop j).drop (far TextMath.octet ((nats s).drop j))) [59, 32] by rw [hP, ← HM.out, List.drop_drop]; rfl)
    rw [← hP] at HPq
    clear he hP
    by_cases hp : P = 2
    · subst hp
      rw [decide_eq_true (show 2 = ByteArray.size ⟨#[59, 32]⟩ by decide)] at HPq
      have HRun3 := Lib.hid (show run 0 [] [] ((out ++ [(nm, vl)]).map PairV.n) ((nats s).drop (j + m + 2)) (j + m + 2) = parse l by
        rw [← HRun2.out, run_more _ _ _ _ HPP.out.symm, HMap.out, ← HM.out, List.drop_drop]
        congr 2)
      have HKN2 := Lib.hid (show j + m + 2 ≤ s.size by
        have h1 := (pre_le (((nats s).drop j).drop (far TextMath.octet ((nats s).drop j))) [59, 32]).2
        rw [← HPP.out, ← HM.out, List.drop_drop, List.length_drop, nats_len] at h1
        omega)
      go_wp2_with fail
      refine HPq.out.mono ?_
      rintro e w7 ⟨rfl, hr, hb⟩
      replace HR6 := Lib.hid hr
      replace HO6 := Lib.hid (HO6.out.but hb (fun q hq => by have := HO6.out.blk q hq; omega))
      replace HB6 := Lib.hid (HB6.out.trans (hb.below (Nat.le_trans (Nat.le_of_eq HRB.out) HB6.out.size)))
      clear hb hr HPq HPP
      go_wp2_with fail
      go_roundg (N - (j + m + 2))
      case measure => have := HI.out; have := HJ.out; have := HKN2.out; have := HN.out; omega
      case rel =>
        refine ⟨j + m + 2, out ++ [(nm, vl)], by have := HKN2.out; have := HN.out; omega, Lib.hid (by rw [← HL.out] at HRun3; exact HRun3.out), Lib.hid ?_, HR6, HO6, HB6⟩
        rw [List.length_append, List.length_singleton]
        have := HOl.out
        have := HJ.out
        omega
    · rw [decide_eq_false (show ¬ P = ByteArray.size ⟨#[59, 32]⟩ from hp)] at HPq
      have HP := Lib.hid (show parse (nats s) = .inr (j + m + P) by
        rw [← HL.out, ← HRun2.out, CookieMath.run_cut _ _ _ _ (by rw [← HM.out, List.length_drop, nats_len]; have := HJN.out; have := HE.out; omega) (by rw [← HPP.out]; exact hp), ← HPP.out, ← HM.out])
      have HRf2 := Lib.hid (rdr_refused rb (j + m + P) s)
      clear hp
      go_wp2_with fail
      refine HPq.out.mono ?_
      rintro e w7 ⟨rfl, hr, hb⟩
      replace HR6 := Lib.hid hr
      replace HB6 := Lib.hid (HB6.out.trans (hb.below (Nat.le_trans (Nat.le_of_eq HRB.out) HB6.out.size)))
      clear hb hr HPq HPP
      go_wp2_with fail
      refine (HRf2.out _ HR6.out).mono ?_
      rintro e w8 ⟨⟨x, rfl, hx⟩, hb⟩
      have HX := Lib.hid hx
      replace HB6 := Lib.hid (HB6.out.trans (hb.mono (Nat.le_trans (Nat.le_of_eq HRB.out) HB6.out.size)))
      clear hb hx
      go_wp2
      go_ret2
      refine ⟨?_, by rw [← HRB.out]; exact HB6.out⟩
      unfold ParseIs
      rw [HP.out]
      exact ⟨_, _, x, rfl, HX.out⟩
end Go.Proofs.Ytaniekpkcihpiaa
