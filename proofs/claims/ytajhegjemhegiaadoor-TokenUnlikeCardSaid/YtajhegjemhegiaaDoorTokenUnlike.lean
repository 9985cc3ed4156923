/-
  TokenUnlike's contract. The conditions: the program's contracts; mac's table; what came in lies in memory.
-/
import Derived.Test.YtajhegjemhegiaaDoorPart30
import Derived.Test.YtajhegjemhegiaaDoorPart07
namespace Go.Proofs.YtajhegjemhegiaaDoor
open Go.RowKit TextNat TokenMath

theorem nats_one {a b : ByteArray} (h : nats a = nats b) : a = b := by rw [← txt_nats a, h, txt_nats]
theorem toNat_one {a b : Int} (ha : 0 ≤ a) (hb : 0 ≤ b) (h : a.toNat = b.toNat) : a = b := by omega
theorem toList_one {a b : ByteArray} (h : a.toList = b.toList) : a = b := by
  by_cases k : a = b
  · exact k
  · exact absurd h (text_list k)
/-- Two claims under one key have one token just if they are the same but for it. -/
theorem unlike_math {m : List Nat} {a : Int} {x y : ClaimsV} (hx : (x.keyed a).right = true) (hy : (y.keyed a).right = true) :
    txt (tokenOf m (x.keyed a).t) = txt (tokenOf m (y.keyed a).t) ↔ sameC (x.keyed 0) (y.keyed 0) = true := by
  have qx := (rightC_iff _).1 hx
  have qy := (rightC_iff _).1 hy
  constructor
  · intro h
    have h1 : tokenOf m (x.keyed a).t = tokenOf m (y.keyed a).t := by
      rw [← nats_txt _ (token_lt m (x.keyed a).t), h, nats_txt _ (token_lt _ _)]
    have h2 := token_one (rightC_t qx) (rightC_t qy) (t_octs _) (t_octs _) h1
    obtain ⟨x1, x2, x3, x4, x5, x6⟩ := qx
    obtain ⟨y1, y2, y3, y4, y5, y6⟩ := qy
    obtain ⟨se, us, ep, is, ky, cp, cl, cc⟩ := x
    obtain ⟨sf, ut, eq, it, kz, dp, dl, dc⟩ := y
    simp only [ClaimsV.keyed] at *
    unfold ClaimsV.t at h2
    simp only [Prod.mk.injEq] at h2
    obtain ⟨e1, e2, e3, e4, _, e6⟩ := h2
    obtain rfl := nats_one e1
    obtain rfl := nats_one e2
    obtain rfl := toNat_one x3.1 y3.1 e3
    obtain rfl := toNat_one x4.1 y4.1 e4
    have e7 : cl = dl := by
      rw [← map_back (trimmed_pos x6), e6, map_back (trimmed_pos y6)]
    subst e7
    unfold sameC
    simp
  · intro h
    obtain ⟨se, us, ep, is, ky, cp, cl, cc⟩ := x
    obtain ⟨sf, ut, eq, it, kz, dp, dl, dc⟩ := y
    unfold sameC at h
    simp only [ClaimsV.keyed, decide_eq_true_eq] at h
    obtain ⟨e1, e2, rfl, rfl, _, rfl⟩ := h
    obtain rfl := toList_one e1
    obtain rfl := toList_one e2
    rfl
set_option maxRecDepth 100000 in
set_option maxHeartbeats 8000000 in
theorem unlike_true {R : Rng} (hN : RNewOk R) (hM : MintOk R) (hQ : ReadTOk R) (x y : ClaimsV) (a : Int) (w : World) (hP : Parts w) (hx : Ints w x.cp x.cl) (hy : Ints w y.cp y.cl) (hf : x.few) (hg : y.few) (ha : 0 ≤ a ∧ a ≤ 65535) :
    Calls Tryd.prog 7 #[x.val, y.val, .int .u16 a] w fun e w' => e = .returned (.bool true) ∧ Below w.heap.size w w' := by
  have HG := Lib.hid (great_ok x)
  have HG2 := Lib.hid (great_ok y)
  have HU := Lib.hid (fun hx hy => unlike_math (m := nats ⟨#[109]⟩) (a := a) (x := x) (y := y) hx hy)
  obtain ⟨se, us, ep, is, ky, cp, cl, cc⟩ := x
  obtain ⟨sf, ut, eq, it, kz, dp, dl, dc⟩ := y
  simp only [ClaimsV.val] at *
  have HN := Lib.hid hN
  have HM := Lib.hid hM
  have HQ := Lib.hid hQ
  have HP := Lib.hid hP
  have HF := Lib.hid hf
  have HF2 := Lib.hid hg
  have HX := Lib.hid hx
  have HX0 := Lib.hid hx
  have HY := Lib.hid hy
  have HY0 := Lib.hid hy
  have HAb := Lib.hid ha
  clear hN hM hQ hP hf hx hg hy
  go_enter Tryd.func7, Tryd.ntmps7
  go_wp2_with fail
  obtain ⟨W, hW⟩ : ∃ W, W = (w.alloc (.cells #[.string se, .string us, .int .i64 ep, .int .i64 is, .int .i64 ky, .slice cp cl.length cc] 31)).alloc (.cells #[.string sf, .string ut, .int .i64 eq, .int .i64 it, .int .i64 kz, .slice dp dl.length dc] 31) := ⟨_, rfl⟩
  rw [← hW]
  have hb : Below w.heap.size w W := by rw [hW]; exact ((Below.refl _ _).alloc (Nat.le_refl _) _).alloc (by simp) _
  obtain ⟨r1, hr1⟩ : ∃ r1, r1 = w.heap.size := ⟨_, rfl⟩
  obtain ⟨r2, hr2⟩ : ∃ r2, r2 = w.heap.size + 1 := ⟨_, rfl⟩
  have HR1 := Lib.hid (show Row W r1 [.string se, .string us, .int .i64 ep, .int .i64 is, .int .i64 ky, .slice cp cl.length cc] 31 by rw [hW, hr1]; exact (Row.new w _ _).below ((Below.refl _ _).alloc (Nat.le_refl _) _))
  have HR2 := Lib.hid (show Row W r2 [.string sf, .string ut, .int .i64 eq, .int .i64 it, .int .i64 kz, .slice dp dl.length dc] 31 by rw [hW, hr2]; have := Row.new (w.alloc (.cells #[.string se, .string us, .int .i64 ep, .int .i64 is, .int .i64 ky, .slice cp cl.length cc] 31)) [.string sf, .string ut, .int .i64 eq, .int .i64 it, .int .i64 kz, .slice dp dl.length dc] 31; simpa using this)
  have HRN := Lib.hid (show r1 ≠ r2 ∧ w.heap.size ≤ r1 ∧ w.heap.size ≤ r2 by omega)
  simp only [← hr2]
  simp only [← hr1]
  replace HX := Lib.hid (HX.out.grown hb)
  replace HY := Lib.hid (HY.out.grown hb)
  have HB := Lib.hid hb
  clear hb hW hr1 hr2
  refine (awake_true HN.out HM.out HQ.out W (HP.out.grown HB.out)).mono ?_
  rintro e w1 ⟨rfl, hb⟩
  replace HR1 := Lib.hid (HR1.out.below hb); replace HR2 := Lib.hid (HR2.out.below hb); replace HX := Lib.hid (HX.out.grown hb); replace HY := Lib.hid (HY.out.grown hb); replace HB := Lib.hid (HB.out.trans (hb.mono HB.out.size))
  clear hb
  have c0 := HR1.out.cell (i := 0) rfl; have d0 := HR2.out.cell (i := 0) rfl; have c1 := HR1.out.cell (i := 1) rfl; have d1 := HR2.out.cell (i := 1) rfl; have c2 := HR1.out.cell (i := 2) rfl; have d2 := HR2.out.cell (i := 2) rfl; have c3 := HR1.out.cell (i := 3) rfl; have d3 := HR2.out.cell (i := 3) rfl; have c4 := HR1.out.cell (i := 4) rfl; have d4 := HR2.out.cell (i := 4) rfl; have c5 := HR1.out.cell (i := 5) rfl; have d5 := HR2.out.cell (i := 5) rfl
  go_wp2_with fail
  refine (HG.out _).mono ?_
  rintro e w2 ⟨rfl, hb⟩
  clear c0 c1 c2 c3 c4 c5 d0 d1 d2 d3 d4 d5
  replace HR1 := Lib.hid (HR1.out.below hb); replace HR2 := Lib.hid (HR2.out.below hb); replace HX := Lib.hid (HX.out.grown hb); replace HY := Lib.hid (HY.out.grown hb); replace HB := Lib.hid (HB.out.trans (hb.mono HB.out.size))
  clear hb
  by_cases hg1 : greatC ⟨se, us, ep, is, ky, cp, cl, cc⟩ = true
  · rw [hg1]
    clear hg1
    go_wp2
    go_ret
    exact ⟨rfl, HB.out⟩
  rw [Bool.eq_false_iff.2 hg1]
  clear hg1
  have c0 := HR1.out.cell (i := 0) rfl; have d0 := HR2.out.cell (i := 0) rfl; have c1 := HR1.out.cell (i := 1) rfl; have d1 := HR2.out.cell (i := 1) rfl; have c2 := HR1.out.cell (i := 2) rfl; have d2 := HR2.out.cell (i := 2) rfl; have c3 := HR1.out.cell (i := 3) rfl; have d3 := HR2.out.cell (i := 3) rfl; have c4 := HR1.out.cell (i := 4) rfl; have d4 := HR2.out.cell (i := 4) rfl; have c5 := HR1.out.cell (i := 5) rfl; have d5 := HR2.out.cell (i := 5) rfl
  go_wp2_with fail
  refine (HG2.out _).mono ?_
  rintro e w3 ⟨rfl, hb⟩
  clear c0 c1 c2 c3 c4 c5 d0 d1 d2 d3 d4 d5
  replace HR1 := Lib.hid (HR1.out.below hb); replace HR2 := Lib.hid (HR2.out.below hb); replace HX := Lib.hid (HX.out.grown hb); replace HY := Lib.hid (HY.out.grown hb); replace HB := Lib.hid (HB.out.trans (hb.mono HB.out.size))
  clear hb
  by_cases hg1 : greatC ⟨sf, ut, eq, it, kz, dp, dl, dc⟩ = true
  · rw [hg1]
    clear hg1
    go_wp2
    go_ret
    exact ⟨rfl, HB.out⟩
  rw [Bool.eq_false_iff.2 hg1]
  clear hg1
  go_wp2_with fail
  refine (HN.out ⟨#[109]⟩ a _ (by decide) ⟨by omega, by omega⟩).mono ?_
  rintro e w4 ⟨h1, hb⟩
  rw [if_pos (right_m ha.1 ha.2)] at h1
  obtain ⟨b, rfl, h1⟩ := h1
  replace HR1 := Lib.hid (HR1.out.below hb); replace HR2 := Lib.hid (HR2.out.below hb); replace HX := Lib.hid (HX.out.grown hb); replace HY := Lib.hid (HY.out.grown hb); replace HB := Lib.hid (HB.out.trans (hb.mono HB.out.size))
  have HH := Lib.hid h1
  clear h1 hb
  have c0 := HR1.out.cell (i := 0) rfl; have d0 := HR2.out.cell (i := 0) rfl; have c1 := HR1.out.cell (i := 1) rfl; have d1 := HR2.out.cell (i := 1) rfl; have c2 := HR1.out.cell (i := 2) rfl; have d2 := HR2.out.cell (i := 2) rfl; have c3 := HR1.out.cell (i := 3) rfl; have d3 := HR2.out.cell (i := 3) rfl; have c4 := HR1.out.cell (i := 4) rfl; have d4 := HR2.out.cell (i := 4) rfl; have c5 := HR1.out.cell (i := 5) rfl; have d5 := HR2.out.cell (i := 5) rfl
  go_wp2_with fail
  refine (HasR.mint HM.out HH.out (right_m ha.1 ha.2) (HP.out.grown HB.out) ⟨se, us, ep, is, ky, cp, cl, cc⟩ HX.out HF.out).mono ?_
  rintro e w5 ⟨h3, hb⟩
  clear c0 c1 c2 c3 c4 c5 d0 d1 d2 d3 d4 d5
  replace HR1 := Lib.hid (HR1.out.below hb); replace HR2 := Lib.hid (HR2.out.below hb); replace HX := Lib.hid (HX.out.grown hb); replace HY := Lib.hid (HY.out.grown hb); replace HB := Lib.hid (HB.out.trans (hb.mono HB.out.size))
  replace HH := Lib.hid (HH.out.below hb)
  clear hb
  unfold MintIs at h3
  by_cases hr : (ClaimsV.keyed ⟨se, us, ep, is, ky, cp, cl, cc⟩ a).right = true
  · rw [if_pos hr] at h3
    obtain rfl := h3
    obtain ⟨TS, hTS⟩ : ∃ TS, TS = txt (tokenOf (nats ⟨#[109]⟩) (ClaimsV.keyed ⟨se, us, ep, is, ky, cp, cl, cc⟩ a).t) := ⟨_, rfl⟩
    rw [← hTS]
    replace HU := Lib.hid (fun hy => HU.out hr hy)
    rw [← hTS] at HU
    clear hr hTS
    have c0 := HR1.out.cell (i := 0) rfl; have d0 := HR2.out.cell (i := 0) rfl; have c1 := HR1.out.cell (i := 1) rfl; have d1 := HR2.out.cell (i := 1) rfl; have c2 := HR1.out.cell (i := 2) rfl; have d2 := HR2.out.cell (i := 2) rfl; have c3 := HR1.out.cell (i := 3) rfl; have d3 := HR2.out.cell (i := 3) rfl; have c4 := HR1.out.cell (i := 4) rfl; have d4 := HR2.out.cell (i := 4) rfl; have c5 := HR1.out.cell (i := 5) rfl; have d5 := HR2.out.cell (i := 5) rfl
    go_wp2_with fail
    refine (HasR.mint HM.out HH.out (right_m ha.1 ha.2) (HP.out.grown HB.out) ⟨sf, ut, eq, it, kz, dp, dl, dc⟩ HY.out HF2.out).mono ?_
    rintro e w6 ⟨h3, hb⟩
    clear c0 c1 c2 c3 c4 c5 d0 d1 d2 d3 d4 d5
    replace HR1 := Lib.hid (HR1.out.below hb); replace HR2 := Lib.hid (HR2.out.below hb); replace HX := Lib.hid (HX.out.grown hb); replace HY := Lib.hid (HY.out.grown hb); replace HB := Lib.hid (HB.out.trans (hb.mono HB.out.size))
    clear hb HH
    unfold MintIs at h3
    by_cases hr : (ClaimsV.keyed ⟨sf, ut, eq, it, kz, dp, dl, dc⟩ a).right = true
    · rw [if_pos hr] at h3
      obtain rfl := h3
      obtain ⟨TT, hTT⟩ : ∃ TT, TT = txt (tokenOf (nats ⟨#[109]⟩) (ClaimsV.keyed ⟨sf, ut, eq, it, kz, dp, dl, dc⟩ a).t) := ⟨_, rfl⟩
      rw [← hTT]
      have hu := HU.out hr
      rw [← hTT] at hu
      clear hr hTT HU
      obtain ⟨V, hV⟩ : ∃ V, V = (w6.setCell ⟨r1, 4, none⟩ (.int .i64 0)).setCell ⟨r2, 4, none⟩ (.int .i64 0) := ⟨_, rfl⟩
      have s1 := HR1.out.set 4 (.int .i64 0)
      have s2 := HR2.out.but (But.set r1 4 _ (.int .i64 0)) (Ne.symm HRN.out.1)
      have q1 := s1.but (But.set r2 4 _ (.int .i64 0)) HRN.out.1
      have q2 := s2.set 4 (.int .i64 0)
      have HB7 := Lib.hid (show Below w.heap.size w V by rw [hV]; exact below_at7 (below_at7 HB.out HRN.out.2.1 4 _) HRN.out.2.2 4 _)
      have HSC := Lib.hid (sameClaims_ok (ClaimsV.keyed ⟨se, us, ep, is, ky, cp, cl, cc⟩ 0) (ClaimsV.keyed ⟨sf, ut, eq, it, kz, dp, dl, dc⟩ 0) V (HX0.out.grown HB7.out) (HY0.out.grown HB7.out) HF.out.small.vec HF2.out.small.vec)
      obtain ⟨sb, hsb⟩ : ∃ sb, sb = sameC (ClaimsV.keyed ⟨se, us, ep, is, ky, cp, cl, cc⟩ 0) (ClaimsV.keyed ⟨sf, ut, eq, it, kz, dp, dl, dc⟩ 0) := ⟨_, rfl⟩
      rw [← hsb] at HSC hu
      simp only [ClaimsV.keyed, ClaimsV.val] at HSC
      have c4 := HR1.out.cell (i := 4) rfl; have cf := HR1.out.free 4
      have d4 := s2.cell (i := 4) rfl; have df := s2.free 4
      have e0 := q1.cell (i := 0) rfl; have g0 := q2.cell (i := 0) rfl; have e1 := q1.cell (i := 1) rfl; have g1 := q2.cell (i := 1) rfl; have e2 := q1.cell (i := 2) rfl; have g2 := q2.cell (i := 2) rfl; have e3 := q1.cell (i := 3) rfl; have g3 := q2.cell (i := 3) rfl; have e4 := q1.cell (i := 4) rfl; have g4 := q2.cell (i := 4) rfl; have e5 := q1.cell (i := 5) rfl; have g5 := q2.cell (i := 5) rfl
      clear s1 s2 q1 q2 hsb
      by_cases he : TS = TT
      · subst he
        obtain rfl : sb = true := hu.1 rfl
        clear hu
        go_wp2_with fail
        rw [← hV]
        refine HSC.out.mono ?_
        rintro e w8 ⟨rfl, hb⟩
        replace HB7 := Lib.hid (HB7.out.trans (hb.mono HB7.out.size))
        clear hb hV c4 cf d4 df e0 g0 e1 g1 e2 g2 e3 g3 e4 g4 e5 g5
        go_wp2
        go_ret
        exact ⟨rfl, HB7.out⟩
      · obtain rfl : sb = false := Bool.eq_false_iff.2 fun h => he (hu.2 h)
        have ht : (TS.toList == TT.toList) = false := beq_eq_false_iff_ne.2 (text_list he)

        clear hu
        go_wp2_with fail
        rw [← hV]
        refine HSC.out.mono ?_
        rintro e w8 ⟨rfl, hb⟩
        replace HB7 := Lib.hid (HB7.out.trans (hb.mono HB7.out.size))
        clear hb hV c4 cf d4 df e0 g0 e1 g1 e2 g2 e3 g3 e4 g4 e5 g5
        go_wp2
        go_ret
        exact ⟨rfl, HB7.out⟩
    · rw [if_neg hr] at h3
      obtain ⟨r, rfl, hx⟩ := h3
      obtain ⟨T, u, rfl⟩ := hx.iface
      clear hx hr HU
      go_wp2
      all_goals
        go_ret
        exact ⟨rfl, HB.out⟩
  · rw [if_neg hr] at h3
    obtain ⟨r, rfl, hx⟩ := h3
    obtain ⟨T, u, rfl⟩ := hx.iface
    clear hx hr HU
    have c0 := HR1.out.cell (i := 0) rfl; have d0 := HR2.out.cell (i := 0) rfl; have c1 := HR1.out.cell (i := 1) rfl; have d1 := HR2.out.cell (i := 1) rfl; have c2 := HR1.out.cell (i := 2) rfl; have d2 := HR2.out.cell (i := 2) rfl; have c3 := HR1.out.cell (i := 3) rfl; have d3 := HR2.out.cell (i := 3) rfl; have c4 := HR1.out.cell (i := 4) rfl; have d4 := HR2.out.cell (i := 4) rfl; have c5 := HR1.out.cell (i := 5) rfl; have d5 := HR2.out.cell (i := 5) rfl
    go_wp2_with fail
    refine (HasR.mint HM.out HH.out (right_m ha.1 ha.2) (HP.out.grown HB.out) ⟨sf, ut, eq, it, kz, dp, dl, dc⟩ HY.out HF2.out).mono ?_
    rintro e w6 ⟨h3, hb⟩
    clear c0 c1 c2 c3 c4 c5 d0 d1 d2 d3 d4 d5
    replace HR1 := Lib.hid (HR1.out.below hb); replace HR2 := Lib.hid (HR2.out.below hb); replace HX := Lib.hid (HX.out.grown hb); replace HY := Lib.hid (HY.out.grown hb); replace HB := Lib.hid (HB.out.trans (hb.mono HB.out.size))
    clear hb HH
    unfold MintIs at h3
    by_cases hr : (ClaimsV.keyed ⟨sf, ut, eq, it, kz, dp, dl, dc⟩ a).right = true
    · rw [if_pos hr] at h3
      obtain rfl := h3
      obtain ⟨TT, hTT⟩ : ∃ TT, TT = txt (tokenOf (nats ⟨#[109]⟩) (ClaimsV.keyed ⟨sf, ut, eq, it, kz, dp, dl, dc⟩ a).t) := ⟨_, rfl⟩
      rw [← hTT]
      clear hr hTT
      go_wp2
      all_goals
        go_ret
        exact ⟨rfl, HB.out⟩
    · rw [if_neg hr] at h3
      obtain ⟨r, rfl, hx⟩ := h3
      obtain ⟨T, u, rfl⟩ := hx.iface
      clear hx hr
      go_wp2
      all_goals
        go_ret
        exact ⟨rfl, HB.out⟩
end Go.Proofs.YtajhegjemhegiaaDoor
