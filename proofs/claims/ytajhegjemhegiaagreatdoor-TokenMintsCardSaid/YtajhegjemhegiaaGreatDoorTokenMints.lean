/-
  TokenMints' contract. The conditions: the program's contracts; mac's table; what came in lies in memory.
-/
import Derived.Test.YtajhegjemhegiaaGreatDoorPart21
import Derived.Test.YtajhegjemhegiaaGreatDoorTokenGreat
import Derived.Test.YtajhegjemhegiaaGreatDoorPart27
import Derived.Test.YtajhegjemhegiaaGreatDoorPart07
namespace Go.Proofs.YtajhegjemhegiaaGreatDoor
open Go.RowKit TextNat TokenMath

theorem token_some (m : List Nat) (v : WireMath.ClaimsT) : ¬ txt (tokenOf m v) = ⟨#[]⟩ := fun h => by
  have := congrArg ByteArray.size h
  rw [txt_len] at this
  unfold tokenOf at this
  rw [tok_len (tag_len m v)] at this
  exact absurd this (by show ¬ _ + 44 = 0; omega)
set_option maxRecDepth 100000 in
set_option maxHeartbeats 8000000 in
theorem mints_true {R : Rng} (hN : RNewOk R) (hM : MintOk R) (hQ : ReadTOk R) (hZ : TNoneOk) (x : ClaimsV) (c : Int) (w : World) (hP : Parts w) (hx : Ints w x.cp x.cl) (hf : x.few) (hc : I64 c) :
    Calls Tryz.prog 3 #[.int .i64 c, x.val] w fun e w' => e = .returned (.bool true) ∧ Below w.heap.size w w' := by
  have HG := Lib.hid (great_ok x)
  have HZ := Lib.hid (fun w (h : Ints w x.cp x.cl) => hZ.1 x w h hf)
  have HT := Lib.hid (fun w1 (h : Ints w1 x.cp x.cl) => refToken12 ⟨#[109]⟩ (x.keyed c) w1 (by decide) h hf.small.vec)
  obtain ⟨se, us, ep, is, ky, cp, cl, cc⟩ := x
  simp only [ClaimsV.val] at *
  have HN := Lib.hid hN
  have HM := Lib.hid hM
  have HQ := Lib.hid hQ
  have HP := Lib.hid hP
  have HF := Lib.hid hf
  have HX := Lib.hid hx
  have HX0 := Lib.hid hx
  have HK := Lib.hid hc
  clear hN hM hQ hP hf hx hc hZ
  go_enter Tryz.func3, Tryz.ntmps3
  go_wp2_with fail
  obtain ⟨W, hW⟩ : ∃ W, W = w.alloc (.cells #[.string se, .string us, .int .i64 ep, .int .i64 is, .int .i64 ky, .slice cp cl.length cc] 25) := ⟨_, rfl⟩
  rw [← hW]
  have hb : Below w.heap.size w W := by rw [hW]; exact (Below.refl _ _).alloc (Nat.le_refl _) _
  have HRow := Lib.hid (show Row W w.heap.size [.string se, .string us, .int .i64 ep, .int .i64 is, .int .i64 ky, .slice cp cl.length cc] 25 by rw [hW]; exact Row.new w _ _)
  replace HX := Lib.hid (HX.out.grown hb)
  have HB := Lib.hid hb
  clear hb hW
  refine (awake_true HN.out HM.out HQ.out W (HP.out.grown HB.out)).mono ?_
  rintro e w1 ⟨rfl, hb⟩
  replace HRow := Lib.hid (HRow.out.below hb); replace HX := Lib.hid (HX.out.grown hb); replace HB := Lib.hid (HB.out.trans (hb.mono HB.out.size))
  clear hb
  go_wp2_with fail
  refine (HN.out ⟨#[109]⟩ c _ (by decide) HK.out).mono ?_
  rintro e w2 ⟨h1, hb⟩
  replace HRow := Lib.hid (HRow.out.below hb); replace HX := Lib.hid (HX.out.grown hb); replace HB := Lib.hid (HB.out.trans (hb.mono HB.out.size))
  clear hb
  by_cases hr : rightB ⟨#[109]⟩ c = true
  · rw [if_pos hr] at h1
    obtain ⟨b, rfl, h1⟩ := h1
    have HH := Lib.hid h1
    have HR := Lib.hid hr
    clear h1 hr
    go_wp2_with fail
    refine (ref_right ⟨#[109]⟩ c _ (by decide)).mono ?_
    rintro e w3 ⟨rfl, hw⟩
    rw [hw]
    clear hw
    rw [HR.out]
    have c0 := HRow.out.cell (i := 0) rfl; have c1 := HRow.out.cell (i := 1) rfl; have c2 := HRow.out.cell (i := 2) rfl; have c3 := HRow.out.cell (i := 3) rfl; have c4 := HRow.out.cell (i := 4) rfl; have c5 := HRow.out.cell (i := 5) rfl
    go_wp2_with fail
    refine (HG.out _).mono ?_
    rintro e w4 ⟨rfl, hb⟩
    clear c0 c1 c2 c3 c4 c5
    replace HRow := Lib.hid (HRow.out.below hb); replace HX := Lib.hid (HX.out.grown hb); replace HB := Lib.hid (HB.out.trans (hb.mono HB.out.size))
    replace HH := Lib.hid (HH.out.below hb)
    clear hb
    by_cases hg : greatC ⟨se, us, ep, is, ky, cp, cl, cc⟩ = true
    · rw [hg]
      clear hg
      go_wp2
      go_ret
      exact ⟨rfl, HB.out⟩
    rw [Bool.eq_false_iff.2 hg]
    clear hg
    have c0 := HRow.out.cell (i := 0) rfl; have c1 := HRow.out.cell (i := 1) rfl; have c2 := HRow.out.cell (i := 2) rfl; have c3 := HRow.out.cell (i := 3) rfl; have c4 := HRow.out.cell (i := 4) rfl; have c5 := HRow.out.cell (i := 5) rfl
    go_wp2_with fail
    refine (HasR.mint HM.out HH.out HR.out (HP.out.grown HB.out) ⟨se, us, ep, is, ky, cp, cl, cc⟩ HX.out HF.out).mono ?_
    rintro e w5 ⟨h3, hb⟩
    clear c0 c1 c2 c3 c4 c5
    replace HRow := Lib.hid (HRow.out.below hb); replace HX := Lib.hid (HX.out.grown hb); replace HB := Lib.hid (HB.out.trans (hb.mono HB.out.size))
    clear hb HH
    unfold MintIs at h3
    obtain ⟨V, hV⟩ : ∃ V, V = w5.setCell ⟨w.heap.size, 4, none⟩ (.int .i64 c) := ⟨_, rfl⟩
    have s1 := HRow.out.set 4 (.int .i64 c)
    have HB7 := Lib.hid (show Below w.heap.size w V by rw [hV]; exact below_at8 HB.out (Nat.le_refl _) 4 _)
    have HTV := Lib.hid (HT.out V (HX0.out.grown HB7.out))
    have hbt := But.set w.heap.size 4 w5 (.int .i64 c)
    rw [← hV] at hbt
    have HBt := Lib.hid hbt
    have HLt := Lib.hid HRow.out.lt
    have c4 := HRow.out.cell (i := 4) rfl
    have cf := HRow.out.free 4
    have e0 := s1.cell (i := 0) rfl; have e1 := s1.cell (i := 1) rfl; have e2 := s1.cell (i := 2) rfl; have e3 := s1.cell (i := 3) rfl; have e4 := s1.cell (i := 4) rfl; have e5 := s1.cell (i := 5) rfl
    clear s1 hbt
    by_cases hm : (ClaimsV.keyed ⟨se, us, ep, is, ky, cp, cl, cc⟩ c).right = true
    · rw [if_pos hm] at h3
      obtain rfl := h3
      have ht : tokText ⟨#[109]⟩ (ClaimsV.keyed ⟨se, us, ep, is, ky, cp, cl, cc⟩ c) = txt (tokenOf (nats ⟨#[109]⟩) (ClaimsV.keyed ⟨se, us, ep, is, ky, cp, cl, cc⟩ c).t) := if_pos hm
      rw [ht] at HTV
      have hne := token_some (nats ⟨#[109]⟩) (ClaimsV.keyed ⟨se, us, ep, is, ky, cp, cl, cc⟩ c).t
      obtain ⟨TS, hTS⟩ : ∃ TS, TS = txt (tokenOf (nats ⟨#[109]⟩) (ClaimsV.keyed ⟨se, us, ep, is, ky, cp, cl, cc⟩ c).t) := ⟨_, rfl⟩
      rw [← hTS] at HTV hne ⊢
      have hem := some_list hne
      simp only [ClaimsV.keyed] at HTV
      clear ht hm hne hTS
      go_wp2_with fail
      rw [← hV]
      refine HTV.out.mono ?_
      rintro e w8 ⟨rfl, hb⟩
      replace HB7 := Lib.hid (HB7.out.trans (hb.mono HB7.out.size))
      clear hb hV c4 cf e0 e1 e2 e3 e4 e5
      go_wp2
      go_ret
      exact ⟨rfl, HB7.out⟩
    · rw [if_neg hm] at h3
      obtain ⟨r, rfl, hxe⟩ := h3
      obtain ⟨T, u, rfl⟩ := hxe.iface
      have HE := Lib.hid hxe
      have ht : tokText ⟨#[109]⟩ (ClaimsV.keyed ⟨se, us, ep, is, ky, cp, cl, cc⟩ c) = ⟨#[]⟩ := if_neg hm
      rw [ht] at HTV
      simp only [ClaimsV.keyed] at HTV
      clear ht hm hxe
      go_wp2_with fail
      rw [← hV]
      refine HTV.out.mono ?_
      rintro e w8 ⟨rfl, hb⟩
      replace HB7 := Lib.hid (HB7.out.trans (hb.mono HB7.out.size))
      have HE8 : Hid (ErrIs w8 1 (.iface T u)) := Lib.hid ((HE.out.but_row HBt.out HRow.out).below hb)
      clear hb hV c4 cf e0 e1 e2 e3 e4 e5
      go_wp2_with fail
      refine (is_err HE8.out 1).mono ?_
      rintro e w9 ⟨rfl, hw⟩
      rw [hw]
      clear hw
      go_wp2
      go_ret
      exact ⟨rfl, HB7.out⟩
  · rw [if_neg hr] at h1
    obtain ⟨r, rfl, hxe⟩ := h1
    obtain ⟨T, u, rfl⟩ := hxe.iface
    have HR := Lib.hid (Bool.eq_false_iff.2 hr)
    clear hxe hr
    go_wp2_with fail
    refine (ref_right ⟨#[109]⟩ c _ (by decide)).mono ?_
    rintro e w3 ⟨rfl, hw⟩
    rw [hw]
    clear hw
    rw [HR.out]
    have c0 := HRow.out.cell (i := 0) rfl; have c1 := HRow.out.cell (i := 1) rfl; have c2 := HRow.out.cell (i := 2) rfl; have c3 := HRow.out.cell (i := 3) rfl; have c4 := HRow.out.cell (i := 4) rfl; have c5 := HRow.out.cell (i := 5) rfl
    go_wp2_with fail
    refine (HZ.out _ HX.out).mono ?_
    rintro e w4 ⟨⟨r4, rfl, hx4⟩, hb⟩
    obtain ⟨T4, u4, rfl⟩ := hx4.iface
    have HE := Lib.hid hx4
    clear c0 c1 c2 c3 c4 c5
    replace HRow := Lib.hid (HRow.out.below hb); replace HX := Lib.hid (HX.out.grown hb); replace HB := Lib.hid (HB.out.trans (hb.mono HB.out.size))
    clear hb hx4
    go_wp2_with fail
    refine (is_err HE.out 1).mono ?_
    rintro e w5 ⟨rfl, hw⟩
    rw [hw]
    clear hw
    go_wp2
    go_ret
    exact ⟨rfl, HB.out⟩
end Go.Proofs.YtajhegjemhegiaaGreatDoor
