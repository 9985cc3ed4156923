/-
  The document's example of chapter 8. The conditions: the program's contracts.
-/
import Derived.Test.YtfdldjhndfohhaaDoorBlockLaws
namespace Go.Proofs.YtfdldjhndfohhaaDoor
open Go.RowKit BlockMath TextNat

set_option maxRecDepth 100000 in
set_option maxHeartbeats 4000000 in
theorem awake_true {D : Dev} (hN : NewOk D) (hA : AppendOk D) (hS : SyncOk D) (hC : CrashOk D) (hL : LenOk D) (hR : ReadOk D) (w : World) : Calls Tryd.prog 4 #[] w fun e w' => e = .returned (.bool true) ∧ Below w.heap.size w w' := by
  replace hN := Lib.hid (hN 9 w (by decide))
  replace hA := Lib.hid hA
  replace hS := Lib.hid hS
  replace hC := Lib.hid hC
  replace hL := Lib.hid hL
  replace hR := Lib.hid hR
  go_enter Tryd.func4, Tryd.ntmps4
  go_wp2_with fail
  refine hN.out.mono ?_
  rintro e w1 ⟨h1, hb1⟩
  rw [if_pos (by decide)] at h1
  obtain ⟨b, rfl, hd⟩ := h1
  have HB := Lib.hid hb1
  have HD := Lib.hid hd
  have OK := Lib.hid (Ok.new (r := 9) (by decide) (by decide))
  have E := Lib.hid (Eq.refl (new 9))
  clear hb1 hd hN
  generalize hg : new 9 = d at HD OK
  replace E := Lib.hid hg.symm
  clear hg
  go_wp2_with fail
  refine (append_has hA.out HD.out HB.out.size OK.out _ (by decide)).mono ?_
  rintro e w' ⟨⟨x, rfl, hx⟩, hd, hb⟩
  obtain rfl := hx.zero (by rw [E.out]; decide)
  clear hx
  replace HB := Lib.hid (HB.out.trans hb)
  replace HD := Lib.hid hd
  clear hd hb
  replace OK := Lib.hid (OK.out.append ⟨#[97, 98]⟩)
  replace E := Lib.hid (show (append ⟨#[97, 98]⟩ d).2 = _ from congrArg (fun d => (append ⟨#[97, 98]⟩ d).2) E.out)
  generalize hg : (append ⟨#[97, 98]⟩ d).2 = d' at HD OK E
  clear hg d
  rename Dk => d
  go_wp2_with fail
  refine (sync_has hS.out HD.out HB.out.size OK.out).mono ?_
  rintro e w' ⟨⟨x, rfl, hx⟩, hd, hb⟩
  obtain rfl := hx.zero (by rw [E.out]; decide)
  clear hx
  replace HB := Lib.hid (HB.out.trans hb)
  replace HD := Lib.hid hd
  clear hd hb
  replace OK := Lib.hid (OK.out.sync)
  replace E := Lib.hid (show (sync d).2 = _ from congrArg (fun d => (sync d).2) E.out)
  generalize hg : (sync d).2 = d' at HD OK E
  clear hg d
  rename Dk => d
  go_wp2_with fail
  refine (append_has hA.out HD.out HB.out.size OK.out _ (by decide)).mono ?_
  rintro e w' ⟨⟨x, rfl, hx⟩, hd, hb⟩
  obtain rfl := hx.zero (by rw [E.out]; decide)
  clear hx
  replace HB := Lib.hid (HB.out.trans hb)
  replace HD := Lib.hid hd
  clear hd hb
  replace OK := Lib.hid (OK.out.append ⟨#[99, 100]⟩)
  replace E := Lib.hid (show (append ⟨#[99, 100]⟩ d).2 = _ from congrArg (fun d => (append ⟨#[99, 100]⟩ d).2) E.out)
  generalize hg : (append ⟨#[99, 100]⟩ d).2 = d' at HD OK E
  clear hg d
  rename Dk => d
  go_wp2_with fail
  refine (crash_has hC.out HD.out HB.out.size OK.out 1 (by decide) _ (by decide)).mono ?_
  rintro e w' ⟨rfl, hd, hb⟩
  replace HB := Lib.hid (HB.out.trans hb)
  replace HD := Lib.hid hd
  clear hd hb
  replace OK := Lib.hid (OK.out.crash 1 ⟨#[0]⟩)
  replace E := Lib.hid (show crash 1 ⟨#[0]⟩ d = _ from congrArg (fun d => crash 1 ⟨#[0]⟩ d) E.out)
  generalize hg : crash 1 ⟨#[0]⟩ d = d' at HD OK E
  clear hg d
  rename Dk => d
  go_wp2_with fail
  refine (len_has hL.out HD.out OK.out).mono ?_
  rintro e w' ⟨rfl, hd, hb⟩
  replace HB := Lib.hid (HB.out.trans (hb.mono HB.out.size))
  replace HD := Lib.hid hd
  clear hd hb
  have hz : size d = 3 := by rw [E.out]; decide
  rw [hz]
  go_wp2_with fail
  refine (read_has hR.out HD.out OK.out 0 3 (by decide) (by decide)).mono ?_
  rintro e w' ⟨⟨x, rfl, hx⟩, hd, hb⟩
  obtain rfl := hx.zero (by rw [E.out]; decide)
  have hq : (read 0 3 d).1 = ⟨#[97, 98, 0]⟩ := by rw [E.out]; decide
  rw [hq]
  replace HB := Lib.hid (HB.out.trans (hb.mono HB.out.size))
  clear hd hb hx hz hq
  go_wp2
  go_ret
  exact ⟨rfl, HB.out⟩
end Go.Proofs.YtfdldjhndfohhaaDoor
