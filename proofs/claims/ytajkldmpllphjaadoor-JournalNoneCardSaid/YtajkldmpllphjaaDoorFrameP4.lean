/-
  The program's own reading of spelt bytes of chapter 9, and its Seal. No conditions but those typed.
-/
import Derived.Test.YtajkldmpllphjaaDoorFrameP3
import Derived.Test.YtajkldmpllphjaaDoorPart05
import Derived.OwnWalk
namespace Go.Proofs.YtajkldmpllphjaaDoor
open Go.RowKit FrameMath TextNat CrcMath

theorem frameErr (k c : Int) (w : World) : Calls Tryd.prog 15 #[.string fname, .int .i64 k, .iface 33 (.int .i64 c)] w fun e w' => (∃ x, e = .returned x ∧ ErrAt w' fname k c x) ∧ Below w.heap.size w w' := by
  refine (at_chain fname k [] c _ w rfl).mono ?_
  rintro e w' ⟨r, rfl, h, hb⟩
  exact ⟨⟨r, rfl, ⟨[], h⟩⟩, hb⟩
set_option maxRecDepth 100000 in
set_option maxHeartbeats 4000000 in
theorem sealOk : SealOk := by
  intro s w hT hs
  obtain ⟨n, hn⟩ : ∃ n, n = s.size := ⟨_, rfl⟩
  have e1 : (s.size : Int) = (n : Int) := by omega
  have HN := Lib.hid hn
  rw [← hn] at hs ⊢
  by_cases h : n ≤ 8192
  · have t1 : decide ((8192 : Int) < (n : Int)) = false := decide_eq_false (by omega)
    have t1' : decide (8192 < n) = false := decide_eq_false (by omega)
    simp only [if_pos h]
    have HR := Lib.hid (raw_ok s w hT (by omega))
    have HL := Lib.hid (show (rawF (nats s)).length ≤ 20000 by rw [rawF_len, nats_len]; omega)
    have HO := Lib.hid (rawF_bytes (p := nats s) (by rw [nats_len]; omega) (nats_ok s))
    have HLN := Lib.hid (rawF_len (nats s))
    clear hn hT
    go_enter Tryd.func54, Tryd.ntmps54
    go_wp2_with fail
    refine HR.out.mono ?_
    rintro e w1 ⟨⟨v, rfl, o1⟩, b1⟩
    obtain ⟨g, cap, rfl, hg, hc⟩ := o1.cells (by rw [HLN.out]; omega)
    have HG := Lib.hid (World.block_lt_of_cell? w1 _ (hc 0 _ (List.getElem?_eq_getElem (by rw [HLN.out]; omega))))
    have HC := Lib.hid hc
    have HB := Lib.hid b1
    clear o1 b1 hc hg HR
    go_wp2_with fail
    refine (spread_ok (rawF (nats s)) g cap w1 HL.out HO.out HC.out HG.out).mono ?_
    rintro e w2 ⟨rfl, b2⟩
    have HB2 := Lib.hid (HB.out.trans (b2.mono HB.out.size))
    clear b2
    go_wp2
    go_ret2
    exact ⟨rfl, HB2.out⟩
  · have t1 : decide ((8192 : Int) < (n : Int)) = true := decide_eq_true (by omega)
    have t1' : decide (8192 < n) = true := decide_eq_true (by omega)
    simp only [if_neg h]
    have HE := Lib.hid (frameErr (n : Int) 3 w)
    clear hn hT
    go_enter Tryd.func54, Tryd.ntmps54
    go_wp2_with fail
    refine HE.out.mono ?_
    rintro e w2 ⟨⟨x, rfl, hx⟩, hb⟩
    have HX := Lib.hid hx
    have HB := Lib.hid hb
    clear hx hb HE
    go_wp2
    go_ret2
    exact ⟨⟨x, rfl, HX.out⟩, HB.out⟩
end Go.Proofs.YtajkldmpllphjaaDoor
