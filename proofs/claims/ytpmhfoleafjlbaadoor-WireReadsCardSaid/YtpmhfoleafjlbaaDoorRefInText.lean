/-
  The contract of the document's own reader of chapter 5: Text. The conditions: the reader stands where it is said; texts of at most 200,000 bytes.
-/
import Derived.Test.YtpmhfoleafjlbaaDoorRefIn2
namespace Go.Proofs.YtpmhfoleafjlbaaDoor
open Go.RowKit TextNat

set_option maxRecDepth 100000 in
set_option maxHeartbeats 4000000 in
theorem refText (pb : Nat) (s : ByteArray) (st : WireMath.At) (most : Int) (w : World) (h : RefAt w pb s st) (hs : s.size ≤ 200000) (ha : st.at_ ≤ s.size) :
    Calls Tryd.prog 19 #[.pointer (some ⟨pb, 0, none⟩), .int .i64 most] w fun e w' => e = .returned (.string (txt (WireMath.readText (nats s) st most).1)) ∧ RefAt w' pb s (WireMath.readText (nats s) st most).2 ∧ But pb w w' := by
  have HN := Lib.hid (refNum pb s st most w h hs ha)
  obtain ⟨at_, bad⟩ := st
  have c1 : w.cell? ⟨pb, 1, none⟩ = some (.int .i64 (at_ : Int)) := h.at_
  cases bad with
  | some b =>
    have hr : WireMath.readNum (nats s) ⟨at_, some b⟩ most = (0, ⟨at_, some b⟩) := rfl
    rw [hr] at HN
    have ht : WireMath.readText (nats s) ⟨at_, some b⟩ most = ([], ⟨at_, some b⟩) := rfl
    rw [ht]
    have t1 : decide ((0 : Int) ≤ (b : Int)) = true := decide_eq_true (by omega)
    clear h hr ht
    go_enter Tryd.func19, Tryd.ntmps19
    go_wp2_with (go_at_call 26; refine HN.out.mono ?_; rintro e w2 ⟨rfl, hR, hb⟩; have c2 : w2.cell? ⟨pb, 2, none⟩ = some (.int .i64 (b : Int)) := hR.bad)
    go_ret
    exact ⟨rfl, hR, hb⟩
  | none =>
    simp only at ha
    rcases WireMath.readNum_cases (nats s) at_ most (nats_lt s) (by rw [nats_len]; exact ha) with ⟨v, k, hr, hk, hv, _⟩ | hr
    · rw [hr] at HN
      rw [nats_len] at hk
      unfold WireMath.top at hv
      obtain ⟨a2, ha2⟩ : ∃ a2, a2 = at_ + k := ⟨_, rfl⟩
      rw [← ha2] at HN hk hr
      by_cases hf : s.size < a2 + v
      · have ht : WireMath.readText (nats s) ⟨at_, none⟩ most = ([], ⟨at_, some at_⟩) := by unfold WireMath.readText; simp only [hr, nats_len]; rw [if_pos hf]
        rw [ht]
        have t2 : decide ((s.size : Int) - (a2 : Int) < (v : Int)) = true := decide_eq_true (by omega)
        clear h hr ht ha2
        go_enter Tryd.func19, Tryd.ntmps19
        go_wp2_with (go_at_call 26; refine HN.out.mono ?_; rintro e w2 ⟨rfl, hR, hb⟩; have c2 : w2.cell? ⟨pb, 2, none⟩ = some (.int .i64 (-1)) := hR.bad; have c1' : w2.cell? ⟨pb, 1, none⟩ = some (.int .i64 (a2 : Int)) := hR.at_; have c0 := hR.text; have HR := Lib.hid hR; have HB := Lib.hid hb; clear hR hb c1)
        go_quiet (fail)
        obtain ⟨wa, hwa⟩ : ∃ wa, wa = w2.drewN nq := ⟨_, rfl⟩
        have HRa := Lib.hid (show RefAt wa pb s ⟨a2, none⟩ by rw [hwa]; exact HR.out.drewN _)
        have HBa := Lib.hid (show But pb w wa by rw [hwa]; exact HB.out.drewN _)
        have c0a := HRa.out.text
        have c1a : wa.cell? ⟨pb, 1, none⟩ = some (.int .i64 (a2 : Int)) := HRa.out.at_
        have c2a : wa.cell? ⟨pb, 2, none⟩ = some (.int .i64 (-1)) := HRa.out.bad
        have g1 := HRa.out.free1
        have g2 := HRa.out.free2
        rw [← hwa]
        clear hwa HR HB c0 c1' c2
        go_wp2
        go_ret
        exact ⟨rfl, HRa.out.setAt.setBad, (HBa.out.trans (But.set pb 1 wa _)).trans (But.set pb 2 _ _)⟩
      · have ht : WireMath.readText (nats s) ⟨at_, none⟩ most = (((nats s).drop a2).take v, ⟨a2 + v, none⟩) := by unfold WireMath.readText; simp only [hr, nats_len]; rw [if_neg hf]
        rw [ht, ← extract_txt]
        have t2 : decide ((s.size : Int) - (a2 : Int) < (v : Int)) = false := decide_eq_false (by omega)
        clear h hr ht ha2
        go_enter Tryd.func19, Tryd.ntmps19
        go_wp2_with (go_at_call 26; refine HN.out.mono ?_; rintro e w2 ⟨rfl, hR, hb⟩; have c2 : w2.cell? ⟨pb, 2, none⟩ = some (.int .i64 (-1)) := hR.bad; have c1' : w2.cell? ⟨pb, 1, none⟩ = some (.int .i64 (a2 : Int)) := hR.at_; have c0 := hR.text; have HR := Lib.hid hR; have HB := Lib.hid hb; clear hR hb c1)
        go_quiet (fail)
        obtain ⟨wa, hwa⟩ : ∃ wa, wa = w2.drewN nq := ⟨_, rfl⟩
        have HRa := Lib.hid (show RefAt wa pb s ⟨a2, none⟩ by rw [hwa]; exact HR.out.drewN _)
        have HBa := Lib.hid (show But pb w wa by rw [hwa]; exact HB.out.drewN _)
        have c0a := HRa.out.text
        have c1a : wa.cell? ⟨pb, 1, none⟩ = some (.int .i64 (a2 : Int)) := HRa.out.at_
        have c2a : wa.cell? ⟨pb, 2, none⟩ = some (.int .i64 (-1)) := HRa.out.bad
        have g1 := HRa.out.free1
        have g2 := HRa.out.free2
        rw [← hwa]
        clear hwa HR HB c0 c1' c2
        obtain ⟨a3, ha3⟩ : ∃ a3, a3 = a2 + v := ⟨_, rfl⟩
        go_wp2
        have h3 : (a2 : Int) + (v : Int) = (a3 : Int) := by omega
        obtain ⟨wb, hwb⟩ : ∃ wb, wb = wa.setCell ⟨pb, 1, none⟩ (.int .i64 ((a2 : Int) + (v : Int))) := ⟨_, rfl⟩
        have HRb := Lib.hid (show RefAt wb pb s ⟨a3, none⟩ by rw [hwb, h3]; exact HRa.out.setAt)
        have HBb := Lib.hid (show But pb w wb by rw [hwb]; exact HBa.out.trans (But.set pb 1 wa _))
        have c0b := HRb.out.text
        have c1b : wb.cell? ⟨pb, 1, none⟩ = some (.int .i64 (a3 : Int)) := HRb.out.at_
        rw [← hwb]
        clear hwb h3 HRa HBa c0a c1a c2a g1 g2
        have e1 : (a3 : Int) - (v : Int) = (a2 : Int) := by omega
        have e2 : wrap64 ((a3 : Int) - (v : Int)) = (a2 : Int) := by unfold wrap64; omega
        have e3 : a2 ≤ a3 := by omega
        have e4 : a3 ≤ s.size := by omega
        have HA3 := Lib.hid ha3
        clear ha3
        go_quiet (fail)
        go_wp2
        go_ret
        rw [← HA3.out]
        exact ⟨rfl, HRb.out.drewN _, HBb.out.drewN _⟩
    · have ht : WireMath.readText (nats s) ⟨at_, none⟩ most = ([], ⟨at_, some at_⟩) := by unfold WireMath.readText; simp only [hr]
      rw [hr] at HN
      rw [ht]
      have t1 : decide ((0 : Int) ≤ (at_ : Int)) = true := decide_eq_true (by omega)
      clear h hr ht
      go_enter Tryd.func19, Tryd.ntmps19
      go_wp2_with (go_at_call 26; refine HN.out.mono ?_; rintro e w2 ⟨rfl, hR, hb⟩; have c2 : w2.cell? ⟨pb, 2, none⟩ = some (.int .i64 (at_ : Int)) := hR.bad)
      go_ret
      exact ⟨rfl, hR, hb⟩
end Go.Proofs.YtpmhfoleafjlbaaDoor
