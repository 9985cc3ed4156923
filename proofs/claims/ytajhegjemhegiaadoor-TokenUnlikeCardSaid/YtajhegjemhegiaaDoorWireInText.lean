/-
  The contract of the program's Text of an In of chapter 5. The conditions: the reader stands where it is said; texts of at most 200,000 bytes.
-/
import Derived.Test.YtajhegjemhegiaaDoorWireIn
import Derived.Test.YtajhegjemhegiaaDoorClone
namespace Go.Proofs.YtajhegjemhegiaaDoor
open Go.RowKit TextNat

theorem clone_ok (s : ByteArray) (w : World) (hs : s.size ≤ 281474976710656) : Calls Tryd.prog 18 #[.string s] w fun e w' => e = .returned (.string s) ∧ Below w.heap.size w w' := by
  have HC := Lib.hid (Tryd.stringslite_Clone s w hs)
  go_enter Tryd.func18, Tryd.ntmps18
  go_wp2_with (go_at_call 32; refine HC.out.mono ?_; rintro e w2 ⟨rfl, hb⟩)
  go_ret
  exact ⟨rfl, hb⟩
theorem wrap64_nat (a : Nat) (h : a < 9223372036854775808) : wrap64 (a : Int) = (a : Int) := by unfold wrap64; omega
theorem InAt.setSame {w : World} {pb : Nat} {s : ByteArray} {st : WireMath.At} (h : InAt w pb s st) : InAt (w.setCell ⟨pb, 1, none⟩ (.int .i64 (st.at_ : Int))) pb s st :=
  ⟨(World.cell?_setCell_other _ ⟨pb, 1, none⟩ ⟨pb, 0, none⟩ _ (by simp)).trans h.text, World.cell?_setCell_same _ _ _ h.at_, (World.cell?_setCell_other _ ⟨pb, 1, none⟩ ⟨pb, 2, none⟩ _ (by simp)).trans h.fault, by rw [World.frozen?_setCell]; exact h.free1, by rw [World.frozen?_setCell]; exact h.free2, h.wf⟩

set_option maxRecDepth 100000 in
set_option maxHeartbeats 4000000 in
theorem inText_ok (pb : Nat) (s : ByteArray) (st : WireMath.At) (most : Int) (w : World) (h : InAt w pb s st) (hs : s.size ≤ 140737488355328) (ha : st.at_ ≤ s.size) :
    Calls Tryd.prog 54 #[.pointer (some ⟨pb, 0, none⟩), .int .i64 most] w fun e w' => e = .returned (.string (txt (WireMath.readText (nats s) st most).1)) ∧ InAt w' pb s (WireMath.readText (nats s) st most).2 ∧ But pb w w' := by
  have HN := Lib.hid (inNum_ok pb s st most w h hs ha)
  obtain ⟨at_, bad⟩ := st
  have c1 : w.cell? ⟨pb, 1, none⟩ = some (.int .i64 (at_ : Int)) := h.at_
  have c2 := h.fault
  cases bad with
  | some b =>
    have c2' : w.cell? ⟨pb, 2, none⟩ = some (.bool true) := c2
    have ht : WireMath.readText (nats s) ⟨at_, some b⟩ most = ([], ⟨at_, some b⟩) := rfl
    rw [ht]
    have HR := Lib.hid h
    clear h c2 ht HN
    go_enter Tryd.func54, Tryd.ntmps54
    go_wp2
    go_ret
    exact ⟨rfl, HR.out, But.refl _ _⟩
  | none =>
    have c2' : w.cell? ⟨pb, 2, none⟩ = some (.bool false) := c2
    simp only at ha
    have HL := Lib.hid (fun w1 st1 (h1 : InAt w1 pb s st1) (ha1 : st1.at_ ≤ s.size) => inLeft_ok pb s st1 w1 h1 hs ha1)
    have HRf := Lib.hid (fun w1 st1 (h1 : InAt w1 pb s st1) => inRefuse_ok pb at_ s st1 w1 h1)
    rcases WireMath.readNum_cases (nats s) at_ most (nats_lt s) (by rw [nats_len]; exact ha) with ⟨v, k, hr, hk, hv, _⟩ | hr
    · rw [hr] at HN
      rw [nats_len] at hk
      unfold WireMath.top at hv
      obtain ⟨a2, ha2⟩ : ∃ a2, a2 = at_ + k := ⟨_, rfl⟩
      rw [← ha2] at HN hk hr
      obtain ⟨lf, hlf⟩ : ∃ lf, lf = leftOf s ⟨a2, none⟩ := ⟨_, rfl⟩
      have hlf2 : lf = s.size - a2 := by rw [hlf]; rfl
      have HLF := Lib.hid hlf
      by_cases hf : s.size < a2 + v
      · have ht : WireMath.readText (nats s) ⟨at_, none⟩ most = ([], ⟨at_, some at_⟩) := by unfold WireMath.readText; simp only [hr, nats_len]; rw [if_pos hf]
        rw [ht]
        have t2 : decide ((lf : Int) < (v : Int)) = true := decide_eq_true (by omega)
        have t2' : decide (lf < v) = true := decide_eq_true (by omega)
        clear h hr ht ha2 c2 hlf hlf2
        go_enter Tryd.func54, Tryd.ntmps54
        go_wp2_with (first
          | (go_at_call 55; refine HN.out.mono ?_; rintro e w2 ⟨rfl, hR, hb⟩; have HR := Lib.hid hR; have HB := Lib.hid hb; clear hR hb)
          | (go_at_call 74; refine (HL.out _ _ HR.out hk).mono ?_; rw [← HLF.out]; rintro e w3 ⟨rfl, nn, rfl⟩; have HR3 := Lib.hid (HR.out.drewN nn))
          | (go_at_call 75; refine (HRf.out _ _ HR3.out).mono ?_; rintro e w4 ⟨rfl, hi, hb⟩))
        go_ret
        exact ⟨rfl, hi, (HB.out.drewN nn).trans hb⟩
      · have ht : WireMath.readText (nats s) ⟨at_, none⟩ most = (((nats s).drop a2).take v, ⟨a2 + v, none⟩) := by unfold WireMath.readText; simp only [hr, nats_len]; rw [if_neg hf]
        obtain ⟨a3, ha3⟩ : ∃ a3, a3 = a2 + v := ⟨_, rfl⟩
        have hex : s.extract a2 a3 = txt (((nats s).drop a2).take v) := by
          apply nats_inj
          rw [nats_extract, nats_txt _ (fun b hb => nats_lt s b (List.mem_of_mem_drop (List.mem_of_mem_take hb))), show a3 - a2 = v by omega]
        rw [ht, ← ha3, ← hex]
        have t2 : decide ((lf : Int) < (v : Int)) = false := decide_eq_false (by omega)
        have t2' : decide (lf < v) = false := decide_eq_false (by omega)
        have e3 : a2 ≤ a3 := by omega
        have e4 : a3 ≤ s.size := by omega
        have hcs : (s.extract a2 a3).size ≤ 281474976710656 := by rw [ByteArray.size_extract]; omega
        have HCl := Lib.hid (fun w1 => clone_ok (s.extract a2 a3) w1 hcs)
        clear hcs
        have f5 : IntKind.i64.wrap (a2 : Int) = (a2 : Int) := by rw [IntKind.wrap_i64]; omega
        have f1 : (a2 : Int) + (v : Int) = (a3 : Int) := by omega
        have f3 : (a3 : Int) - (v : Int) = (a2 : Int) := by omega
        have l2 : a2 < 9223372036854775808 := by omega
        have l3 : a3 < 9223372036854775808 := by omega
        have f2 : wrap64 ((a2 : Int) + (v : Int)) = (a3 : Int) := by rw [f1]; exact wrap64_nat a3 l3
        have f4 : wrap64 ((a3 : Int) - (v : Int)) = (a2 : Int) := by rw [f3]; exact wrap64_nat a2 l2
        clear l2 l3
        clear h hr ht ha2 c2 hlf hlf2 ha3 hex
        go_enter Tryd.func54, Tryd.ntmps54
        go_wp2_with (first
          | (go_at_call 55; refine HN.out.mono ?_; rintro e w2 ⟨rfl, hR, hb⟩; have HR := Lib.hid hR; have HB := Lib.hid hb; clear hR hb)
          | (go_at_call 74; refine (HL.out _ _ HR.out hk).mono ?_; rw [← HLF.out]; rintro e w3 ⟨rfl, nn, rfl⟩; have HR3 := Lib.hid (HR.out.drewN nn); have x1 := HR3.out.at_; have y1 := HR3.out.free1))
        obtain ⟨W4, hW4⟩ : ∃ W4, W4 = (w2.drewN nn).setCell ⟨pb, 1, none⟩ (.int .i64 (a3 : Int)) := ⟨_, rfl⟩
        have HR4 := Lib.hid (show InAt W4 pb s ⟨a3, none⟩ by rw [hW4]; exact HR3.out.setAt)
        have HB4 := Lib.hid (show But pb w W4 by rw [hW4]; exact (HB.out.drewN nn).trans (But.set pb 1 _ _))
        rw [← hW4]
        have x0 := HR4.out.text
        have x1 := HR4.out.at_
        clear hW4 HR HR3 HB
        go_still_tail 15, (by kernel_rfl)
        change wpList _ _ _ _ _ W4.drew
        go_wp2_with (go_at_call 18; refine (HCl.out _).mono ?_; rintro e w5 ⟨rfl, hb⟩; have HB5 := Lib.hid (Below.trans (Below.refl W4.heap.size W4).drew hb); clear hb)
        all_goals
          go_ret
          exact ⟨rfl, HR4.out.below HB5.out, HB4.out.trans (But.of HB5.out)⟩
    · have ht : WireMath.readText (nats s) ⟨at_, none⟩ most = ([], ⟨at_, some at_⟩) := by unfold WireMath.readText; simp only [hr]
      rw [hr] at HN
      rw [ht]
      obtain ⟨lf, hlf⟩ : ∃ lf, lf = leftOf s ⟨at_, some at_⟩ := ⟨_, rfl⟩
      have hlf2 : lf = 0 := by rw [hlf]; rfl
      have HLF := Lib.hid hlf
      have t2 : decide ((lf : Int) < 0) = false := decide_eq_false (by omega)
      have f5 : IntKind.i64.wrap (at_ : Int) = (at_ : Int) := by rw [IntKind.wrap_i64]; omega
      have f1 : (at_ : Int) + 0 = (at_ : Int) := by omega
      have f4 : (at_ : Int) - 0 = (at_ : Int) := by omega
      have f2 : wrap64 (at_ : Int) = (at_ : Int) := wrap64_nat at_ (by omega)
      have HCl := Lib.hid (fun w1 => clone_ok ByteArray.empty w1 (by decide))
      clear h hr ht c2 hlf hlf2
      go_enter Tryd.func54, Tryd.ntmps54
      go_wp2_with (first
        | (go_at_call 55; refine HN.out.mono ?_; rintro e w2 ⟨rfl, hR, hb⟩; have HR := Lib.hid hR; have HB := Lib.hid hb; clear hR hb)
        | (go_at_call 74; refine (HL.out _ _ HR.out ha).mono ?_; rw [← HLF.out]; rintro e w3 ⟨rfl, nn, rfl⟩; have HR3 := Lib.hid (HR.out.drewN nn); have x1 := HR3.out.at_; have y1 := HR3.out.free1))
      obtain ⟨W4, hW4⟩ : ∃ W4, W4 = (w2.drewN nn).setCell ⟨pb, 1, none⟩ (.int .i64 (at_ : Int)) := ⟨_, rfl⟩
      have HR4 := Lib.hid (show InAt W4 pb s ⟨at_, some at_⟩ by rw [hW4]; exact HR3.out.setSame)
      have HB4 := Lib.hid (show But pb w W4 by rw [hW4]; exact (HB.out.drewN nn).trans (But.set pb 1 _ _))
      rw [← hW4]
      have x0 := HR4.out.text
      have x1 := HR4.out.at_
      clear hW4 HR HR3 HB
      go_still_tail 15, (by kernel_rfl)
      change wpList _ _ _ _ _ W4.drew
      go_wp2_with (go_at_call 18; refine (HCl.out _).mono ?_; rintro e w5 ⟨rfl, hb⟩; have HB5 := Lib.hid (Below.trans (Below.refl W4.heap.size W4).drew hb); clear hb)
      all_goals
        go_ret
        exact ⟨rfl, HR4.out.below HB5.out, HB4.out.trans (But.of HB5.out)⟩
end Go.Proofs.YtajhegjemhegiaaDoor
