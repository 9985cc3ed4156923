/-
  The program's Open of chapter 10, and its contracts in the form that the laws start from. The conditions: crc's tables; what lies in memory.
-/
import Derived.Test.YtajkldmpllphjaaDoorPart10
import Derived.Test.YtajkldmpllphjaaDoorJournalQ22
import Derived.Test.YtajkldmpllphjaaDoorJournalQ23
import Derived.Test.YtajkldmpllphjaaDoorJournalQ24
import Derived.Test.YtajkldmpllphjaaDoorJournalQ25
import Derived.Test.YtajkldmpllphjaaDoorJournalQ26
import Derived.Test.YtajkldmpllphjaaDoorJournalQ27
namespace Go.Proofs.YtajkldmpllphjaaDoor
open Go.RowKit BlockMath FrameMath TextNat JournalMath

/-- Where a device that is corrupt isn't relied on, the other one is whole and not corrupt. -/
theorem relied_no {L M : List Part} {c : Bool} (h : reliedB L M c = false) : c = false ∧ (!c && whole M) = true := by
  unfold reliedB at h
  cases hb : begunB L with
  | false => rw [hb] at h; simp at h
  | true =>
    rw [hb] at h
    cases hc : c with
    | true => rw [hc] at h; simp at h
    | false =>
      rw [hc] at h
      cases hw : whole M with
      | false => rw [hw] at h; simp at h
      | true => exact ⟨rfl, rfl⟩
theorem popen_ok {w : World} {ba bb : Nat} {S : Nat → Prop} {a b : Dk} (h : Duo dev w ba bb S a b) (hT : Tables w) (hS : Far S) :
    Calls Tryd.prog 14 #[ptr ba, ptr bb] w fun e w' => OpenJ w w' ba bb S a b e := by
  cases hoa : a.off with
  | true => exact off_ok h (.inl hoa)
  | false =>
    cases hob : b.off with
    | true => exact off_ok h (.inr hob)
    | false =>
      cases kcx : corrupt (nats (all a)) with
      | true =>
        cases kr1 : reliedB (partsOf (nats (all a))) (partsOf (nats (all b))) (corrupt (nats (all b))) with
        | true =>
          have kbx : (!corrupt (nats (all a)) && whole (partsOf (nats (all a)))) = false := by rw [kcx]; rfl
          cases kcy : corrupt (nats (all b)) with
          | true => exact open_bad1_true h hT hS hoa hob kcx kcy kbx rfl kr1
          | false => exact open_bad1_false h hT hS hoa hob kcx kcy kbx rfl kr1
        | false =>
          obtain ⟨kcy, kby⟩ := relied_no kr1
          exact open_second_bad h hT hS hoa hob kcx kcy (by rw [kcx]; rfl) kby kr1
      | false =>
        cases kcy : corrupt (nats (all b)) with
        | true =>
          cases kr2 : reliedB (partsOf (nats (all b))) (partsOf (nats (all a))) (corrupt (nats (all a))) with
          | true => exact open_bad2 h hT hS hoa hob kcx kcy rfl (by rw [kcy]; rfl) kr2
          | false =>
            obtain ⟨_, kbx⟩ := relied_no kr2
            exact open_first_bad h hT hS hoa hob kcx kcy kbx (by rw [kcy]; rfl) kr2
        | false =>
          cases kbx : (!corrupt (nats (all a)) && whole (partsOf (nats (all a)))) with
          | true =>
            cases kby : (!corrupt (nats (all b)) && whole (partsOf (nats (all b)))) with
            | true =>
              by_cases kg : headGen (partsOf (nats (all a))) < headGen (partsOf (nats (all b)))
              · exact open_second_two h hT hS hoa hob kcx kcy kbx kby kg
              · exact open_first_two h hT hS hoa hob kcx kcy kbx kby (Nat.le_of_not_lt kg)
            | false => exact open_first_one h hT hS hoa hob kcx kcy kbx kby
          | false =>
            cases kby : (!corrupt (nats (all b)) && whole (partsOf (nats (all b)))) with
            | true => exact open_second_one h hT hS hoa hob kcx kcy kbx kby
            | false => exact open_new h hT hS hoa hob kcx kcy kbx kby
set_option maxRecDepth 100000 in
set_option maxHeartbeats 4000000 in
theorem openedOk : OpenedOk dev jrn := by
  intro ba bb S a b w h hT hS
  have HO := Lib.hid (popen_ok h hT hS)
  have HD := Lib.hid h
  clear h hT hS
  by_cases h0 : (opened a b).1 = 0
  · have HZ := Lib.hid h0
    simp only [if_pos h0]
    clear h0
    go_enter Tryd.func6, Tryd.ntmps6
    go_wp2_with fail
    refine HO.out.mono ?_
    rintro e w1 ⟨⟨pj, v, x, rfl, hx, hz⟩, ha⟩
    obtain ⟨p, S', rfl, h1, h2, h3, h4⟩ := hz HZ.out
    obtain rfl := hx.zero HZ.out
    have H1 := Lib.hid h1
    have H2 := Lib.hid h2
    have H3 := Lib.hid h3
    have H4 := Lib.hid h4
    have HA := Lib.hid ha
    clear hx hz h1 h2 h3 h4 ha
    go_wp2
    go_ret3
    exact ⟨⟨p, v, S', rfl, H1.out, H2.out, H3.out, H4.out⟩, HA.out⟩
  · have HZ := Lib.hid h0
    simp only [if_neg h0]
    obtain ⟨c, hc⟩ : ∃ c, c = (opened a b).1 := ⟨_, rfl⟩
    have HC := Lib.hid hc
    rw [← hc]
    clear h0 hc
    go_enter Tryd.func6, Tryd.ntmps6
    go_wp2_with fail
    refine HO.out.mono ?_
    rintro e w1 ⟨⟨pj, v, x, rfl, hx, hz⟩, ha⟩
    have hE := hx.not HZ.out
    obtain ⟨T, u, rfl⟩ := hE.iface
    have HE := Lib.hid hE
    have HA := Lib.hid ha
    clear hx hz hE ha
    go_wp2_with fail
    refine (at_errT jname 0 HE.out).mono ?_
    rintro e w2 ⟨⟨r, rfl, hr⟩, hb⟩
    have HR := Lib.hid hr
    have HB := Lib.hid hb
    clear hr hb
    go_wp2
    go_ret3
    rw [HC.out]
    exact ⟨⟨none, 0, _, rfl, HR.out.is⟩, HA.out.trans (Apart.of HB.out)⟩
end Go.Proofs.YtajkldmpllphjaaDoor
