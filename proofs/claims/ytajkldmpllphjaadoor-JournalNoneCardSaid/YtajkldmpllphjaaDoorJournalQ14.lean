/-
  The program's renew of chapter 10. The conditions: crc's tables; a journal and its spare device that lie in memory, apart.
-/
import Derived.Test.YtajkldmpllphjaaDoorPart08
import Derived.Test.YtajkldmpllphjaaDoorJournalQ9
import Derived.Test.YtajkldmpllphjaaDoorPart07
namespace Go.Proofs.YtajkldmpllphjaaDoor
open Go.RowKit BlockMath FrameMath TextNat JournalMath

theorem Been.lies {w w1 : World} {b k : Nat} {S S1 : Nat → Prop} {d : Dk} {l : List Value} {T : TypeId} (h : Been w b S d w1 S1) (hl : Lies w k l T) (hn : ¬ S k) : Lies w1 k l T := (h.apart.block k hl.lt hn).trans hl
theorem Been.texts {w w1 : World} {b : Nat} {S S1 : Nat → Prop} {d : Dk} {pp : Option Addr} {xs : List ByteArray} (h : Been w b S d w1 S1) (hx : TextsIn w pp xs) (hn : ∀ a, pp = some a → 0 < xs.length → ¬ S a.block) : TextsIn w1 pp xs := fun i x hi => by
  obtain ⟨pb, off, rfl, hc⟩ := hx i x hi
  refine ⟨pb, off, rfl, ?_⟩
  have h2 := h.apart.block pb (World.block_lt_of_cell? w _ hc) (hn _ rfl (by have := (List.getElem?_eq_some_iff.1 hi).1; omega))
  rw [← hc]
  unfold World.cell?
  simp only [h2]
theorem Apart.wide {S T : Nat → Prop} {w w' : World} (h : Apart S w w') (hs : ∀ k, S k → T k) : Apart T w w' := ⟨h.os, h.tape, h.output, h.size, fun k hk hn => h.block k hk fun hk' => hn (hs k hk')⟩
theorem jat_of {w : World} {p q q' ba bb g : Nat} {Sj : Nat → Prop} {n o : Bool} (h : Lies w p [ptr q', ptr q, .int .i64 (g : Int), .bool o] 50) (hq : q = if n then ba else bb) (hq' : q' = if n then bb else ba) (hg : g ≤ big) (hS : ∀ k, Sj k ↔ k = p) : JAt w p Sj ba bb n g o := by
  subst hq hq'
  exact ⟨h, hg, hS⟩
theorem terr_zero {w : World} {c : Int} (h : c = 0) : TErr w c .nilIface := by unfold TErr; rw [if_pos h]
/-- A device that was cut to nothing has nothing. -/
theorem cut_zero {d : Dk} (h : (cut 0 d).1 = 0) : safeNo (cut 0 d).2 = 0 ∧ (all (cut 0 d).2).size = 0 := by
  unfold cut at h ⊢
  split at h
  · cases h
  · rename_i hn
    split at h
    · rename_i hb
      rw [if_neg hn, if_pos hb]
      have h1 : (cutD (0 : Int).toNat (doesD d)) = { doesD d with done := (doesD d).done.extract 0 0, late := ByteArray.empty } := by
        unfold cutD
        rw [if_pos (show (0 : Int).toNat ≤ _ from Nat.zero_le _)]
        rfl
      have h2 : ((doesD d).done.extract 0 0).size = 0 := by simp
      constructor
      · unfold safeNo
        show (if (cutD (0 : Int).toNat (doesD d)).off = true then 0 else (cutD (0 : Int).toNat (doesD d)).done.size) = 0
        rw [h1]
        split
        · rfl
        · exact h2
      · show (all (cutD (0 : Int).toNat (doesD d))).size = 0
        rw [h1, all_size]
        show ((doesD d).done.extract 0 0).size + ByteArray.empty.size = 0
        rw [h2]
        rfl
    · cases h
theorem anew_enc (g : Nat) (xs : List ByteArray) : enc (anew g (xs.map nats)) = (sealP ⟨1, g, 0, []⟩ ++ enc (partsK 2 g 0 xs)) ++ sealP ⟨3, g, 0, []⟩ := by
  rw [partsK_records]
  unfold anew
  show sealP ⟨1, g, 0, []⟩ ++ enc (recordsP g 0 (xs.map nats) ++ [⟨3, g, 0, []⟩]) = _
  rw [enc_append, List.append_assoc]
  congr 2
  show sealP ⟨3, g, 0, []⟩ ++ [] = _
  rw [List.append_nil]
/-- What beginning anew comes to: the error, the spare device, and whether it is the present one from then on. -/
def renewR (d : Dk) (g : Nat) (l : List (List Nat)) : Int × Dk × Bool :=
  if (cut 0 d).1 ≠ 0 then ((cut 0 d).1, (cut 0 d).2, false)
  else ((JournalMath.write (cut 0 d).2 (g + 1) 0 (enc (anew (g + 1) l))).1, (JournalMath.write (cut 0 d).2 (g + 1) 0 (enc (anew (g + 1) l))).2, decide ((JournalMath.write (cut 0 d).2 (g + 1) 0 (enc (anew (g + 1) l))).1 = 0))
theorem seal_small (k g pl : Nat) : (sealP ⟨k, g, pl, []⟩).length ≤ 1000 := by
  show (FrameMath.framed (payload ⟨k, g, pl, []⟩)).length ≤ _
  rw [FrameMath.framed_len]
  have := payload_len ⟨k, g, pl, []⟩
  simp only [List.length_nil] at this
  omega
set_option maxRecDepth 100000 in
set_option maxHeartbeats 8000000 in
theorem prenew_ok (p ba bb g : Nat) (S Sj : Nat → Prop) (n o : Bool) (d : Dk) (pp : Option Addr) (cap : Nat) (xs : List ByteArray) (w : World) (hT : Tables w) (hS : Far S) (hj : JAt w p Sj ba bb n g o) (h : dev.at_ w (if n then ba else bb) S d) (ok : Ok d) (hdj : ∀ k, S k → ¬ Sj k) (hg : g < big) (hx : TextsIn w pp xs) (hs : Small xs) (hn : ∀ a, pp = some a → 0 < xs.length → ¬ S a.block) :
    Calls Tryd.prog 24 #[ptr p, .slice pp xs.length cap] w fun e w' => (∃ x, e = .returned x ∧ TErr w' (renewR d g (xs.map nats)).1 x) ∧ (∃ S', dev.at_ w' (if n then ba else bb) S' (renewR d g (xs.map nats)).2.1 ∧ ∀ k, S' k → S k ∨ w.heap.size ≤ k) ∧
      JAt w' p Sj ba bb (if (renewR d g (xs.map nats)).2.2 then !n else n) (if (renewR d g (xs.map nats)).2.2 then g + 1 else g) o ∧ Apart (fun k => S k ∨ Sj k) w w' := by
  obtain ⟨N2, hN2⟩ : ∃ N2, N2 = if (renewR d g (xs.map nats)).2.2 then !n else n := ⟨_, rfl⟩
  obtain ⟨G2, hG2⟩ : ∃ G2, G2 = if (renewR d g (xs.map nats)).2.2 then g + 1 else g := ⟨_, rfl⟩
  have HN2 := Lib.hid (And.intro hN2 hG2)
  rw [← hN2, ← hG2]
  clear hN2 hG2
  obtain ⟨q, hq⟩ : ∃ q, q = if n then ba else bb := ⟨_, rfl⟩
  obtain ⟨q', hq'⟩ : ∃ q', q' = if n then bb else ba := ⟨_, rfl⟩
  have HQ := Lib.hid (And.intro hq hq')
  rw [← hq] at h ⊢
  have HLj := Lib.hid (show Lies w p [ptr q', ptr q, .int .i64 (g : Int), .bool o] 50 by rw [hq, hq']; exact hj.1)
  have HSj := Lib.hid hj.2.2
  have HGb := Lib.hid hg
  have NP := Lib.hid (show ¬ S p from fun hs => hdj p hs ((hj.2.2 p).2 rfl))
  have HT := Lib.hid hT
  have HS := Lib.hid hS
  have HB0 := Lib.hid (Been.start h)
  have OK := Lib.hid ok
  have HX := Lib.hid hx
  have HXS := Lib.hid hs
  have HNX := Lib.hid hn
  have HGT := Lib.hid (show g + 1 ≤ WireMath.top by unfold big at hg; unfold WireMath.top; omega)
  have c1 := Lies.cell (i := 1) HLj.out rfl
  have c2 := Lies.cell (i := 2) HLj.out rfl
  have kw : IntKind.i64.wrap ((g : Int) + 1) = ((g + 1 : Nat) : Int) := by rw [IntKind.wrap_i64]; unfold big at hg; omega
  obtain ⟨g1, hg1⟩ : ∃ g1, g1 = g + 1 := ⟨_, rfl⟩
  have HG1 := Lib.hid hg1
  rw [← hg1] at kw HGT
  clear hT hS hj h ok hdj hg hx hs hn hq hq' hg1
  go_enter Tryd.func24, Tryd.ntmps24
  go_wp2_with fail
  go_quiet (fail)
  obtain ⟨W1, hW1⟩ : ∃ W1, W1 = w.drewN nq := ⟨_, rfl⟩
  have HB1 := Lib.hid (show Been w q S d W1 S by rw [hW1]; exact HB0.out.below (show Below w.heap.size w (w.drewN nq) from ⟨rfl, rfl, rfl, Nat.le_refl _, fun _ _ => rfl⟩))
  rw [← hW1]
  clear hW1 c1 c2
  go_wp2_with fail
  refine (cutOk q S d 0 W1 HB1.out.at_ OK.out (by unfold I64; omega)).mono ?_
  rintro e w2 ⟨⟨x, rfl, hx⟩, hd⟩
  obtain ⟨S2, hb2⟩ := HB1.out.does hd
  have HB2 := Lib.hid hb2
  have X1 := TErr.of hx
  clear hx hd hb2
  by_cases hc0 : (cut 0 d).1 = 0
  case neg =>
    have hE := X1.not hc0
    obtain ⟨T9, u9, rfl⟩ := hE.iface
    have HXX := Lib.hid X1
    have HR := Lib.hid (show renewR d g (xs.map nats) = ((cut 0 d).1, (cut 0 d).2, false) by unfold renewR; rw [if_pos hc0])
    clear X1 hE hc0
    go_wp2
    go_ret
    rw [HR.out]
    refine ⟨⟨_, rfl, HXX.out⟩, ⟨S2, HB2.out.at_, HB2.out.incl⟩, ?_, HB2.out.apart.wide (fun k hk => .inl hk)⟩
    obtain ⟨e1, e2⟩ := HN2.out
    rw [HR.out] at e1 e2
    rw [show N2 = n from e1, show G2 = g from e2]
    exact jat_of (HB2.out.lies HLj.out NP.out) HQ.out.1 HQ.out.2 (Nat.le_of_lt HGb.out) HSj.out
  case pos =>
    obtain rfl := X1.zero hc0
    obtain ⟨d2, hd2⟩ : ∃ d2, d2 = (cut 0 d).2 := ⟨_, rfl⟩
    have OK2 := Lib.hid (show Ok d2 by rw [hd2]; exact OK.out.cut 0)
    have HZ := Lib.hid (show safeNo d2 = 0 ∧ (all d2).size = 0 by rw [hd2]; exact cut_zero hc0)
    obtain ⟨R, hR⟩ : ∃ R, R = JournalMath.write d2 g1 0 (enc (anew g1 (xs.map nats))) := ⟨_, rfl⟩
    have HR := Lib.hid (show renewR d g (xs.map nats) = (R.1, R.2, decide (R.1 = 0)) by unfold renewR; rw [if_neg (fun h => h hc0), ← HG1.out, ← hd2, ← hR])
    have HRE := Lib.hid hR
    rw [← hd2] at HB2
    clear X1 hc0 hd2 hR
    go_wp2_with fail
    refine (pwriter_ok q g1 S2 d2 w2 HB2.out.at_ OK2.out).mono ?_
    rintro e w3 ⟨⟨v, rfl, hv⟩, hb⟩
    rw [HZ.out.1] at hv
    have HB3 := Lib.hid (HB2.out.below hb)
    obtain ⟨gb, pb, -, -, rfl, hl1, hl2⟩ := hv
    have L1 := Lib.hid hl1
    have L2 := Lib.hid hl2
    clear hb hl1 hl2 HB2
    go_wp2_with fail
    have al := (Below.refl w3.heap.size w3).alloc (Nat.le_refl _) (.cells #[.string ⟨#[]⟩] 9)
    have HB4 := Lib.hid (HB3.out.below al)
    refine (pclos_ok 1 g1 0 _ 1 [⟨#[]⟩] gb pb _ (HB4.out.tables HT.out HS.out) (text_one w3 ⟨#[]⟩) small_one (by decide) HGT.out (by decide) (L1.out.below al) (L2.out.below al)).mono ?_
    rintro e w4 ⟨rfl, hb⟩
    rw [partsK_one]
    replace HB4 := Lib.hid (HB4.out.below hb)
    replace L1 := Lib.hid ((L1.out.below al).below hb)
    replace L2 := Lib.hid ((L2.out.below al).below hb)
    clear hb al HB3
    go_wp2_with fail
    refine (pclos_ok 2 g1 0 pp cap xs gb pb w4 (HB4.out.tables HT.out HS.out) (HB4.out.texts HX.out HNX.out) HXS.out (by decide) HGT.out (by decide) L1.out L2.out).mono ?_
    rintro e w5 ⟨rfl, hb⟩
    have HB5 := Lib.hid (HB4.out.below hb)
    replace L1 := Lib.hid (L1.out.below hb)
    replace L2 := Lib.hid (L2.out.below hb)
    obtain ⟨TA, hTA⟩ : ∃ TA, TA = txt (sealP ⟨1, g1, 0, []⟩) := ⟨_, rfl⟩
    obtain ⟨TB, hTB⟩ : ∃ TB, TB = txt (enc (partsK 2 g1 0 xs)) := ⟨_, rfl⟩
    have HTA := Lib.hid hTA
    have HTB := Lib.hid hTB
    have HSA := Lib.hid (show TA.size ≤ 1000 by rw [hTA, txt_len]; exact seal_small _ _ _)
    have HSB := Lib.hid (show TB.size ≤ 60000 by
      rw [hTB, txt_len]
      have := smalls_len HXS.out 2 g1 0 xs.length
      rwa [List.take_length] at this)
    have f1 : ¬ 9223372036854775807 < TA.size + TB.size := by have := HSA.out; have := HSB.out; omega
    rw [← hTA, ← hTB]
    clear hb HB4 hTA hTB
    go_wp2_with fail
    have al := (Below.refl w5.heap.size w5).alloc (Nat.le_refl _) (.cells #[.string ⟨#[]⟩] 9)
    have HB6 := Lib.hid (HB5.out.below al)
    refine (pclos_ok 3 g1 0 _ 1 [⟨#[]⟩] gb pb _ (HB6.out.tables HT.out HS.out) (text_one w5 ⟨#[]⟩) small_one (by decide) HGT.out (by decide) (L1.out.below al) (L2.out.below al)).mono ?_
    rintro e w6 ⟨rfl, hb⟩
    rw [partsK_one]
    replace HB6 := Lib.hid (HB6.out.below hb)
    obtain ⟨TC, hTC⟩ : ∃ TC, TC = txt (sealP ⟨3, g1, 0, []⟩) := ⟨_, rfl⟩
    have HSC := Lib.hid (show TC.size ≤ 1000 by rw [hTC, txt_len]; exact seal_small _ _ _)
    obtain ⟨AN, hAN⟩ : ∃ AN, AN = enc (anew g1 (xs.map nats)) := ⟨_, rfl⟩
    have HTT := Lib.hid (show TA ++ TB ++ TC = txt AN by rw [hAN, anew_enc, HTA.out, HTB.out, hTC, txt_more, txt_more])
    have f2 : ¬ 9223372036854775807 < (TA ++ TB).size + TC.size := by rw [ByteArray.size_append]; have := HSA.out; have := HSB.out; have := HSC.out; omega
    have HAL := Lib.hid (show AN.length ≤ 100000 by
      have h1 := congrArg ByteArray.size HTT.out
      rw [ByteArray.size_append, ByteArray.size_append, txt_len] at h1
      have := HSA.out
      have := HSB.out
      have := HSC.out
      omega)
    rw [← hAN] at HRE
    rw [← hTC]
    clear hb al HB5 hTC hAN
    go_wp2_with fail
    rw [HTT.out]
    refine (padd_ok q g1 AN HAL.out S2 d2 w6 (HB6.out.tables HT.out HS.out) (been_far HB6.out HT.out HS.out) HB6.out.at_ OK2.out HGT.out).mono ?_
    rintro e w7 ⟨⟨x, rfl, X⟩, hd⟩
    rw [HZ.out.2, ← HRE.out] at X hd
    obtain ⟨S7, hb7⟩ := HB6.out.does hd
    have HB7 := Lib.hid hb7
    have LJ7 := Lib.hid (hb7.lies HLj.out NP.out)
    clear hd hb7 HB6
    by_cases h0 : R.1 = 0
    · obtain rfl := X.zero h0
      have HX7 := Lib.hid h0
      have HRR := Lib.hid (show renewR d g (xs.map nats) = (R.1, R.2, true) by rw [HR.out, decide_eq_true h0])
      have c0 := Lies.cell (i := 0) LJ7.out rfl
      have c1 := Lies.cell (i := 1) LJ7.out rfl
      have c2 := Lies.cell (i := 2) LJ7.out rfl
      have y0 := Lies.free LJ7.out 0
      have y1 := Lies.free LJ7.out 1
      have y2 := Lies.free LJ7.out 2
      clear X h0
      go_wp2
      go_ret
      rw [HRR.out]
      have BN := ((But.set p 0 w7 (ptr q)).trans (But.set p 1 _ (ptr q'))).trans (But.set p 2 _ (.int .i64 (g1 : Int)))
      have LN := ((LJ7.out.set 0 (ptr q)).set 1 (ptr q')).set 2 (.int .i64 (g1 : Int))
      have hsp : ∀ k, S7 k → k ≠ p := fun k hk e => by
        rcases HB7.out.incl k hk with h | h
        · exact NP.out (e ▸ h)
        · have := HLj.out.lt
          omega
      refine ⟨⟨.nilIface, rfl, terr_zero HX7.out⟩, ⟨S7, dev.stays HB7.out.at_ BN.size (fun k hk => BN.block k (dev.lt HB7.out.at_ k hk) (hsp k hk)), HB7.out.incl⟩, ?_, ?_⟩
      · obtain ⟨e1, e2⟩ := HN2.out
        rw [HRR.out] at e1 e2
        rw [show N2 = !n from e1, show G2 = g + 1 from e2, ← HG1.out]
        exact jat_of LN (by rw [HQ.out.2]; cases n <;> rfl) (by rw [HQ.out.1]; cases n <;> rfl) (by rw [HG1.out]; exact HGb.out) HSj.out
      · exact (HB7.out.apart.wide (fun k hk => .inl hk)).trans (Apart.but (.inr ((HSj.out p).2 rfl)) BN)
    · have hE := X.not h0
      obtain ⟨T9, u9, rfl⟩ := hE.iface
      have HX7 := Lib.hid X
      have HRR := Lib.hid (show renewR d g (xs.map nats) = (R.1, R.2, false) by rw [HR.out, decide_eq_false h0])
      clear X hE h0
      go_wp2
      go_ret
      rw [HRR.out]
      refine ⟨⟨_, rfl, HX7.out⟩, ⟨S7, HB7.out.at_, HB7.out.incl⟩, ?_, HB7.out.apart.wide (fun k hk => .inl hk)⟩
      obtain ⟨e1, e2⟩ := HN2.out
      rw [HRR.out] at e1 e2
      rw [show N2 = n from e1, show G2 = g from e2]
      exact jat_of LJ7.out HQ.out.1 HQ.out.2 (Nat.le_of_lt HGb.out) HSj.out
end Go.Proofs.YtajkldmpllphjaaDoor
