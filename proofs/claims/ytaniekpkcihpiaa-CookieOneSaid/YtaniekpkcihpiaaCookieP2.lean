/-
  The program's reader of chapter 13: what stands of one kind of bytes. The conditions: what the kind's function answers of one byte; a text of at most 2^47 bytes.
-/
import Derived.Test.YtaniekpkcihpiaaCookieP1
import Derived.Test.YtaniekpkcihpiaaTextAll
import Derived.StillTailTactics
namespace Go.Proofs.Ytaniekpkcihpiaa
open Go.RowKit TextNat CookieMath

/-- What strings.Clone answers. -/
def CkClone : Prop := ∀ (s : ByteArray) (w : World), s.size ≤ 281474976710656 → Calls Try.prog 27 #[.string s] w fun e w' => e = .returned (.string s) ∧ Below w.heap.size w w'
/-- What a kind's function answers of each single byte of a text. -/
def OneByte (s : ByteArray) (F : Nat) (p : Nat → Bool) : Prop := ∀ (q z : Nat) (w : World), (nats s)[q]? = some z → Calls Try.prog F #[.string (s.extract q (q + 1))] w fun e w' => e = .returned (.bool (p z)) ∧ w' = w
theorem one_extract (s : ByteArray) {q z : Nat} (hz : (nats s)[q]? = some z) : nats (s.extract q (q + 1)) = [z] := by
  rw [show nats (s.extract q (q + 1)) = ((nats s).take (q + 1)).drop q from text_extract s q (q + 1)]
  have hi := (List.getElem?_eq_some_iff.1 hz).1
  rw [List.take_add_one, hz, List.drop_append_of_le_length (by rw [List.length_take]; omega), List.drop_eq_nil_of_le (by rw [List.length_take]; omega)]
  rfl
theorem one_size (s : ByteArray) {q z : Nat} (hz : (nats s)[q]? = some z) : (s.extract q (q + 1)).size = 1 := by
  rw [← nats_len, one_extract s hz]
  rfl
/-- A piece of a text, cut out. -/
theorem cut_text (s : ByteArray) (i j : Nat) (k : Int) (hk : k = (j : Int)) (h1 : i ≤ j) (h2 : j ≤ s.size) (w : World) :
    (Instr.slice 9 (.string s) (some (.int .i64 (i : Int))) (some (.int .i64 k)) none).run Try.prog w = .ok (.string (s.extract i j)) w := by
  subst hk
  have b1 : (0 : Int) ≤ (i : Int) := by omega
  have b2 : (i : Int) ≤ (j : Int) := by omega
  have b3 : (j : Int) ≤ (s.size : Int) := by omega
  have u := Try.underlying9
  go_simp
-- BEHIND
set_option maxRecDepth 100000 in
set_option maxHeartbeats 4000000 in
theorem rdr_run_token (b a : Nat) (s : ByteArray) (w : World) (hC : CkClone) (hF : OneByte s 11 TextMath.tokenOctet) (h : Rdr w b s a) (ha : a ≤ s.size) (hs : s.size ≤ 140737488355328) :
    Calls Try.prog 20 #[rpt b, .func (.func 11) #[] #[]] w fun e w' => e = .returned (.string (s.extract a (a + far TextMath.tokenOctet ((nats s).drop a)))) ∧ Rdr w' b s (a + far TextMath.tokenOctet ((nats s).drop a)) ∧ But b w w' := by
  have HR := Lib.hid h
  have HF := Lib.hid hF
  have HS := Lib.hid hs
  have HA := Lib.hid ha
  obtain ⟨E, hE⟩ : ∃ E, E = a + far TextMath.tokenOctet ((nats s).drop a) := ⟨_, rfl⟩
  have HE := Lib.hid hE
  have HEL := Lib.hid (show E ≤ s.size by
    have := far_le TextMath.tokenOctet ((nats s).drop a)
    rw [List.length_drop, nats_len] at this
    omega)
  rw [← hE]
  have c1 := h.at1
  have HC := Lib.hid hC
  clear hE h hF hC
  go_enter Try.func20, Try.ntmps20
  go_wp2_with fail
  clear c1
  go_loopg [] (s.size - a) (fun gh wx => ∃ q : Nat, q + gh = s.size ∧ Hid (a ≤ q ∧ E = q + far TextMath.tokenOctet ((nats s).drop q)) ∧ Hid (Rdr wx b s q) ∧ Hid (But b w wx))
  case atStart => exact ⟨a, by have := HA.out; omega, Lib.hid ⟨Nat.le_refl _, HE.out⟩, Lib.hid HR.out, Lib.hid (But.refl _ _)⟩
  case round =>
    obtain ⟨q, hi, hq, hr, hb⟩ := hrel
    rename World => W
    have c0 := hr.out.at0
    have c1 := hr.out.at1
    have f1 := Lies.free hr.out 1
    have HN := Lib.hid (fun n => rdr_ended b q s (W.drewN n) (hr.out.drewN n))
    have HI := Lib.hid hi
    have HAQ := Lib.hid hq.out.1
    have HQS := Lib.hid (show q ≤ s.size by omega)
    by_cases he : q = s.size
    · rw [decide_eq_true he] at HN
      have HQ := Lib.hid (show E = q by
        have h1 := hq.out.2
        rw [drop_out (show (nats s).length ≤ q by rw [nats_len]; omega), far_nil] at h1
        omega)
      clear hi he
      go_wp2_with fail
      go_quiet ((go_at_call 22; exact Calls.quiet_of (HN.out _)))
      go_wp2_with fail
      obtain ⟨W2, hW2⟩ : ∃ W2, W2 = W.drewN nq := ⟨_, rfl⟩
      have HR2 := Lib.hid (show Rdr W2 b s q by rw [hW2]; exact hr.out.drewN nq)
      have HB2 := Lib.hid (show But b w W2 by rw [hW2]; exact hb.out.drewN nq)
      rw [← hW2]
      clear hW2
      have c0 := HR2.out.at0
      have c1 := HR2.out.at1
      have HCl := Lib.hid (fun w => HC.out (s.extract a q) w (by rw [ByteArray.size_extract]; have := HS.out; omega))
      have b1 : (0 : Int) ≤ (a : Int) := by omega
      have b2 : (a : Int) ≤ (q : Int) := by have := HAQ.out; omega
      have b3 : (q : Int) ≤ (s.size : Int) := by have := HQS.out; omega
      have b4 : IntKind.i64.wrap (a : Int) = (a : Int) := by rw [IntKind.wrap_i64]; have := HS.out; have := HAQ.out; have := HQS.out; omega
      have b5 : IntKind.i64.wrap (q : Int) = (q : Int) := by rw [IntKind.wrap_i64]; have := HS.out; have := HQS.out; omega
      go_still_tail 10, (by kernel_rfl)
      change wpList _ _ _ _ _ W2.drew
      go_wp2_with (go_at_call 27; refine (HCl.out _).mono ?_; rintro e w5 ⟨rfl, hb⟩; have HB5 := Lib.hid (Below.trans (Below.refl W2.heap.size W2).drew hb); clear hb)
      go_ret
      exact ⟨by rw [HQ.out]; rfl, by rw [HQ.out]; exact Lies.below HR2.out HB5.out, HB2.out.trans (But.of HB5.out)⟩
    · rw [decide_eq_false he] at HN
      have hql : q < s.size := by omega
      have HQL := Lib.hid hql
      obtain ⟨z, hz⟩ : ∃ z, z = (s[q]'hql).toNat := ⟨_, rfl⟩
      have hzi : (nats s)[q]? = some z := by rw [hz]; exact nats_at s q hql
      have HO := Lib.hid (fun n => HF.out q z (W.drewN n) hzi)
      have p2 := hq.out.2
      rw [drop_at hzi] at p2
      have n1 : IntKind.i64.wrap ((q : Int) + 1) = (q : Int) + 1 := by rw [IntKind.wrap_i64]; have := HS.out; omega
      have sl := fun n => cut_text s q (q + 1) ((q : Int) + 1) (by omega) (by omega) (by omega) (W.drewN n)
      cases hp : TextMath.tokenOctet z with
      | false =>
        rw [hp] at HO
        rw [far_no hp] at p2
        have HQ := Lib.hid p2
        clear hi he hz hzi p2 hp
        go_wp2_with fail
        go_quiet ((first
          | (go_at_call 22; exact Calls.quiet_of (HN.out _))
          | (go_at_call 11; exact Calls.quiet_of_same (HO.out _))))
        go_wp2_with fail
        obtain ⟨W2, hW2⟩ : ∃ W2, W2 = W.drewN nq := ⟨_, rfl⟩
        have HR2 := Lib.hid (show Rdr W2 b s q by rw [hW2]; exact hr.out.drewN nq)
        have HB2 := Lib.hid (show But b w W2 by rw [hW2]; exact hb.out.drewN nq)
        rw [← hW2]
        clear hW2
        have c0 := HR2.out.at0
        have c1 := HR2.out.at1
        have HCl := Lib.hid (fun w => HC.out (s.extract a q) w (by rw [ByteArray.size_extract]; have := HS.out; omega))
        have b1 : (0 : Int) ≤ (a : Int) := by omega
        have b2 : (a : Int) ≤ (q : Int) := by have := HAQ.out; omega
        have b3 : (q : Int) ≤ (s.size : Int) := by have := HQS.out; omega
        have b4 : IntKind.i64.wrap (a : Int) = (a : Int) := by rw [IntKind.wrap_i64]; have := HS.out; have := HAQ.out; have := HQS.out; omega
        have b5 : IntKind.i64.wrap (q : Int) = (q : Int) := by rw [IntKind.wrap_i64]; have := HS.out; have := HQS.out; omega
        go_still_tail 10, (by kernel_rfl)
        change wpList _ _ _ _ _ W2.drew
        go_wp2_with (go_at_call 27; refine (HCl.out _).mono ?_; rintro e w5 ⟨rfl, hb⟩; have HB5 := Lib.hid (Below.trans (Below.refl W2.heap.size W2).drew hb); clear hb)
        go_ret
        exact ⟨by rw [HQ.out]; rfl, by rw [HQ.out]; exact Lies.below HR2.out HB5.out, HB2.out.trans (But.of HB5.out)⟩
      | true =>
        rw [hp] at HO
        rw [far_yes hp] at p2
        have HQ := Lib.hid p2
        clear hi he hz hzi p2 hp
        go_wp2_with fail
        go_quiet ((first
          | (go_at_call 22; exact Calls.quiet_of (HN.out _))
          | (go_at_call 11; exact Calls.quiet_of_same (HO.out _))))
        go_wp2
        go_roundg (s.size - (q + 1))
        case measure => have := HI.out; have := HQL.out; omega
        case rel =>
          refine ⟨q + 1, by have := HQL.out; omega, Lib.hid ⟨by have := HAQ.out; omega, by have := HQ.out; omega⟩, Lib.hid ((hr.out.drewN nq).next (q + 1)), Lib.hid ((hb.out.drewN _).trans (But.set b 1 _ _))⟩
set_option maxRecDepth 100000 in
set_option maxHeartbeats 4000000 in
theorem rdr_run_octets (b a : Nat) (s : ByteArray) (w : World) (hC : CkClone) (hF : OneByte s 12 TextMath.octet) (h : Rdr w b s a) (ha : a ≤ s.size) (hs : s.size ≤ 140737488355328) :
    Calls Try.prog 20 #[rpt b, .func (.func 12) #[] #[]] w fun e w' => e = .returned (.string (s.extract a (a + far TextMath.octet ((nats s).drop a)))) ∧ Rdr w' b s (a + far TextMath.octet ((nats s).drop a)) ∧ But b w w' := by
  have HR := Lib.hid h
  have HF := Lib.hid hF
  have HS := Lib.hid hs
  have HA := Lib.hid ha
  obtain ⟨E, hE⟩ : ∃ E, E = a + far TextMath.octet ((nats s).drop a) := ⟨_, rfl⟩
  have HE := Lib.hid hE
  have HEL := Lib.hid (show E ≤ s.size by
    have := far_le TextMath.octet ((nats s).drop a)
    rw [List.length_drop, nats_len] at this
    omega)
  rw [← hE]
  have c1 := h.at1
  have HC := Lib.hid hC
  clear hE h hF hC
  go_enter Try.func20, Try.ntmps20
  go_wp2_with fail
  clear c1
  go_loopg [] (s.size - a) (fun gh wx => ∃ q : Nat, q + gh = s.size ∧ Hid (a ≤ q ∧ E = q + far TextMath.octet ((nats s).drop q)) ∧ Hid (Rdr wx b s q) ∧ Hid (But b w wx))
  case atStart => exact ⟨a, by have := HA.out; omega, Lib.hid ⟨Nat.le_refl _, HE.out⟩, Lib.hid HR.out, Lib.hid (But.refl _ _)⟩
  case round =>
    obtain ⟨q, hi, hq, hr, hb⟩ := hrel
    rename World => W
    have c0 := hr.out.at0
    have c1 := hr.out.at1
    have f1 := Lies.free hr.out 1
    have HN := Lib.hid (fun n => rdr_ended b q s (W.drewN n) (hr.out.drewN n))
    have HI := Lib.hid hi
    have HAQ := Lib.hid hq.out.1
    have HQS := Lib.hid (show q ≤ s.size by omega)
    by_cases he : q = s.size
    · rw [decide_eq_true he] at HN
      have HQ := Lib.hid (show E = q by
        have h1 := hq.out.2
        rw [drop_out (show (nats s).length ≤ q by rw [nats_len]; omega), far_nil] at h1
        omega)
      clear hi he
      go_wp2_with fail
      go_quiet ((go_at_call 22; exact Calls.quiet_of (HN.out _)))
      go_wp2_with fail
      obtain ⟨W2, hW2⟩ : ∃ W2, W2 = W.drewN nq := ⟨_, rfl⟩
      have HR2 := Lib.hid (show Rdr W2 b s q by rw [hW2]; exact hr.out.drewN nq)
      have HB2 := Lib.hid (show But b w W2 by rw [hW2]; exact hb.out.drewN nq)
      rw [← hW2]
      clear hW2
      have c0 := HR2.out.at0
      have c1 := HR2.out.at1
      have HCl := Lib.hid (fun w => HC.out (s.extract a q) w (by rw [ByteArray.size_extract]; have := HS.out; omega))
      have b1 : (0 : Int) ≤ (a : Int) := by omega
      have b2 : (a : Int) ≤ (q : Int) := by have := HAQ.out; omega
      have b3 : (q : Int) ≤ (s.size : Int) := by have := HQS.out; omega
      have b4 : IntKind.i64.wrap (a : Int) = (a : Int) := by rw [IntKind.wrap_i64]; have := HS.out; have := HAQ.out; have := HQS.out; omega
      have b5 : IntKind.i64.wrap (q : Int) = (q : Int) := by rw [IntKind.wrap_i64]; have := HS.out; have := HQS.out; omega
      go_still_tail 10, (by kernel_rfl)
      change wpList _ _ _ _ _ W2.drew
      go_wp2_with (go_at_call 27; refine (HCl.out _).mono ?_; rintro e w5 ⟨rfl, hb⟩; have HB5 := Lib.hid (Below.trans (Below.refl W2.heap.size W2).drew hb); clear hb)
      go_ret
      exact ⟨by rw [HQ.out]; rfl, by rw [HQ.out]; exact Lies.below HR2.out HB5.out, HB2.out.trans (But.of HB5.out)⟩
    · rw [decide_eq_false he] at HN
      have hql : q < s.size := by omega
      have HQL := Lib.hid hql
      obtain ⟨z, hz⟩ : ∃ z, z = (s[q]'hql).toNat := ⟨_, rfl⟩
      have hzi : (nats s)[q]? = some z := by rw [hz]; exact nats_at s q hql
      have HO := Lib.hid (fun n => HF.out q z (W.drewN n) hzi)
      have p2 := hq.out.2
      rw [drop_at hzi] at p2
      have n1 : IntKind.i64.wrap ((q : Int) + 1) = (q : Int) + 1 := by rw [IntKind.wrap_i64]; have := HS.out; omega
      have sl := fun n => cut_text s q (q + 1) ((q : Int) + 1) (by omega) (by omega) (by omega) (W.drewN n)
      cases hp : TextMath.octet z with
      | false =>
        rw [hp] at HO
        rw [far_no hp] at p2
        have HQ := Lib.hid p2
        clear hi he hz hzi p2 hp
        go_wp2_with fail
        go_quiet ((first
          | (go_at_call 22; exact Calls.quiet_of (HN.out _))
          | (go_at_call 12; exact Calls.quiet_of_same (HO.out _))))
        go_wp2_with fail
        obtain ⟨W2, hW2⟩ : ∃ W2, W2 = W.drewN nq := ⟨_, rfl⟩
        have HR2 := Lib.hid (show Rdr W2 b s q by rw [hW2]; exact hr.out.drewN nq)
        have HB2 := Lib.hid (show But b w W2 by rw [hW2]; exact hb.out.drewN nq)
        rw [← hW2]
        clear hW2
        have c0 := HR2.out.at0
        have c1 := HR2.out.at1
        have HCl := Lib.hid (fun w => HC.out (s.extract a q) w (by rw [ByteArray.size_extract]; have := HS.out; omega))
        have b1 : (0 : Int) ≤ (a : Int) := by omega
        have b2 : (a : Int) ≤ (q : Int) := by have := HAQ.out; omega
        have b3 : (q : Int) ≤ (s.size : Int) := by have := HQS.out; omega
        have b4 : IntKind.i64.wrap (a : Int) = (a : Int) := by rw [IntKind.wrap_i64]; have := HS.out; have := HAQ.out; have := HQS.out; omega
        have b5 : IntKind.i64.wrap (q : Int) = (q : Int) := by rw [IntKind.wrap_i64]; have := HS.out; have := HQS.out; omega
        go_still_tail 10, (by kernel_rfl)
        change wpList _ _ _ _ _ W2.drew
        go_wp2_with (go_at_call 27; refine (HCl.out _).mono ?_; rintro e w5 ⟨rfl, hb⟩; have HB5 := Lib.hid (Below.trans (Below.refl W2.heap.size W2).drew hb); clear hb)
        go_ret
        exact ⟨by rw [HQ.out]; rfl, by rw [HQ.out]; exact Lies.below HR2.out HB5.out, HB2.out.trans (But.of HB5.out)⟩
      | true =>
        rw [hp] at HO
        rw [far_yes hp] at p2
        have HQ := Lib.hid p2
        clear hi he hz hzi p2 hp
        go_wp2_with fail
        go_quiet ((first
          | (go_at_call 22; exact Calls.quiet_of (HN.out _))
          | (go_at_call 12; exact Calls.quiet_of_same (HO.out _))))
        go_wp2
        go_roundg (s.size - (q + 1))
        case measure => have := HI.out; have := HQL.out; omega
        case rel =>
          refine ⟨q + 1, by have := HQL.out; omega, Lib.hid ⟨by have := HAQ.out; omega, by have := HQ.out; omega⟩, Lib.hid ((hr.out.drewN nq).next (q + 1)), Lib.hid ((hb.out.drewN _).trans (But.set b 1 _ _))⟩
end Go.Proofs.Ytaniekpkcihpiaa
