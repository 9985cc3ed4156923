/-
  The contracts of the program's device of chapter 8: Append, Sync, Cut. No conditions but those typed.
-/
import Derived.Test.YtfdldjhndfohhaaBlockP2
namespace Go.Proofs.Ytfdldjhndfohhaa
open Go.RowKit BlockMath TextNat

theorem below_drewN {B k : Nat} {w w2 : World} (h : Below B (w.drewN k) w2) : Below B w w2 := ⟨h.os, h.tape, h.output, h.size, h.block⟩
theorem but_drewN {b k : Nat} {w w2 : World} (h : But b (w.drewN k) w2) : But b w w2 := ⟨h.os, h.tape, h.output, h.size, h.block⟩
theorem all_does (d : Dk) : all (doesD d) = all d := by unfold all; rw [doesD_done, doesD_late]
section
variable {w w2 : World} {b n n' cap cap' : Nat} {p p' : Option Addr} {l l' : List Nat} {sf rm lf : Int} {dn fu : Bool}
theorem Raw.drewN (h : Raw w b p n cap l sf rm dn fu lf) (k : Nat) : Raw (w.drewN k) b p n cap l sf rm dn fu lf := ⟨h.lies, h.own, h.far⟩
/-- The row grown and laid into the struct again. -/
theorem Raw.grow (h : Raw w b p n cap l sf rm dn fu lf) (ho : w2.ownsRow 0 5 1 (.slice p' n' cap') n' (byteVals l')) (hg : w.grownBy w2 (p.map (·.block))) (hp : ∀ k, p'.map (·.block) = some k → p.map (·.block) = some k ∨ w.heap.size ≤ k) :
    Lies w2 b [.slice p n cap, .int .i64 sf, .int .i64 rm, .bool dn, .bool fu, .int .i64 lf] 53 ∧
    Raw (w2.setCell ⟨b, 0, none⟩ (.slice p' n' cap')) b p' n' cap' l' sf rm dn fu lf ∧ ∀ S : Nat → Prop, (∀ k, Mine p b k → S k) → Apart S w (w2.setCell ⟨b, 0, none⟩ (.slice p' n' cap')) := by
  have hl : Lies w2 b [.slice p n cap, .int .i64 sf, .int .i64 rm, .bool dn, .bool fu, .int .i64 lf] 53 := (hg.block b h.lies.lt (fun e => h.far e.symm)).trans h.lies
  have hf : p'.map (·.block) ≠ some b := fun e => by
    rcases hp b e with h1 | h1
    · exact h.far h1
    · have := h.lies.lt
      omega
  refine ⟨hl, ⟨hl.set 0 _, own_keep ho fun k hk => Below.heap_setCell _ _ _ _ fun e => hf (by rw [hk, e]), hf⟩, fun S hS => ?_⟩
  exact (Apart.grown hg fun k hk => hS k (.inr hk)).trans (Apart.but (hS b (.inl rfl)) (But.set b 0 _ _))
end
set_option maxRecDepth 100000 in
set_option maxHeartbeats 4000000 in
theorem appendOk : AppendOk dev := by
  rintro b S d s w ⟨p, n, cap, fu, lf, h, hf, hS⟩ ok hs
  have hn := all_len h
  have H := Lib.hid h
  have HF := Lib.hid hf
  have HS := Lib.hid hS
  have HD := Lib.hid (downR h)
  have kA := ok.all
  have kR0 := ok.room0
  have kR1 := ok.room1
  have kn : n ≤ 1048576 := by rw [hn, all_size]; exact kA
  have HE := Lib.hid (fun k c => refR (h.drewN k) c)
  have HZ := Lib.hid (size_is hn)
  cases ho : d.off with
  | true =>
    have HX := Lib.hid (append_off s ho)
    rw [HX.out]
    rw [ho] at HD HE HZ
    clear h hf hS ok hn
    go_enter Try.func10, Try.ntmps10
    go_wp2_with (first
      | (go_at_call 19; refine HD.out.mono ?_; rintro e w2 ⟨rfl, rfl⟩)
      | (go_at_call 22; refine (HE.out 0 5).mono ?_; rintro e w2 ⟨⟨x, rfl, hx⟩, hb⟩; replace hx := Lib.hid hx; replace hb := Lib.hid hb))
    go_ret
    exact ⟨⟨_, rfl, err_some (show (5 : Int) ≠ 0 by decide) (by rw [HZ.out]; exact hx.out)⟩, does_same H.out HF.out HS.out (below_drewN (k := 0) hb.out)⟩
  | false =>
    rw [ho] at HD HE HZ
    have n1 : IntKind.i64.wrap ((n : Int) + (s.size : Int)) = (n : Int) + (s.size : Int) := by rw [IntKind.wrap_i64]; omega
    have c0 := Lies.cell (i := 0) h.lies rfl
    have c2 := Lies.cell (i := 2) h.lies rfl
    by_cases hfull : d.room < (n : Int) + (s.size : Int)
    · have t1 : decide (d.room < (n : Int) + (s.size : Int)) = true := decide_eq_true hfull
      have HX := Lib.hid (append_full (d := d) (s := s) ho (by rw [← hn]; exact hfull))
      rw [HX.out]
      clear h hf hS ok hn hfull
      go_enter Try.func10, Try.ntmps10
      go_wp2_with (go_at_call 19; refine HD.out.mono ?_; rintro e w2 ⟨rfl, rfl⟩)
      go_quiet (fail)
      go_wp2_with (go_at_call 22; refine (HE.out _ 4).mono ?_; rintro e w2 ⟨⟨x, rfl, hx⟩, hb⟩; replace hx := Lib.hid hx; replace hb := Lib.hid hb)
      go_ret
      exact ⟨⟨_, rfl, err_some (show (4 : Int) ≠ 0 by decide) (by rw [HZ.out]; exact hx.out)⟩, does_same H.out HF.out HS.out (below_drewN hb.out)⟩
    have t1 : decide (d.room < (n : Int) + (s.size : Int)) = false := decide_eq_false hfull
    have hno : ¬ (d.off = false ∧ d.room - ((all d).size : Int) < (s.size : Int)) := fun k => hfull (by have := k.2; rw [← hn] at this; omega)
    have h' := h
    rw [ho] at h'
    have HBl := Lib.hid (fun k => blowsR (h'.drewN k) ho hf ok)
    cases hd : doesB d with
    | false =>
      have HX := Lib.hid (show append s d = (5, doesD d) by unfold append; rw [if_neg hno, if_neg (by rw [hd]; simp)])
      have HM := Lib.hid (show n = (all (doesD d)).size by rw [all_does]; exact hn)
      have HA := Lib.hid (all_does d)
      rw [HX.out]
      rw [hd] at HBl
      clear h h' hf hS ok hn hfull hno
      go_enter Try.func10, Try.ntmps10
      go_wp2_with (go_at_call 19; refine HD.out.mono ?_; rintro e w2 ⟨rfl, rfl⟩)
      go_quiet (fail)
      go_wp2_with fail
      refine (HBl.out _).mono ?_
      rintro e w2 ⟨rfl, ⟨fu', lf', hr, hfz⟩, hb⟩
      have HE2 := Lib.hid (refR hr 5)
      replace hb := Lib.hid (but_drewN hb)
      replace hfz := Lib.hid hfz
      replace hr := Lib.hid hr
      have HK := Lib.hid (size_is HM.out)
      obtain ⟨q, hq⟩ : ∃ q, q = size (doesD d) := ⟨_, rfl⟩
      rw [← hq] at HK
      rw [← HK.out] at HE2
      replace hq := Lib.hid hq
      clear c0 c2
      go_wp2_with (go_at_call 22; refine HE2.out.mono ?_; rintro e w3 ⟨⟨x, rfl, hx⟩, hb2⟩; replace hx := Lib.hid hx; replace hb2 := Lib.hid hb2)
      go_ret
      refine ⟨⟨_, rfl, err_some (show (5 : Int) ≠ 0 by decide) (by rw [← hq.out]; exact hx.out.mono hb.out.size)⟩, ?_⟩
      exact does_of HS.out (hr.out.below hb2.out) (by rw [HA.out]) (by rw [doesD_done]) (by rw [doesD_room]) rfl hfz.out (fun _ hk => .inl hk) ((Apart.but ((HS.out b).2 (.inl rfl)) hb.out).trans (Apart.of hb2.out))
    | true =>
      have HX := Lib.hid (show append s d = (0, { doesD d with late := (doesD d).late ++ s }) by unfold append; rw [if_neg hno, if_pos hd])
      have HA := Lib.hid (show all { doesD d with late := (doesD d).late ++ s } = all d ++ s by
        show (doesD d).done ++ ((doesD d).late ++ s) = _
        rw [← ByteArray.append_assoc, doesD_done, doesD_late]
        rfl)
      rw [HX.out]
      rw [hd] at HBl
      clear h h' hf hS ok hn hfull hno
      go_enter Try.func10, Try.ntmps10
      go_wp2_with (go_at_call 19; refine HD.out.mono ?_; rintro e w2 ⟨rfl, rfl⟩)
      go_quiet (fail)
      go_wp2_with fail
      refine (HBl.out _).mono ?_
      rintro e w2 ⟨rfl, ⟨fu', lf', hr, hfz⟩, hb⟩
      replace hb := Lib.hid (but_drewN hb)
      replace hfz := Lib.hid hfz
      replace hr := Lib.hid hr
      clear c0 c2
      have c0 := Lies.cell (i := 0) hr.out.lies rfl
      go_wp2_with (
        at_builtin
        refine put_text rfl _ _ rfl p n cap (nats (all d)) rfl hr.out.own s rfl (by omega) ?_
        intro p' cap' w3 ho3 hg3 hp3
        obtain ⟨hl3, hr3, ha3⟩ := hr.out.grow ho3 hg3 hp3
        have HR3 := Lib.hid hr3
        have HA3 := Lib.hid (ha3 S fun k hk => (HS.out k).2 hk)
        have HP3 := Lib.hid hp3
        clear c0
        have c0 := Lies.cell (i := 0) hl3 rfl
        have f0 := Lies.free hl3 0
        clear hl3 hr3 ha3 ho3 hg3 hp3)
      go_ret
      refine ⟨⟨_, rfl, err_none⟩, ?_⟩
      exact does_of HS.out HR3.out (by rw [HA.out, nats_append]) (by show _ = (((doesD d).done.size : Nat) : Int); rw [doesD_done]) (by show _ = (doesD d).room; rw [doesD_room]) rfl ⟨hfz.out.1, hfz.out.2⟩ (fun k hk => (HP3.out k hk).imp id fun h => Nat.le_trans hb.out.size h) ((Apart.but ((HS.out b).2 (.inl rfl)) hb.out).trans HA3.out)
end Go.Proofs.Ytfdldjhndfohhaa
