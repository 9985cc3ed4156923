/-
  The program's reader of chapter 13: whether it is at the end, what must stand next; the error of what can't be. No conditions but those typed.
-/
import Derived.Test.YtaniekpkcihpiaaCookieLaws
import Derived.Test.YtaniekpkcihpiaaCookieMath3
import Derived.Test.YtaniekpkcihpiaaLies
import Derived.BigQuiet
import Derived.Deep.RegionHeld3
import Derived.Deep.RegionWith
import Derived.Deep.LoopGhost
namespace Go.Proofs.Ytaniekpkcihpiaa
open Go.RowKit TextNat CookieMath

abbrev rpt (b : Nat) : Value := .pointer (some ⟨b, 0, none⟩)
/-- A reader of the text s at the place i lies in block b. -/
def Rdr (w : World) (b : Nat) (s : ByteArray) (i : Nat) : Prop := Lies w b [.string s, .int .i64 (i : Int)] 53
theorem Rdr.at0 {w : World} {b i : Nat} {s : ByteArray} (h : Rdr w b s i) : w.cell? ⟨b, 0, none⟩ = some (.string s) := Lies.cell (i := 0) h rfl
theorem Rdr.at1 {w : World} {b i : Nat} {s : ByteArray} (h : Rdr w b s i) : w.cell? ⟨b, 1, none⟩ = some (.int .i64 (i : Int)) := Lies.cell (i := 1) h rfl
theorem Rdr.drewN {w : World} {b i : Nat} {s : ByteArray} (h : Rdr w b s i) (n : Nat) : Rdr (w.drewN n) b s i := h
theorem Rdr.next {w : World} {b i : Nat} {s : ByteArray} (h : Rdr w b s i) (j : Nat) : Rdr (w.setCell ⟨b, 1, none⟩ (.int .i64 (j : Int))) b s j := Lies.set h 1 _
set_option maxRecDepth 100000 in
theorem rdr_ended (b i : Nat) (s : ByteArray) (w : World) (h : Rdr w b s i) :
    Calls Try.prog 22 #[rpt b] w fun e w' => e = .returned (.bool (decide (i = s.size))) ∧ ∃ n, w' = w.drewN n := by
  have c0 := h.at0
  have c1 := h.at1
  have e1 : ((i : Int) == (s.size : Int)) = decide (i = s.size) := by rw [Bool.eq_iff_iff]; simp; omega
  obtain ⟨t, ht⟩ : ∃ t, t = decide (i = s.size) := ⟨_, rfl⟩
  rw [← ht] at e1 ⊢
  clear ht h
  go_enter Try.func22, Try.ntmps22
  go_wp2_with fail
  go_quiet (fail)
  go_wp2_with fail
  go_ret
  exact ⟨rfl, _, rfl⟩
theorem drop_at {l : List Nat} {i z : Nat} (h : l[i]? = some z) : l.drop i = z :: l.drop (i + 1) := by
  obtain ⟨hi, h1⟩ := List.getElem?_eq_some_iff.1 h
  rw [List.drop_eq_getElem_cons hi, h1]
theorem drop_out {l : List Nat} {i : Nat} (h : l.length ≤ i) : l.drop i = [] := List.drop_eq_nil_of_le h
set_option maxRecDepth 100000 in
set_option maxHeartbeats 4000000 in
theorem rdr_pass (b a : Nat) (s t : ByteArray) (w : World) (h : Rdr w b s a) (ha : a ≤ s.size) (hs : s.size ≤ 140737488355328) (ht : t.size ≤ 100) :
    Calls Try.prog 21 #[rpt b, .string t] w fun e w' => e = .returned (.bool (decide (pre ((nats s).drop a) (nats t) = t.size))) ∧ Rdr w' b s (a + pre ((nats s).drop a) (nats t)) ∧ But b w w' := by
  have HR := Lib.hid h
  have HS := Lib.hid hs
  obtain ⟨P, hP⟩ : ∃ P, P = pre ((nats s).drop a) (nats t) := ⟨_, rfl⟩
  have HP := Lib.hid hP
  have HPL := Lib.hid (show P ≤ t.size ∧ P + a ≤ s.size by
    have := pre_le ((nats s).drop a) (nats t)
    rw [List.length_drop, nats_len, nats_len] at this
    omega)
  rw [← hP]
  clear hP h
  go_enter Try.func21, Try.ntmps21
  go_wp2_with fail
  go_loopg [8] t.size (fun gh s8 wx => ∃ i : Nat, i + gh = t.size ∧ s8 = .int .i64 (i : Int) ∧ Hid (P = i + pre ((nats s).drop (a + i)) ((nats t).drop i)) ∧ Hid (Rdr wx b s (a + i)) ∧ Hid (But b w wx))
  case atStart => exact ⟨0, by omega, by go_num, Lib.hid (by rw [HP.out]; simp), Lib.hid HR.out, Lib.hid (But.refl _ _)⟩
  case round =>
    obtain ⟨i, hi, rfl, hp, hr, hb⟩ := hrel
    rename World => W
    by_cases hin : i < t.size
    case neg =>
      have u1 : decide ((i : Int) < (t.size : Int)) = false := decide_eq_false (by omega)
      have u1' : decide (i < t.size) = false := decide_eq_false hin
      have HF := Lib.hid (show P = i ∧ i = t.size by
        have h1 := hp.out
        rw [drop_out (show (nats t).length ≤ i by rw [nats_len]; omega), pre_end] at h1
        omega)
      clear hin hi
      go_wp2_with fail
      go_ret
      refine ⟨?_, by rw [HF.out.1]; exact hr.out, hb.out⟩
      rw [HF.out.1, HF.out.2]
      simp
    case pos =>
      have u1 : decide ((i : Int) < (t.size : Int)) = true := decide_eq_true (by omega)
      have u1' : decide (i < t.size) = true := decide_eq_true hin
      have c0 := hr.out.at0
      have c1 := hr.out.at1
      have f1 := Lies.free hr.out 1
      obtain ⟨q, hq⟩ : ∃ q, q = a + i := ⟨_, rfl⟩
      rw [← hq] at hr hp c1
      have HE := Lib.hid (fun n => rdr_ended b q s (W.drewN n) (hr.out.drewN n))
      by_cases he : q = s.size
      · rw [decide_eq_true he] at HE
        have HF := Lib.hid (show P = i by
          have h1 := hp.out
          rw [drop_out (show (nats s).length ≤ q by rw [nats_len]; omega), pre_nil] at h1
          omega)
        have HQ := Lib.hid hq
        have HN := Lib.hid hin
        clear hin hi he hq hp
        go_wp2_with fail
        go_quiet ((go_at_call 22; exact Calls.quiet_of (HE.out _)))
        go_wp2
        go_ret
        refine ⟨?_, by rw [HF.out, ← HQ.out]; exact hr.out, hb.out.drewN _⟩
        rw [HF.out, decide_eq_false (show ¬ i = t.size by have := HN.out; omega)]
        rfl
      · rw [decide_eq_false he] at HE
        have hql : q < s.size := by have := HPL.out; have := hp.out; omega
        obtain ⟨z, hz⟩ : ∃ z, z = (s[q]'hql).toNat := ⟨_, rfl⟩
        have hx : ((s[q]'hql).toNat : Int) = (z : Int) := by rw [hz]
        obtain ⟨y, hy⟩ : ∃ y, y = (t[i]'hin).toNat := ⟨_, rfl⟩
        have hx2 : ((t[i]'hin).toNat : Int) = (y : Int) := by rw [hy]
        have hzi := drop_at (show (nats s)[q]? = some z by rw [hz]; exact nats_at s q hql)
        have hyi := drop_at (show (nats t)[i]? = some y by rw [hy]; exact nats_at t i hin)
        have p2 := hp.out
        rw [hzi, hyi] at p2
        have b1 : (0 : Int) ≤ (q : Int) := by omega
        have b2 : (q : Int) < (s.size : Int) := by omega
        have b3 : (0 : Int) ≤ (i : Int) := by omega
        have b4 : (i : Int) < (t.size : Int) := by omega
        have HQ := Lib.hid hq
        have HN := Lib.hid hin
        have HI := Lib.hid hi
        by_cases hzy : z = y
        · subst hzy
          rw [pre_eq] at p2
          have HP2 := Lib.hid p2
          clear hi he hq hp hz hy hzi hyi p2
          go_wp2_with fail
          go_quiet ((go_at_call 22; exact Calls.quiet_of (HE.out _)))
          go_wp2
          go_roundg (t.size - (i + 1))
          case measure => have := HI.out; have := HN.out; omega
          case rel =>
            refine ⟨i + 1, by have := HN.out; omega, by go_num, Lib.hid ?_, Lib.hid ?_, Lib.hid ?_⟩
            · rw [show a + (i + 1) = q + 1 by rw [HQ.out]; omega, HP2.out]
              omega
            · rw [show a + (i + 1) = q + 1 by rw [HQ.out]; omega]
              exact (hr.out.drewN nq).next (q + 1)
            · exact (hb.out.drewN _).trans (But.set b 1 _ _)
        · rw [pre_ne hzy] at p2
          have HP2 := Lib.hid p2
          have hne : decide ((z : Int) = (y : Int)) = false := decide_eq_false (by omega)
          clear hi he hq hp hz hy hzi hyi p2
          go_wp2_with fail
          go_quiet ((go_at_call 22; exact Calls.quiet_of (HE.out _)))
          go_wp2
          go_ret
          have hPi : P = i := by have := HP2.out; omega
          refine ⟨?_, by rw [hPi, ← HQ.out]; exact hr.out, hb.out.drewN _⟩
          rw [hPi, decide_eq_false (show ¬ i = t.size by have := HN.out; omega)]
          rfl
theorem ck_err (n c : Int) (w : World) : Calls Try.prog 13 #[.string cook, .int .i64 n, .iface 32 (.int .i64 c)] w fun e w' => (∃ x, e = .returned x ∧ ErrAt w' cook n c x) ∧ Below w.heap.size w w' := by
  refine (at_chain cook n [] c _ w rfl).mono ?_
  rintro e w' ⟨r, rfl, h, hb⟩
  exact ⟨⟨r, rfl, ⟨_, h⟩⟩, hb⟩
set_option maxRecDepth 100000 in
theorem rdr_refused (b i : Nat) (s : ByteArray) (w : World) (h : Rdr w b s i) :
    Calls Try.prog 19 #[rpt b] w fun e w' => (∃ x, e = .returned (.tuple #[.slice none 0 0, x]) ∧ ErrAt w' cook (i : Int) 2 x) ∧ Below w.heap.size w w' := by
  have c1 := h.at1
  have HE := Lib.hid (ck_err i 2 w)
  clear h
  go_enter Try.func19, Try.ntmps19
  go_wp2_with fail
  refine HE.out.mono ?_
  rintro e w2 ⟨⟨x, rfl, hx⟩, hb⟩
  have HX := Lib.hid hx
  have HB := Lib.hid hb
  clear hx hb
  go_wp2
  go_ret2
  exact ⟨⟨x, rfl, HX.out⟩, HB.out⟩
end Go.Proofs.Ytaniekpkcihpiaa
