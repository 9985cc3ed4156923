/-
  Texts of one claim, merged.
  CookieMath3: Plain mathematics of chapter 13: headers, read piece by piece. No program is run here.
  CookieP1: The program's reader of chapter 13: whether it is at the end, what must stand next; the error of what can't be. No conditions but those typed.
-/
import Derived.Test.YtaniekpkcihpiaaDoorPart03
import Derived.Test.YtaniekpkcihpiaaDoorPart08
import Derived.Test.YtaniekpkcihpiaaDoorPart07
import Derived.BigQuiet
import Derived.Deep.RegionHeld3
import Derived.Deep.RegionWith
import Derived.Deep.LoopGhost
namespace CookieMath
open TextMath

/-- How far two lists go together. -/
def pre : List Nat → List Nat → Nat
  | x :: u, y :: m => if x = y then pre u m + 1 else 0
  | _, _ => 0
theorem pre_nil (m : List Nat) : pre [] m = 0 := by cases m <;> rfl
theorem pre_end (u : List Nat) : pre u [] = 0 := by cases u <;> rfl
theorem pre_ne {x y : Nat} (h : x ≠ y) (u m : List Nat) : pre (x :: u) (y :: m) = 0 := if_neg h
theorem pre_eq (x : Nat) (u m : List Nat) : pre (x :: u) (x :: m) = pre u m + 1 := if_pos rfl
theorem pre_le : ∀ (u m : List Nat), pre u m ≤ m.length ∧ pre u m ≤ u.length
  | [], m => by rw [pre_nil]; omega
  | x :: u, [] => by rw [pre_end]; omega
  | x :: u, y :: m => by
    have := pre_le u m
    unfold pre
    simp only [List.length_cons]
    split <;> omega
theorem pre_drop : ∀ {u m : List Nat}, pre u m = m.length → u = m ++ u.drop m.length
  | u, [], _ => rfl
  | [], y :: m, h => by rw [pre_nil] at h; simp at h
  | x :: u, y :: m, h => by
    unfold pre at h
    split at h
    · rename_i hxy
      rw [List.length_cons] at h
      rw [List.length_cons, List.drop_succ_cons, List.cons_append, ← pre_drop (show pre u m = m.length by omega), hxy]
    · simp at h
/-- How many bytes of this kind stand first. -/
def far (p : Nat → Bool) (l : List Nat) : Nat := (l.takeWhile p).length
theorem far_nil (p : Nat → Bool) : far p [] = 0 := rfl
theorem far_yes {p : Nat → Bool} {z : Nat} (h : p z = true) (l : List Nat) : far p (z :: l) = far p l + 1 := by
  unfold far
  rw [List.takeWhile_cons, h]
  rfl
theorem far_no {p : Nat → Bool} {z : Nat} (h : p z = false) (l : List Nat) : far p (z :: l) = 0 := by
  unfold far
  rw [List.takeWhile_cons, h]
  rfl
theorem far_le (p : Nat → Bool) (l : List Nat) : far p l ≤ l.length := by
  unfold far
  exact (List.takeWhile_prefix p).length_le
theorem far_all {p : Nat → Bool} : ∀ {l : List Nat}, ∀ c ∈ l.take (far p l), p c = true
  | [], c, h => by simp at h
  | z :: l, c, h => by
    cases hz : p z with
    | false =>
      rw [far_no hz] at h
      simp at h
    | true =>
      rw [far_yes hz, List.take_succ_cons] at h
      rcases List.mem_cons.1 h with rfl | h
      · exact hz
      · exact far_all c h
theorem far_stop {p : Nat → Bool} : ∀ {l r : List Nat} {c : Nat}, l.drop (far p l) = c :: r → p c = false
  | [], r, c, h => by simp at h
  | z :: l, r, c, h => by
    cases hz : p z with
    | false =>
      rw [far_no hz] at h
      obtain ⟨rfl, -⟩ : z = c ∧ l = r := by simpa using h
      exact hz
    | true =>
      rw [far_yes hz, List.drop_succ_cons] at h
      exact far_stop h
/-- No name, or none with an equals sign behind it. -/
theorem run_refuse (u nm : List Nat) (out : List Pair) (i : Nat) (h : far tokenOctet u = 0 ∨ pre (u.drop (far tokenOctet u)) [61] = 0) : run 0 [] nm out u i = .inr (i + far tokenOctet u) := by
  obtain ⟨k, hk⟩ : ∃ k, k = far tokenOctet u := ⟨_, rfl⟩
  have hs : u = u.take k ++ u.drop k := (List.take_append_drop k u).symm
  have hl : (u.take k).length = k := by rw [List.length_take, hk]; exact Nat.min_eq_left (far_le _ _)
  have h1 := run_name (u.take k) [] nm out (u.drop k) i (by rw [hk]; exact far_all)
  rw [← hs, hl] at h1
  rw [h1, ← hk]
  rw [← hk] at h
  cases hd : u.drop k with
  | nil =>
    rw [run, if_neg (by decide)]
  | cons c r =>
    have hc : tokenOctet c = false := far_stop (by rw [← hk]; exact hd)
    rw [run_cons, if_pos rfl, if_neg (by rw [hc]; decide), if_pos]
    rcases h with h | h
    · right
      rw [h]
      rfl
    · left
      intro h2
      rw [hd, h2, pre_eq] at h
      omega
/-- A name, and an equals sign behind it. -/
theorem run_named (u nm : List Nat) (out : List Pair) (i : Nat) (h0 : far tokenOctet u ≠ 0) (h : pre (u.drop (far tokenOctet u)) [61] = 1) : run 0 [] nm out u i = run 1 [] (u.take (far tokenOctet u)) out (u.drop (far tokenOctet u + 1)) (i + far tokenOctet u + 1) := by
  obtain ⟨k, hk⟩ : ∃ k, k = far tokenOctet u := ⟨_, rfl⟩
  have hs : u = u.take k ++ u.drop k := (List.take_append_drop k u).symm
  have hl : (u.take k).length = k := by rw [List.length_take, hk]; exact Nat.min_eq_left (far_le _ _)
  have h1 := run_name (u.take k) [] nm out (u.drop k) i (by rw [hk]; exact far_all)
  rw [← hs, hl] at h1
  rw [h1, ← hk]
  rw [← hk] at h h0
  have h2 := pre_drop (m := [61]) (show pre (u.drop k) [61] = 1 from h)
  rw [List.drop_drop] at h2
  rw [h2, List.singleton_append, run_cons, if_pos rfl, if_neg (by rw [eq_no]; decide), if_neg (by
    rintro (h3 | h3)
    · exact h3 rfl
    · rw [List.nil_append] at h3
      rw [h3] at hl
      exact h0 hl.symm)]
  rfl
theorem run_valued (u nm : List Nat) (out : List Pair) (i : Nat) : run 1 [] nm out u i = run 1 (u.take (far octet u)) nm out (u.drop (far octet u)) (i + far octet u) := by
  obtain ⟨k, hk⟩ : ∃ k, k = far octet u := ⟨_, rfl⟩
  have hs : u = u.take k ++ u.drop k := (List.take_append_drop k u).symm
  have hl : (u.take k).length = k := by rw [List.length_take, hk]; exact Nat.min_eq_left (far_le _ _)
  have h1 := run_value (u.take k) [] nm out (u.drop k) i (by rw [hk]; exact far_all)
  rw [← hs, hl] at h1
  rw [h1, ← hk]
  rfl
/-- A value to the end. -/
theorem run_last (u nm : List Nat) (out : List Pair) (i : Nat) (h : u.length ≤ far octet u) : run 1 [] nm out u i = .inl (out ++ [(nm, u.take (far octet u))]) := by
  rw [run_valued, List.drop_eq_nil_of_le h, run, if_pos rfl]
/-- A value that isn't followed by what must stand between. -/
theorem run_cut (u nm : List Nat) (out : List Pair) (i : Nat) (h : far octet u < u.length) (h2 : pre (u.drop (far octet u)) [59, 32] ≠ 2) : run 1 [] nm out u i = .inr (i + far octet u + pre (u.drop (far octet u)) [59, 32]) := by
  rw [run_valued]
  cases hd : u.drop (far octet u) with
  | nil =>
    have := congrArg List.length hd
    rw [List.length_drop, List.length_nil] at this
    omega
  | cons c r =>
    rw [hd] at h2
    have hc := far_stop hd
    rw [run_cons, if_neg (by decide), if_pos rfl, if_neg (by rw [hc]; decide)]
    by_cases h59 : c = 59
    · subst h59
      rw [if_neg (fun h => h rfl)]
      rw [pre_eq] at h2 ⊢
      cases r with
      | nil =>
        rw [run, if_neg (by decide), pre_nil]
      | cons c2 r2 =>
        rw [run_cons, if_neg (by decide), if_neg (by decide)]
        by_cases h32 : c2 = 32
        · subst h32
          rw [pre_eq, pre_end] at h2
          exact absurd rfl h2
        · rw [if_pos h32, pre_ne h32]
    · rw [if_pos h59, pre_ne h59]
      rfl
/-- A value, and what must stand between, behind it. -/
theorem run_more (u nm : List Nat) (out : List Pair) (i : Nat) (h2 : pre (u.drop (far octet u)) [59, 32] = 2) : run 1 [] nm out u i = run 0 [] [] (out ++ [(nm, u.take (far octet u))]) (u.drop (far octet u + 2)) (i + far octet u + 2) := by
  rw [run_valued]
  have h3 := pre_drop (m := [59, 32]) (show pre (u.drop (far octet u)) [59, 32] = 2 from h2)
  rw [List.drop_drop] at h3
  rw [h3]
  show run 1 _ nm out (59 :: 32 :: u.drop (far octet u + 2)) _ = _
  rw [run_cons, if_neg (by decide), if_pos rfl, if_neg (by rw [semi_no]; decide), if_neg (fun h => h rfl)]
  rw [run_cons, if_neg (by decide), if_neg (by decide), if_neg (fun h => h rfl)]
end CookieMath
namespace Go.Proofs.YtaniekpkcihpiaaDoor
open Go.RowKit TextNat CookieMath

abbrev rpt (b : Nat) : Value := .pointer (some ⟨b, 0, none⟩)
/-- A reader of the text s at the place i lies in block b. -/
def Rdr (w : World) (b : Nat) (s : ByteArray) (i : Nat) : Prop := Lies w b [.string s, .int .i64 (i : Int)] 44
theorem Rdr.at0 {w : World} {b i : Nat} {s : ByteArray} (h : Rdr w b s i) : w.cell? ⟨b, 0, none⟩ = some (.string s) := Lies.cell (i := 0) h rfl
theorem Rdr.at1 {w : World} {b i : Nat} {s : ByteArray} (h : Rdr w b s i) : w.cell? ⟨b, 1, none⟩ = some (.int .i64 (i : Int)) := Lies.cell (i := 1) h rfl
theorem Rdr.drewN {w : World} {b i : Nat} {s : ByteArray} (h : Rdr w b s i) (n : Nat) : Rdr (w.drewN n) b s i := h
theorem Rdr.next {w : World} {b i : Nat} {s : ByteArray} (h : Rdr w b s i) (j : Nat) : Rdr (w.setCell ⟨b, 1, none⟩ (.int .i64 (j : Int))) b s j := Lies.set h 1 _
set_option maxRecDepth 100000 in
theorem rdr_ended (b i : Nat) (s : ByteArray) (w : World) (h : Rdr w b s i) :
    Calls Tryd.prog 21 #[rpt b] w fun e w' => e = .returned (.bool (decide (i = s.size))) ∧ ∃ n, w' = w.drewN n := by
  have c0 := h.at0
  have c1 := h.at1
  have e1 : ((i : Int) == (s.size : Int)) = decide (i = s.size) := by rw [Bool.eq_iff_iff]; simp; omega
  obtain ⟨t, ht⟩ : ∃ t, t = decide (i = s.size) := ⟨_, rfl⟩
  rw [← ht] at e1 ⊢
  clear ht h
  go_enter Tryd.func21, Tryd.ntmps21
  go_wp2_with fail
  go_quiet (fail)
  go_wp2_with fail
  go_ret
  exact ⟨rfl, _, rfl⟩
theorem drop_at {l : List Nat} {i z : Nat} (h : l[i]? = some z) : l.drop i = z :: l.drop (i + 1) := by
  obtain ⟨hi, h1⟩ := List.getElem?_eq_some_iff.1 h
  rw [List.drop_eq_getElem_cons hi, h1]
theorem drop_out {l : List Nat} {i : Nat} (h : l.length ≤ i) : l.drop i = [] := List.drop_eq_nil_of_le h
set_option maxRecDepth 100000 in
set_option maxHeartbeats 4000000 in
theorem rdr_pass (b a : Nat) (s t : ByteArray) (w : World) (h : Rdr w b s a) (ha : a ≤ s.size) (hs : s.size ≤ 140737488355328) (ht : t.size ≤ 100) :
    Calls Tryd.prog 19 #[rpt b, .string t] w fun e w' => e = .returned (.bool (decide (pre ((nats s).drop a) (nats t) = t.size))) ∧ Rdr w' b s (a + pre ((nats s).drop a) (nats t)) ∧ But b w w' := by
  have HR := Lib.hid h
  have HS := Lib.hid hs
  obtain ⟨P, hP⟩ : ∃ P, P = pre ((nats s).drop a) (nats t) := ⟨_, rfl⟩
  have HP := Lib.hid hP
  have HPL := Lib.hid (show P ≤ t.size ∧ P + a ≤ s.size by
    have := pre_le ((nats s).drop a) (nats t)
    rw [List.length_drop, nats_len, nats_len] at this
    omega)
  rw [← hP]
  clear hP h
  go_enter Tryd.func19, Tryd.ntmps19
  go_wp2_with fail
  go_loopg [8] t.size (fun gh s8 wx => ∃ i : Nat, i + gh = t.size ∧ s8 = .int .i64 (i : Int) ∧ Hid (P = i + pre ((nats s).drop (a + i)) ((nats t).drop i)) ∧ Hid (Rdr wx b s (a + i)) ∧ Hid (But b w wx))
  case atStart => exact ⟨0, by omega, by go_num, Lib.hid (by rw [HP.out]; simp), Lib.hid HR.out, Lib.hid (But.refl _ _)⟩
  case round =>
    obtain ⟨i, hi, rfl, hp, hr, hb⟩ := hrel
    rename World => W
    by_cases hin : i < t.size
    case neg =>
      have u1 : decide ((i : Int) < (t.size : Int)) = false := decide_eq_false (by omega)
      have u1' : decide (i < t.size) = false := decide_eq_false hin
      have HF := Lib.hid (show P = i ∧ i = t.size by
        have h1 := hp.out
        rw [drop_out (show (nats t).length ≤ i by rw [nats_len]; omega), pre_end] at h1
        omega)
      clear hin hi
      go_wp2_with fail
      go_ret
      refine ⟨?_, by rw [HF.out.1]; exact hr.out, hb.out⟩
      rw [HF.out.1, HF.out.2]
      simp
    case pos =>
      have u1 : decide ((i : Int) < (t.size : Int)) = true := decide_eq_true (by omega)
      have u1' : decide (i < t.size) = true := decide_eq_true hin
      have c0 := hr.out.at0
      have c1 := hr.out.at1
      have f1 := Lies.free hr.out 1
      obtain ⟨q, hq⟩ : ∃ q, q = a + i := ⟨_, rfl⟩
      rw [← hq] at hr hp c1
      have HE := Lib.hid (fun n => rdr_ended b q s (W.drewN n) (hr.out.drewN n))
      by_cases he : q = s.size
      · rw [decide_eq_true he] at HE
        have HF := Lib.hid (show P = i by
          have h1 := hp.out
          rw [drop_out (show (nats s).length ≤ q by rw [nats_len]; omega), pre_nil] at h1
          omega)
        have HQ := Lib.hid hq
        have HN := Lib.hid hin
        clear hin hi he hq hp
        go_wp2_with fail
        go_quiet ((go_at_call 21; exact Calls.quiet_of (HE.out _)))
        go_wp2
        go_ret
        refine ⟨?_, by rw [HF.out, ← HQ.out]; exact hr.out, hb.out.drewN _⟩
        rw [HF.out, decide_eq_false (show ¬ i = t.size by have := HN.out; omega)]
        rfl
      · rw [decide_eq_false he] at HE
        have hql : q < s.size := by have := HPL.out; have := hp.out; omega
        obtain ⟨z, hz⟩ : ∃ z, z = (s[q]'hql).toNat := ⟨_, rfl⟩
        have hx : ((s[q]'hql).toNat : Int) = (z : Int) := by rw [hz]
        obtain ⟨y, hy⟩ : ∃ y, y = (t[i]'hin).toNat := ⟨_, rfl⟩
        have hx2 : ((t[i]'hin).toNat : Int) = (y : Int) := by rw [hy]
        have hzi := drop_at (show (nats s)[q]? = some z by rw [hz]; exact nats_at s q hql)
        have hyi := drop_at (show (nats t)[i]? = some y by rw [hy]; exact nats_at t i hin)
        have p2 := hp.out
        rw [hzi, hyi] at p2
        have b1 : (0 : Int) ≤ (q : Int) := by omega
        have b2 : (q : Int) < (s.size : Int) := by omega
        have b3 : (0 : Int) ≤ (i : Int) := by omega
        have b4 : (i : Int) < (t.size : Int) := by omega
        have HQ := Lib.hid hq
        have HN := Lib.hid hin
        have HI := Lib.hid hi
        by_cases hzy : z = y
        · subst hzy
          rw [pre_eq] at p2
          have HP2 := Lib.hid p2
          clear hi he hq hp hz hy hzi hyi p2
          go_wp2_with fail
          go_quiet ((go_at_call 21; exact Calls.quiet_of (HE.out _)))
          go_wp2
          go_roundg (t.size - (i + 1))
          case measure => have := HI.out; have := HN.out; omega
          case rel =>
            refine ⟨i + 1, by have := HN.out; omega, by go_num, Lib.hid ?_, Lib.hid ?_, Lib.hid ?_⟩
            · rw [show a + (i + 1) = q + 1 by rw [HQ.out]; omega, HP2.out]
              omega
            · rw [show a + (i + 1) = q + 1 by rw [HQ.out]; omega]
              exact (hr.out.drewN nq).next (q + 1)
            · exact (hb.out.drewN _).trans (But.set b 1 _ _)
        · rw [pre_ne hzy] at p2
          have HP2 := Lib.hid p2
          have hne : decide ((z : Int) = (y : Int)) = false := decide_eq_false (by omega)
          clear hi he hq hp hz hy hzi hyi p2
          go_wp2_with fail
          go_quiet ((go_at_call 21; exact Calls.quiet_of (HE.out _)))
          go_wp2
          go_ret
          have hPi : P = i := by have := HP2.out; omega
          refine ⟨?_, by rw [hPi, ← HQ.out]; exact hr.out, hb.out.drewN _⟩
          rw [hPi, decide_eq_false (show ¬ i = t.size by have := HN.out; omega)]
          rfl
theorem ck_err (n c : Int) (w : World) : Calls Tryd.prog 16 #[.string cook, .int .i64 n, .iface 46 (.int .i64 c)] w fun e w' => (∃ x, e = .returned x ∧ ErrAt w' cook n c x) ∧ Below w.heap.size w w' := by
  refine (at_chain cook n [] c _ w rfl).mono ?_
  rintro e w' ⟨r, rfl, h, hb⟩
  exact ⟨⟨r, rfl, ⟨_, h⟩⟩, hb⟩
set_option maxRecDepth 100000 in
theorem rdr_refused (b i : Nat) (s : ByteArray) (w : World) (h : Rdr w b s i) :
    Calls Tryd.prog 15 #[rpt b] w fun e w' => (∃ x, e = .returned (.tuple #[.slice none 0 0, x]) ∧ ErrAt w' cook (i : Int) 2 x) ∧ Below w.heap.size w w' := by
  have c1 := h.at1
  have HE := Lib.hid (ck_err i 2 w)
  clear h
  go_enter Tryd.func15, Tryd.ntmps15
  go_wp2_with fail
  refine HE.out.mono ?_
  rintro e w2 ⟨⟨x, rfl, hx⟩, hb⟩
  have HX := Lib.hid hx
  have HB := Lib.hid hb
  clear hx hb
  go_wp2
  go_ret2
  exact ⟨⟨x, rfl, HX.out⟩, HB.out⟩
end Go.Proofs.YtaniekpkcihpiaaDoor
