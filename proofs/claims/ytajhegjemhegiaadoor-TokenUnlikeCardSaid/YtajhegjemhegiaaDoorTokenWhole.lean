/-
  The program's functions of chapter 12. The conditions: mac's table; what came in lies in memory; a text of at most 20,000 bytes.
-/
import Derived.Test.YtajhegjemhegiaaDoorPart27
import Derived.Test.YtajhegjemhegiaaDoorPart23
import Derived.Test.YtajhegjemhegiaaDoorPart26
import Derived.Test.YtajhegjemhegiaaDoorPart28
namespace Go.Proofs.YtajhegjemhegiaaDoor
open Go.RowKit TextNat TokenMath
set_option maxRecDepth 100000 in
set_option maxHeartbeats 4000000 in
theorem sealed_ok (K B : ByteArray) (w : World) (hP : Parts w) (hK : K.size ≤ 5000) (hB : B.size ≤ 5000) :
    Calls Tryd.prog 23 #[.string K, .string B] w fun e w' => e = .returned (.string (txt (tok (nats B) (ShaMath.tag (nats K) (nats B))))) ∧ Below w.heap.size w w' := by
  obtain ⟨gs, hgs⟩ : ∃ gs, gs = ShaMath.tag (nats K) (nats B) := ⟨_, rfl⟩
  have hgl : gs.length = 32 := by rw [hgs]; rfl
  have hg256 : ∀ b ∈ gs, b < 256 := by rw [hgs]; exact ShaMath.digest_lt _
  obtain ⟨G, hG⟩ : ∃ G, G = txt gs := ⟨_, rfl⟩
  obtain ⟨E1, hE1⟩ : ∃ E1, E1 = txt (TextMath.enc (nats B)) := ⟨_, rfl⟩
  obtain ⟨E2, hE2⟩ : ∃ E2, E2 = txt (TextMath.enc gs) := ⟨_, rfl⟩
  have hE1l : E1.size ≤ 10000 := by rw [hE1, txt_len, TokenMath.enc_len, nats_len]; omega
  have hE2l : E2.size ≤ 1000 := by rw [hE2, txt_len, TokenMath.enc_len]; omega
  have htok : txt (tok (nats B) gs) = E1 ++ ⟨#[46]⟩ ++ E2 := by
    unfold TokenMath.tok
    show txt (TextMath.enc (nats B) ++ ([46] ++ TextMath.enc gs)) = _
    rw [hE1, hE2, ← txt_append, ← txt_append, ← ByteArray.append_assoc]
    rfl
  have H1 := Lib.hid (fun w1 => show Calls Tryd.prog 39 #[.string B] w1 (fun e w' => e = .returned (.string E1) ∧ Below w1.heap.size w1 w') by
    rw [hE1]; exact encOk B w1 (by omega))
  have H3 := Lib.hid (fun w1 (h : Below w.heap.size w w1) => show Calls Tryd.prog 40 #[.string K, .string B] w1 (fun e w' => e = .returned (.string G) ∧ Below w1.heap.size w1 w') by
    rw [hG, hgs]; exact macTag K B w1 hK hB (hP.grown h))
  have H4 := Lib.hid (fun w1 => show Calls Tryd.prog 39 #[.string G] w1 (fun e w' => e = .returned (.string E2) ∧ Below w1.heap.size w1 w') by
    have := encOk G w1 (by rw [hG, txt_len]; omega)
    rw [hG, nats_txt _ hg256, ← hE2, ← hG] at this
    exact this)
  have HEn := Lib.hid (fun u r w1 (h : u = B ∧ r = E1 ∨ u = G ∧ r = E2) => show Calls Tryd.prog 39 #[.string u] w1 (fun e w' => e = .returned (.string r) ∧ Below w1.heap.size w1 w') by
    rcases h with ⟨rfl, rfl⟩ | ⟨rfl, rfl⟩
    · exact H1.out w1
    · exact H4.out w1)
  have HK := Lib.hid (show ¬ 9223372036854775807 < E1.size + 1 ∧ ¬ 9223372036854775807 < E1.size + 1 + E2.size by omega)
  rw [← hgs, htok]
  clear H1 H4 htok hE1l hE2l hE1 hE2 hG hgs hgl hg256 hP hK hB
  obtain ⟨k1, k2⟩ := HK.out
  have hs0 : Below w.heap.size w w := Below.refl _ _
  go_enter Tryd.func23, Tryd.ntmps23
  go_wp2_with fail
  refine (HEn.out _ _ _ (.inl ⟨rfl, rfl⟩)).mono ?_
  rintro e w1 ⟨rfl, hb⟩
  have HB := Lib.hid hb
  clear hb
  go_wp2_with fail
  refine (H3.out _ HB.out).mono ?_
  rintro e w2 ⟨rfl, hb⟩
  replace HB := Lib.hid (HB.out.trans (hb.mono HB.out.size))
  clear hb
  go_wp2_with fail
  refine (HEn.out _ _ _ (.inr ⟨rfl, rfl⟩)).mono ?_
  rintro e w3 ⟨rfl, hb⟩
  replace HB := Lib.hid (HB.out.trans (hb.mono HB.out.size))
  clear hb
  go_wp2
  go_ret
  exact ⟨rfl, HB.out⟩
-- BEHIND
theorem key_of {m : ByteArray} {n : Int} (h : 0 ≤ n ∧ n ≤ 1099511627776) : keyOf m n = txt (ShaMath.derive (nats m) n.toNat) := by
  unfold keyOf
  rw [show (n % 18446744073709551616).toNat = n.toNat by omega]
theorem key_nats (m : List Nat) (n : Nat) : nats (txt (ShaMath.derive m n)) = ShaMath.derive m n := nats_txt _ (ShaMath.digest_lt _)
theorem alive_own {m : ByteArray} {c : Int} (h : rightB m c = true) : aliveB c c = true := by
  have q := right_bounds h
  unfold aliveB
  simp only [Bool.and_eq_true, decide_eq_true_eq]
  omega
set_option maxRecDepth 100000 in
set_option maxHeartbeats 8000000 in
theorem mintOk : MintOk rng := by
  intro b S m c x w h hr hP hx hf
  have HH := Lib.hid (show HasR rng 0 w b m c from ⟨S, h, fun _ _ => Nat.zero_le _⟩)
  have HR := Lib.hid hr
  have HP := Lib.hid hP
  have q := right_bounds hr
  have HCu := Lib.hid (fun w1 (hb : Below w.heap.size w w1) => HasR.current currentOk (HH.out.below hb) hr)
  have HKey := Lib.hid (fun w1 (hb : Below w.heap.size w w1) => show Calls Tryd.prog 21 #[rptr b, .int .i64 c] w1 (fun e w' => e = .returned (.tuple #[.string (keyOf m c), .nilIface]) ∧ Below w1.heap.size w1 w') by
    refine (HasR.key keyOk (HH.out.below hb) hr (n := c) ⟨by omega, by omega⟩ (hP.grown hb)).mono ?_
    rintro e w' ⟨h1, h2⟩
    rw [if_pos (alive_own hr)] at h1
    exact ⟨h1, h2⟩)
  have HEnc := Lib.hid (fun w1 (hz : Ints w1 x.cp x.cl) => encClaims_ok (x.keyed c) w1 hz ⟨hf.small.epoch, hf.small.issue, ⟨by show _ ≤ c; omega, by show c ≤ _; omega⟩, hf.small.vec⟩)
  have HSeal := Lib.hid (fun w1 (hb : Below w.heap.size w w1) (hm : (x.keyed c).right = true) => show Calls Tryd.prog 23 #[.string (keyOf m c), .string (txt (WireMath.claimsBytesT (x.keyed c).t))] w1 (fun e w' => e = .returned (.string (txt (tokenOf (nats m) (x.keyed c).t))) ∧ Below w1.heap.size w1 w') by
    have hi := rightC_t ((rightC_iff _).1 hm)
    have hb256 := bytes_lt hi (t_octs _).session (t_octs _).user
    have hs := sealed_ok (keyOf m c) (txt (WireMath.claimsBytesT (x.keyed c).t)) w1 (hP.grown hb) (by rw [key_of ⟨by omega, by omega⟩, txt_len]; show 32 ≤ 5000; omega) (by rw [txt_len]; have := bytes_short hi; omega)
    rw [nats_txt _ hb256, key_of ⟨by omega, by omega⟩, key_nats] at hs
    rw [key_of ⟨by omega, by omega⟩]
    exact hs)
  have HM1 := Lib.hid (show (x.keyed c).right = true → ∀ w' e, e = .returned (.tuple #[.string (txt (tokenOf (nats m) (x.keyed c).t)), .nilIface]) → MintIs w' m c x e from fun h w' e he => by unfold MintIs; rw [if_pos h]; exact he)
  have HM2 := Lib.hid (show ¬ (x.keyed c).right = true → ∀ w' e, (∃ r, e = .returned (.tuple #[.string ⟨#[]⟩, r]) ∧ ErrIs w' 1 r) → MintIs w' m c x e from fun h w' e he => by unfold MintIs; rw [if_neg h]; exact he)
  simp only [ClaimsV.keyed] at HEnc HSeal HM1 HM2
  clear h hr hP q hf
  obtain ⟨KK, hKK⟩ : ∃ KK, KK = keyOf m c := ⟨_, rfl⟩
  rw [← hKK] at HKey HSeal
  clear hKK
  obtain ⟨se, us, ep, is, ky, cp, cl, cc⟩ := x
  simp only [ClaimsV.val] at *
  have HX := Lib.hid hx
  clear hx
  go_enter Tryd.func11, Tryd.ntmps11
  go_wp2_with fail
  obtain ⟨W, hW⟩ : ∃ W, W = w.alloc (.cells #[.string se, .string us, .int .i64 ep, .int .i64 is, .int .i64 ky, .slice cp cl.length cc] 31) := ⟨_, rfl⟩
  rw [← hW]
  have hb : Below w.heap.size w W := by rw [hW]; exact (Below.refl _ _).alloc (Nat.le_refl _) _
  have HRow := Lib.hid (show Row W w.heap.size [.string se, .string us, .int .i64 ep, .int .i64 is, .int .i64 ky, .slice cp cl.length cc] 31 by rw [hW]; exact Row.new w _ _)
  have HB := Lib.hid hb
  clear hb hW
  refine (HCu.out _ HB.out).mono ?_
  rintro e w1 ⟨rfl, hb⟩
  replace HRow := Lib.hid (HRow.out.below hb)
  replace HB := Lib.hid (HB.out.trans (hb.mono HB.out.size))
  clear hb
  obtain ⟨V, hV⟩ : ∃ V, V = w1.setCell ⟨w.heap.size, 4, none⟩ (.int .i64 c) := ⟨_, rfl⟩
  have s1 := HRow.out.set 4 (.int .i64 c)
  have HB7 := Lib.hid (show Below w.heap.size w V by rw [hV]; exact below_at8 HB.out (Nat.le_refl _) 4 _)
  have c4 := HRow.out.cell (i := 4) rfl
  have cf := HRow.out.free 4
  have e0 := s1.cell (i := 0) rfl; have e1 := s1.cell (i := 1) rfl; have e2 := s1.cell (i := 2) rfl; have e3 := s1.cell (i := 3) rfl; have e4 := s1.cell (i := 4) rfl; have e5 := s1.cell (i := 5) rfl
  rw [← hV] at s1
  have HRow7 := Lib.hid s1
  clear s1
  have HIx := Lib.hid (HX.out.grown HB7.out)
  go_wp2_with fail
  rw [← hV]
  clear hV c4 cf e0 e1 e2 e3 e4 e5
  refine (HEnc.out V HIx.out).mono ?_
  rintro e w2 ⟨h2, hb⟩
  replace HRow7 := Lib.hid (HRow7.out.below hb)
  replace HB7 := Lib.hid (HB7.out.trans (hb.mono HB7.out.size))
  clear hb HRow HB
  unfold EncIsC at h2
  by_cases hm : (ClaimsV.right ⟨se, us, ep, is, c, cp, cl, cc⟩) = true
  · rw [if_pos hm] at h2
    obtain rfl := h2
    obtain ⟨TS, hTS⟩ : ∃ TS, TS = txt (tokenOf (nats m) (ClaimsV.t ⟨se, us, ep, is, c, cp, cl, cc⟩)) := ⟨_, rfl⟩
    obtain ⟨BS, hBS⟩ : ∃ BS, BS = txt (WireMath.claimsBytesT (ClaimsV.t ⟨se, us, ep, is, c, cp, cl, cc⟩)) := ⟨_, rfl⟩
    rw [← hTS, ← hBS] at HSeal
    rw [← hBS]
    have HTS := Lib.hid hTS
    clear hTS hBS
    have r4 := HRow7.out.cell (i := 4) rfl
    go_wp2_with fail
    refine (HKey.out w2 HB7.out).mono ?_
    rintro e w3 ⟨rfl, hb⟩
    replace HB7 := Lib.hid (HB7.out.trans (hb.mono HB7.out.size))
    clear hb r4
    go_wp2_with fail
    refine (HSeal.out _ HB7.out hm).mono ?_
    rintro e w4 ⟨rfl, hb⟩
    replace HB7 := Lib.hid (HB7.out.trans (hb.mono HB7.out.size))
    clear hb
    have HM := Lib.hid hm
    clear hm
    go_wp2
    go_ret2
    exact ⟨HM1.out HM.out _ _ (by rw [← HTS.out]; rfl), HB7.out⟩
  · rw [if_neg hm] at h2
    obtain ⟨x, rfl, hx⟩ := h2
    obtain ⟨T, u, rfl⟩ := (show ErrIs w2 1 x from ⟨_, hx⟩).iface
    clear hx
    have HM := Lib.hid hm
    clear hm
    have r4 := HRow7.out.cell (i := 4) rfl
    go_wp2_with fail
    refine (HKey.out w2 HB7.out).mono ?_
    rintro e w3 ⟨rfl, hb⟩
    replace HB7 := Lib.hid (HB7.out.trans (hb.mono HB7.out.size))
    clear hb r4
    go_wp2_with fail
    refine (refusal_tok 0 1 _).mono ?_
    rintro e w4 ⟨⟨y, rfl, hy⟩, hb⟩
    have HY := Lib.hid hy
    replace HB7 := Lib.hid (HB7.out.trans (hb.mono HB7.out.size))
    clear hb hy
    go_wp2
    go_ret2
    exact ⟨HM2.out HM.out _ _ ⟨_, rfl, HY.out⟩, HB7.out⟩
set_option maxRecDepth 100000 in
theorem cur_none (w : World) : Calls Tryd.prog 24 #[.pointer none] w fun e w' => e = .returned (.int .i64 0) ∧ Below w.heap.size w w' := by
  go_enter Tryd.func24, Tryd.ntmps24
  go_wp2
  go_ret
  exact ⟨rfl, Below.refl _ _⟩
set_option maxRecDepth 100000 in
theorem key_none (n : Int) (w : World) : Calls Tryd.prog 21 #[.pointer none, .int .i64 n] w fun e w' => (∃ T u, e = .returned (.tuple #[.string ⟨#[]⟩, .iface T u])) ∧ Below w.heap.size w w' := by
  have HA := Lib.hid (show Calls Tryd.prog 36 #[.pointer none, .int .i64 n] w fun e w' => e = .returned (.bool false) ∧ w' = w by
    go_enter Tryd.func36, Tryd.ntmps36
    go_wp2
    go_ret
    exact ⟨rfl, rfl⟩)
  have HC := Lib.hid (show Calls Tryd.prog 24 #[.pointer none] w fun e w' => e = .returned (.int .i64 0) ∧ w' = w by
    go_enter Tryd.func24, Tryd.ntmps24
    go_wp2
    go_ret
    exact ⟨rfl, rfl⟩)
  have HE := Lib.hid (ring_err 0 9 w)
  go_enter Tryd.func21, Tryd.ntmps21
  go_wp2_with (first
    | (go_at_call 36; refine HA.out.mono ?_; rintro e w2 ⟨rfl, hw⟩; rw [hw]; clear hw)
    | (go_at_call 24; refine HC.out.mono ?_; rintro e w2 ⟨rfl, hw⟩; rw [hw]; clear hw))
  refine HE.out.mono ?_
  rintro e w3 ⟨⟨x, rfl, hx⟩, hb⟩
  obtain ⟨T, u, rfl⟩ := hx.iface
  have HB2 := Lib.hid hb
  clear hb hx
  go_wp2
  go_ret2
  exact ⟨⟨T, u, rfl⟩, HB2.out⟩
set_option maxRecDepth 100000 in
set_option maxHeartbeats 8000000 in
theorem mint_none (x : ClaimsV) (w : World) (hx : Ints w x.cp x.cl) (hf : x.few) : Calls Tryd.prog 11 #[.pointer none, x.val] w fun e w' => (∃ r, e = .returned (.tuple #[.string ⟨#[]⟩, r]) ∧ ErrIs w' 1 r) ∧ Below w.heap.size w w' := by
  have HCu := Lib.hid cur_none
  have HKey := Lib.hid (fun w1 (_ : Below w.heap.size w w1) => key_none 0 w1)
  have HEnc := Lib.hid (fun w1 (hz : Ints w1 x.cp x.cl) => encClaims_ok (x.keyed 0) w1 hz ⟨hf.small.epoch, hf.small.issue, ⟨by show _ ≤ (0 : Int); omega, by show (0 : Int) ≤ _; omega⟩, hf.small.vec⟩)
  simp only [ClaimsV.keyed] at HEnc
  clear hf
  obtain ⟨se, us, ep, is, ky, cp, cl, cc⟩ := x
  simp only [ClaimsV.val] at *
  have HX := Lib.hid hx
  clear hx
  go_enter Tryd.func11, Tryd.ntmps11
  go_wp2_with fail
  obtain ⟨W, hW⟩ : ∃ W, W = w.alloc (.cells #[.string se, .string us, .int .i64 ep, .int .i64 is, .int .i64 ky, .slice cp cl.length cc] 31) := ⟨_, rfl⟩
  rw [← hW]
  have hb : Below w.heap.size w W := by rw [hW]; exact (Below.refl _ _).alloc (Nat.le_refl _) _
  have HRow := Lib.hid (show Row W w.heap.size [.string se, .string us, .int .i64 ep, .int .i64 is, .int .i64 ky, .slice cp cl.length cc] 31 by rw [hW]; exact Row.new w _ _)
  have HB := Lib.hid hb
  clear hb hW
  refine (HCu.out _).mono ?_
  rintro e w1 ⟨rfl, hb⟩
  replace HRow := Lib.hid (HRow.out.below hb)
  replace HB := Lib.hid (HB.out.trans (hb.mono HB.out.size))
  clear hb
  obtain ⟨V, hV⟩ : ∃ V, V = w1.setCell ⟨w.heap.size, 4, none⟩ (.int .i64 0) := ⟨_, rfl⟩
  have s1 := HRow.out.set 4 (.int .i64 0)
  have HB7 := Lib.hid (show Below w.heap.size w V by rw [hV]; exact below_at8 HB.out (Nat.le_refl _) 4 _)
  have c4 := HRow.out.cell (i := 4) rfl
  have cf := HRow.out.free 4
  have e0 := s1.cell (i := 0) rfl; have e1 := s1.cell (i := 1) rfl; have e2 := s1.cell (i := 2) rfl; have e3 := s1.cell (i := 3) rfl; have e4 := s1.cell (i := 4) rfl; have e5 := s1.cell (i := 5) rfl
  rw [← hV] at s1
  have HRow7 := Lib.hid s1
  clear s1
  have HIx := Lib.hid (HX.out.grown HB7.out)
  go_wp2_with fail
  rw [← hV]
  clear hV c4 cf e0 e1 e2 e3 e4 e5
  refine (HEnc.out V HIx.out).mono ?_
  rintro e w2 ⟨h2, hb⟩
  replace HRow7 := Lib.hid (HRow7.out.below hb)
  replace HB7 := Lib.hid (HB7.out.trans (hb.mono HB7.out.size))
  clear hb HRow HB
  unfold EncIsC at h2
  by_cases hm : (ClaimsV.right ⟨se, us, ep, is, 0, cp, cl, cc⟩) = true
  · rw [if_pos hm] at h2
    obtain rfl := h2
    obtain ⟨BS, hBS⟩ : ∃ BS, BS = txt (WireMath.claimsBytesT (ClaimsV.t ⟨se, us, ep, is, 0, cp, cl, cc⟩)) := ⟨_, rfl⟩
    rw [← hBS]
    clear hBS hm
    have r4 := HRow7.out.cell (i := 4) rfl
    go_wp2_with fail
    refine (HKey.out w2 HB7.out).mono ?_
    rintro e w3 ⟨⟨Tk, uk, rfl⟩, hb⟩
    replace HB7 := Lib.hid (HB7.out.trans (hb.mono HB7.out.size))
    clear hb r4
    go_wp2_with fail
    refine (refusal_tok 0 1 _).mono ?_
    rintro e w4 ⟨⟨y, rfl, hy⟩, hb⟩
    have HY := Lib.hid hy
    replace HB7 := Lib.hid (HB7.out.trans (hb.mono HB7.out.size))
    clear hb hy
    go_wp2
    go_ret2
    exact ⟨⟨_, rfl, HY.out⟩, HB7.out⟩
  · rw [if_neg hm] at h2
    obtain ⟨x, rfl, hx⟩ := h2
    obtain ⟨T, u, rfl⟩ := (show ErrIs w2 1 x from ⟨_, hx⟩).iface
    clear hx
    clear hm
    have r4 := HRow7.out.cell (i := 4) rfl
    go_wp2_with fail
    refine (HKey.out w2 HB7.out).mono ?_
    rintro e w3 ⟨⟨Tk, uk, rfl⟩, hb⟩
    replace HB7 := Lib.hid (HB7.out.trans (hb.mono HB7.out.size))
    clear hb r4
    go_wp2_with fail
    refine (refusal_tok 0 1 _).mono ?_
    rintro e w4 ⟨⟨y, rfl, hy⟩, hb⟩
    have HY := Lib.hid hy
    replace HB7 := Lib.hid (HB7.out.trans (hb.mono HB7.out.size))
    clear hb hy
    go_wp2
    go_ret2
    exact ⟨⟨_, rfl, HY.out⟩, HB7.out⟩
set_option maxRecDepth 100000 in
set_option maxHeartbeats 8000000 in
theorem read_none (s : ByteArray) (w : World) (hs : s.size ≤ 140737488355328) : Calls Tryd.prog 10 #[.pointer none, .string s] w fun e w' => (∃ r, e = .returned (.tuple #[zeroC, r]) ∧ ErrIs w' 9 r) ∧ Below w.heap.size w w' := by
  have HKey := Lib.hid key_none
  have HT := Lib.hid (fun w1 => told_ok s w1 (by omega))
  have HF := Lib.hid (show (toldF (nats s) = none → True) ∧ True from ⟨fun _ => trivial, trivial⟩)
  clear hs
  go_enter Tryd.func10, Tryd.ntmps10
  go_wp2_with fail
  obtain ⟨W, hW⟩ : ∃ W, W = w.alloc (.cells #[.string ⟨#[]⟩, .string ⟨#[]⟩, .int .i64 0, .int .i64 0, .int .i64 0, .slice none 0 0] 31) := ⟨_, rfl⟩
  rw [← hW]
  have HB := Lib.hid (show Below w.heap.size w W by rw [hW]; exact (Below.refl _ _).alloc (Nat.le_refl _) _)
  have HRes := Lib.hid (show Row W w.heap.size zerosC 31 by rw [hW]; exact Row.new w zerosC _)
  clear hW
  refine (HT.out W).mono ?_
  rintro e w1 ⟨h1, hb⟩
  have HLt := Lib.hid HRes.out.lt
  replace HRes := Lib.hid (HRes.out.below hb)
  replace HB := Lib.hid (HB.out.trans (hb.mono HB.out.size))
  clear hb
  unfold ToldIs at h1
  cases hcl : toldF (nats s) with
  | none =>
    rw [hcl] at h1
    obtain ⟨D, rfl⟩ := h1
    have HN := Lib.hid (HF.out.1 hcl)
    clear hcl
    unfold zeroC
    have hb : Below w1.heap.size w1 (w1.alloc (.cells #[.string ⟨#[]⟩, .string ⟨#[]⟩, .int .i64 0, .int .i64 0, .int .i64 0, .slice none 0 0] 31)) := (Below.refl _ _).alloc (Nat.le_refl _) _
    replace HRes := Lib.hid (HRes.out.below hb)
    replace HB := Lib.hid (HB.out.trans (hb.mono HB.out.size))
    clear hb
    go_wp2_with fail
    refine (refusal_tok (s.size : Int) 9 _).mono ?_
    rintro e w9 ⟨⟨y, rfl, hy⟩, hb⟩
    have HY := Lib.hid hy
    replace HRes := Lib.hid (HRes.out.below hb)
    replace HB := Lib.hid (HB.out.trans (hb.mono HB.out.size))
    clear hb hy
    have c0 := HRes.out.cell (i := 0) rfl; have g0 := HRes.out.free 0; have c1 := HRes.out.cell (i := 1) rfl; have g1 := HRes.out.free 1; have c2 := HRes.out.cell (i := 2) rfl; have g2 := HRes.out.free 2; have c3 := HRes.out.cell (i := 3) rfl; have g3 := HRes.out.free 3; have c4 := HRes.out.cell (i := 4) rfl; have g4 := HRes.out.free 4; have c5 := HRes.out.cell (i := 5) rfl; have g5 := HRes.out.free 5
    go_wp2
    obtain ⟨q1, q2⟩ := put_six HRes.out (.string ⟨#[]⟩) (.string ⟨#[]⟩) (.int .i64 0) (.int .i64 0) (.int .i64 0) (.slice none 0 0)
    refine bodyPost_ret (results_cell_tmp Tryd.results10 _ _ w.heap.size 31 _ (0, 0) _ rfl q1 Tryd.underlying31 rfl (by kernel_rfl)) rfl ?_
    exact ⟨⟨y, rfl, HY.out.but_row q2 HRes.out⟩, HB.out.trans (q2.below HB.out.size)⟩
  | some v =>
    rw [hcl] at h1
    have HV := Lib.hid hcl
    clear hcl
    obtain ⟨dp, dc, rfl, hz, hnew⟩ := h1
    obtain ⟨v1, v2, v3, v4, v5, v6⟩ := v
    have HLn := Lib.hid (show (v6.map Int.ofNat).length = v6.length from List.length_map ..)
    have hval : (readCV (v1, v2, v3, v4, v5, v6) dp dc).val = .agg #[.string (txt v1), .string (txt v2), .int .i64 (v3 : Int), .int .i64 (v4 : Int), .int .i64 (v5 : Int), .slice dp v6.length dc] := by simp only [readCV, ClaimsV.val, HLn.out]
    rw [hval]
    have HNew := Lib.hid (show ∀ a, dp = some a → w.heap.size < a.block from fun a ha => by
      have h1 := hnew a ha
      have h2 := HLt.out
      omega)
    have HVal := Lib.hid hval
    have hb : Below w1.heap.size w1 (w1.alloc (.cells #[.string (txt v1), .string (txt v2), .int .i64 (v3 : Int), .int .i64 (v4 : Int), .int .i64 (v5 : Int), .slice dp v6.length dc] 31)) := (Below.refl _ _).alloc (Nat.le_refl _) _
    replace HRes := Lib.hid (HRes.out.below hb)
    replace HB := Lib.hid (HB.out.trans (hb.mono HB.out.size))
    have HZ := Lib.hid (show Ints (w1.alloc (.cells #[.string (txt v1), .string (txt v2), .int .i64 (v3 : Int), .int .i64 (v4 : Int), .int .i64 (v5 : Int), .slice dp v6.length dc] 31)) dp (v6.map Int.ofNat) from Ints.grown hz hb)
    have HRow := Lib.hid (show Row (w1.alloc (.cells #[.string (txt v1), .string (txt v2), .int .i64 (v3 : Int), .int .i64 (v4 : Int), .int .i64 (v5 : Int), .slice dp v6.length dc] 31)) w1.heap.size [.string (txt v1), .string (txt v2), .int .i64 (v3 : Int), .int .i64 (v4 : Int), .int .i64 (v5 : Int), .slice dp v6.length dc] 31 from Row.new w1 _ _)
    have r4 := HRow.out.cell (i := 4) rfl
    clear hval hb hz hnew
    obtain ⟨BS, hBS⟩ : ∃ BS, BS = txt (WireMath.claimsBytesT (v1, v2, v3, v4, v5, v6)) := ⟨_, rfl⟩
    rw [← hBS]
    clear hBS
    go_wp2_with fail
    generalize w1.alloc (.cells #[.string (txt v1), .string (txt v2), .int .i64 (v3 : Int), .int .i64 (v4 : Int), .int .i64 (v5 : Int), .slice dp v6.length dc] 31) = w4 at HRes HB HZ HRow r4 ⊢
    obtain ⟨rb, hrb⟩ : ∃ rb, rb = w1.heap.size := ⟨_, rfl⟩
    rw [← hrb] at HRow r4 ⊢
    clear hrb
    refine (HKey.out _ _).mono ?_
    rintro e w5 ⟨⟨Tk, uk, rfl⟩, hb⟩
    replace HRes := Lib.hid (HRes.out.below hb)
    replace HB := Lib.hid (HB.out.trans (hb.mono HB.out.size))
    clear hb r4
    go_wp2_with fail
    refine (refusal_tok (s.size : Int) 9 _).mono ?_
    rintro e w9 ⟨⟨y, rfl, hy⟩, hb⟩
    have HY := Lib.hid hy
    replace HRes := Lib.hid (HRes.out.below hb)
    replace HB := Lib.hid (HB.out.trans (hb.mono HB.out.size))
    clear hb hy
    have c0 := HRes.out.cell (i := 0) rfl; have g0 := HRes.out.free 0; have c1 := HRes.out.cell (i := 1) rfl; have g1 := HRes.out.free 1; have c2 := HRes.out.cell (i := 2) rfl; have g2 := HRes.out.free 2; have c3 := HRes.out.cell (i := 3) rfl; have g3 := HRes.out.free 3; have c4 := HRes.out.cell (i := 4) rfl; have g4 := HRes.out.free 4; have c5 := HRes.out.cell (i := 5) rfl; have g5 := HRes.out.free 5
    go_wp2
    obtain ⟨q1, q2⟩ := put_six HRes.out (.string ⟨#[]⟩) (.string ⟨#[]⟩) (.int .i64 0) (.int .i64 0) (.int .i64 0) (.slice none 0 0)
    refine bodyPost_ret (results_cell_tmp Tryd.results10 _ _ w.heap.size 31 _ (0, 0) _ rfl q1 Tryd.underlying31 rfl (by kernel_rfl)) rfl ?_
    exact ⟨⟨y, rfl, HY.out.but_row q2 HRes.out⟩, HB.out.trans (q2.below HB.out.size)⟩
theorem told_right {l : List Nat} {v : WireMath.ClaimsT} (h : toldF l = some v) : WireMath.rightClaimsT v = true ∧ Octs v := by
  unfold toldF at h
  split at h
  · cases h
  · obtain ⟨h1, h2⟩ := (claimsOf_iff (TextMath.decBytes_lt _) v).1 h
    exact ⟨h1, claims_octs (TextMath.decBytes_lt _) h2⟩
theorem key_small {v : WireMath.ClaimsT} (h : WireMath.rightClaimsT v = true) : keyN v ≤ 1099511627776 := by
  unfold WireMath.rightClaimsT at h
  simp only [Bool.and_eq_true, decide_eq_true_eq] at h
  obtain ⟨⟨⟨⟨⟨⟨⟨a1, a2⟩, a3⟩, a4⟩, a5⟩, a6⟩, a7⟩, a8⟩ := h
  exact a7
set_option maxRecDepth 100000 in
set_option maxHeartbeats 8000000 in
theorem readTOk : ReadTOk rng := by
  intro b S m c s w h hr hP hs
  have HH := Lib.hid (show HasR rng 0 w b m c from ⟨S, h, fun _ _ => Nat.zero_le _⟩)
  have HP := Lib.hid hP
  have HT := Lib.hid (fun w1 => told_ok s w1 (by omega))
  have HS := Lib.hid hs
  have HF := Lib.hid (show (toldF (nats s) = none → readF (aliveN c) (nats m) (nats s) = none) ∧ (∀ v, toldF (nats s) = some v → readF (aliveN c) (nats m) (nats s) = if aliveN c (keyN v) = true ∧ tokenOf (nats m) v = nats s then some v else none) from
    ⟨fun h => by rw [read_told, h], fun v h => by rw [read_told, h]⟩)
  have HKey := Lib.hid (fun (n : Nat) (hn : n ≤ 1099511627776) w1 (hb : Below w.heap.size w w1) => show Calls Tryd.prog 21 #[rptr b, .int .i64 (n : Int)] w1 (fun e w' => (if aliveB c (n : Int) = true then e = .returned (.tuple #[.string (txt (ShaMath.derive (nats m) n)), .nilIface]) else ∃ T u, e = .returned (.tuple #[.string ⟨#[]⟩, .iface T u])) ∧ Below w1.heap.size w1 w') by
    refine (HasR.key keyOk (HH.out.below hb) hr (n := (n : Int)) ⟨by omega, by omega⟩ (hP.grown hb)).mono ?_
    rintro e w' ⟨h1, h2⟩
    refine ⟨?_, h2⟩
    by_cases ha : aliveB c (n : Int) = true
    · rw [if_pos ha] at h1 ⊢
      rw [key_of ⟨by omega, by omega⟩] at h1
      exact h1
    · rw [if_neg ha] at h1 ⊢
      obtain ⟨x, rfl, hx⟩ := h1
      obtain ⟨T, u, rfl⟩ := hx.iface
      exact ⟨T, u, rfl⟩)
  clear h hr hP hs
  go_enter Tryd.func10, Tryd.ntmps10
  go_wp2_with fail
  obtain ⟨W, hW⟩ : ∃ W, W = w.alloc (.cells #[.string ⟨#[]⟩, .string ⟨#[]⟩, .int .i64 0, .int .i64 0, .int .i64 0, .slice none 0 0] 31) := ⟨_, rfl⟩
  rw [← hW]
  have HB := Lib.hid (show Below w.heap.size w W by rw [hW]; exact (Below.refl _ _).alloc (Nat.le_refl _) _)
  have HRes := Lib.hid (show Row W w.heap.size zerosC 31 by rw [hW]; exact Row.new w zerosC _)
  clear hW
  refine (HT.out W).mono ?_
  rintro e w1 ⟨h1, hb⟩
  have HLt := Lib.hid HRes.out.lt
  replace HRes := Lib.hid (HRes.out.below hb)
  replace HB := Lib.hid (HB.out.trans (hb.mono HB.out.size))
  clear hb
  unfold ToldIs at h1
  cases hcl : toldF (nats s) with
  | none =>
    rw [hcl] at h1
    obtain ⟨D, rfl⟩ := h1
    have HN := Lib.hid (HF.out.1 hcl)
    clear hcl
    unfold zeroC
    have hb : Below w1.heap.size w1 (w1.alloc (.cells #[.string ⟨#[]⟩, .string ⟨#[]⟩, .int .i64 0, .int .i64 0, .int .i64 0, .slice none 0 0] 31)) := (Below.refl _ _).alloc (Nat.le_refl _) _
    replace HRes := Lib.hid (HRes.out.below hb)
    replace HB := Lib.hid (HB.out.trans (hb.mono HB.out.size))
    clear hb
    go_wp2_with fail
    refine (refusal_tok (s.size : Int) 9 _).mono ?_
    rintro e w9 ⟨⟨y, rfl, hy⟩, hb⟩
    have HY := Lib.hid hy
    replace HRes := Lib.hid (HRes.out.below hb)
    replace HB := Lib.hid (HB.out.trans (hb.mono HB.out.size))
    clear hb hy
    have c0 := HRes.out.cell (i := 0) rfl; have g0 := HRes.out.free 0; have c1 := HRes.out.cell (i := 1) rfl; have g1 := HRes.out.free 1; have c2 := HRes.out.cell (i := 2) rfl; have g2 := HRes.out.free 2; have c3 := HRes.out.cell (i := 3) rfl; have g3 := HRes.out.free 3; have c4 := HRes.out.cell (i := 4) rfl; have g4 := HRes.out.free 4; have c5 := HRes.out.cell (i := 5) rfl; have g5 := HRes.out.free 5
    go_wp2
    obtain ⟨q1, q2⟩ := put_six HRes.out (.string ⟨#[]⟩) (.string ⟨#[]⟩) (.int .i64 0) (.int .i64 0) (.int .i64 0) (.slice none 0 0)
    refine bodyPost_ret (results_cell_tmp Tryd.results10 _ _ w.heap.size 31 _ (0, 0) _ rfl q1 Tryd.underlying31 rfl (by kernel_rfl)) rfl ?_
    exact ⟨by unfold ReadTIs; rw [HN.out]; exact ⟨y, rfl, HY.out.but_row q2 HRes.out⟩, HB.out.trans (q2.below HB.out.size)⟩
  | some v =>
    rw [hcl] at h1
    have HV := Lib.hid hcl
    clear hcl
    obtain ⟨dp, dc, rfl, hz, hnew⟩ := h1
    obtain ⟨hv1, hv2⟩ := told_right HV.out
    have hkb := key_small hv1
    have hFv := HF.out.2 v HV.out
    have hbs := bytes_short hv1
    have hb256 := bytes_lt hv1 hv2.session hv2.user
    have hsl := fun w1 (hb : Below w.heap.size w w1) => sealed_ok (txt (ShaMath.derive (nats m) (keyN v))) (txt (WireMath.claimsBytesT v)) w1 (HP.out.grown hb) (by rw [txt_len]; show 32 ≤ 5000; omega) (by rw [txt_len]; omega)
    rw [nats_txt _ hb256, key_nats] at hsl
    have hss := token_short (m := nats m) hv1
    obtain ⟨v1, v2, v3, v4, v5, v6⟩ := v
    have HSeal := Lib.hid (show ∀ w1, Below w.heap.size w w1 → Calls Tryd.prog 23 #[.string (txt (ShaMath.derive (nats m) v5)), .string (txt (WireMath.claimsBytesT (v1, v2, v3, v4, v5, v6)))] w1 (fun e w' => e = .returned (.string (txt (tokenOf (nats m) (v1, v2, v3, v4, v5, v6)))) ∧ Below w1.heap.size w1 w') from hsl)
    obtain ⟨TS, hTS⟩ : ∃ TS, TS = txt (tokenOf (nats m) (v1, v2, v3, v4, v5, v6)) := ⟨_, rfl⟩
    have HTl := Lib.hid (show TS.size ≤ 9223372036854775807 by rw [hTS, txt_len]; omega)
    have HTS := Lib.hid (show s = TS ↔ tokenOf (nats m) (v1, v2, v3, v4, v5, v6) = nats s by
      rw [hTS]
      constructor
      · intro h
        rw [h, nats_txt _ (token_lt _ _)]
      · intro h
        rw [h, txt_nats])
    rw [← hTS] at HSeal
    have HKb := Lib.hid (show v5 ≤ 1099511627776 from hkb)
    have HFv := Lib.hid (show readF (aliveN c) (nats m) (nats s) = if aliveB c (v5 : Int) = true ∧ tokenOf (nats m) (v1, v2, v3, v4, v5, v6) = nats s then some (v1, v2, v3, v4, v5, v6) else none from hFv)
    clear hv1 hv2 hkb hFv hbs hb256 hsl hTS hss
    have HLn := Lib.hid (show (v6.map Int.ofNat).length = v6.length from List.length_map ..)
    have hval : (readCV (v1, v2, v3, v4, v5, v6) dp dc).val = .agg #[.string (txt v1), .string (txt v2), .int .i64 (v3 : Int), .int .i64 (v4 : Int), .int .i64 (v5 : Int), .slice dp v6.length dc] := by simp only [readCV, ClaimsV.val, HLn.out]
    rw [hval]
    have HNew := Lib.hid (show ∀ a, dp = some a → w.heap.size < a.block from fun a ha => by
      have h1 := hnew a ha
      have h2 := HLt.out
      omega)
    have HVal := Lib.hid hval
    have hb : Below w1.heap.size w1 (w1.alloc (.cells #[.string (txt v1), .string (txt v2), .int .i64 (v3 : Int), .int .i64 (v4 : Int), .int .i64 (v5 : Int), .slice dp v6.length dc] 31)) := (Below.refl _ _).alloc (Nat.le_refl _) _
    replace HRes := Lib.hid (HRes.out.below hb)
    replace HB := Lib.hid (HB.out.trans (hb.mono HB.out.size))
    have HZ := Lib.hid (show Ints (w1.alloc (.cells #[.string (txt v1), .string (txt v2), .int .i64 (v3 : Int), .int .i64 (v4 : Int), .int .i64 (v5 : Int), .slice dp v6.length dc] 31)) dp (v6.map Int.ofNat) from Ints.grown hz hb)
    have HRow := Lib.hid (show Row (w1.alloc (.cells #[.string (txt v1), .string (txt v2), .int .i64 (v3 : Int), .int .i64 (v4 : Int), .int .i64 (v5 : Int), .slice dp v6.length dc] 31)) w1.heap.size [.string (txt v1), .string (txt v2), .int .i64 (v3 : Int), .int .i64 (v4 : Int), .int .i64 (v5 : Int), .slice dp v6.length dc] 31 from Row.new w1 _ _)
    have r4 := HRow.out.cell (i := 4) rfl
    clear hval hb hz hnew
    obtain ⟨BS, hBS⟩ : ∃ BS, BS = txt (WireMath.claimsBytesT (v1, v2, v3, v4, v5, v6)) := ⟨_, rfl⟩
    rw [← hBS] at HSeal
    rw [← hBS]
    clear hBS
    go_wp2_with fail
    generalize w1.alloc (.cells #[.string (txt v1), .string (txt v2), .int .i64 (v3 : Int), .int .i64 (v4 : Int), .int .i64 (v5 : Int), .slice dp v6.length dc] 31) = w4 at HRes HB HZ HRow r4 ⊢
    obtain ⟨rb, hrb⟩ : ∃ rb, rb = w1.heap.size := ⟨_, rfl⟩
    rw [← hrb] at HRow r4 ⊢
    clear hrb
    refine (HKey.out v5 HKb.out _ HB.out).mono ?_
    rintro e w5 ⟨h5, hb⟩
    replace HRes := Lib.hid (HRes.out.below hb)
    replace HRow := Lib.hid (HRow.out.below hb)
    replace HZ := Lib.hid (HZ.out.grown hb)
    replace HB := Lib.hid (HB.out.trans (hb.mono HB.out.size))
    clear hb r4
    by_cases hal : aliveB c (v5 : Int) = true
    · rw [if_pos hal] at h5
      obtain rfl := h5
      obtain ⟨KK, hKK⟩ : ∃ KK, KK = txt (ShaMath.derive (nats m) v5) := ⟨_, rfl⟩
      rw [← hKK] at HSeal ⊢
      have HAl := Lib.hid hal
      clear hKK hal
      go_wp2_with fail
      refine (HSeal.out _ HB.out).mono ?_
      rintro e w6 ⟨rfl, hb⟩
      replace HRes := Lib.hid (HRes.out.below hb)
      replace HRow := Lib.hid (HRow.out.below hb)
      replace HZ := Lib.hid (HZ.out.grown hb)
      replace HB := Lib.hid (HB.out.trans (hb.mono HB.out.size))
      clear hb
      go_wp2_with fail
      refine (equal_any s TS w6 (by have := HS.out; omega) HTl.out).mono ?_
      rintro e w7 ⟨rfl, hw⟩
      rw [hw]
      clear hw
      by_cases he : s = TS
      · rw [decide_eq_true he]
        have HSm := Lib.hid (show readF (aliveN c) (nats m) (nats s) = some (v1, v2, v3, v4, v5, v6) by
          rw [HFv.out, if_pos ⟨HAl.out, HTS.out.1 he⟩])
        clear he
        have r0 := HRow.out.cell (i := 0) rfl; have r1 := HRow.out.cell (i := 1) rfl; have r2 := HRow.out.cell (i := 2) rfl; have r3 := HRow.out.cell (i := 3) rfl; have r4 := HRow.out.cell (i := 4) rfl; have r5 := HRow.out.cell (i := 5) rfl
        have c0 := HRes.out.cell (i := 0) rfl; have g0 := HRes.out.free 0; have c1 := HRes.out.cell (i := 1) rfl; have g1 := HRes.out.free 1; have c2 := HRes.out.cell (i := 2) rfl; have g2 := HRes.out.free 2; have c3 := HRes.out.cell (i := 3) rfl; have g3 := HRes.out.free 3; have c4 := HRes.out.cell (i := 4) rfl; have g4 := HRes.out.free 4; have c5 := HRes.out.cell (i := 5) rfl; have g5 := HRes.out.free 5
        go_wp2
        obtain ⟨q1, q2⟩ := put_six HRes.out (.string (txt v1)) (.string (txt v2)) (.int .i64 (v3 : Int)) (.int .i64 (v4 : Int)) (.int .i64 (v5 : Int)) (.slice dp v6.length dc)
        refine bodyPost_ret (results_cell_tmp Tryd.results10 _ _ w.heap.size 31 _ (0, 0) _ rfl q1 Tryd.underlying31 rfl (by kernel_rfl)) rfl ?_
        refine ⟨?_, HB.out.trans (q2.below HB.out.size)⟩
        unfold ReadTIs
        rw [HSm.out]
        refine ⟨dp, dc, ?_, HZ.out.but q2 (fun a ha => by have := HNew.out a ha; omega), fun a ha => Nat.le_of_lt (HNew.out a ha)⟩
        rw [HVal.out]
        rfl
      · rw [decide_eq_false he]
        have HN := Lib.hid (show readF (aliveN c) (nats m) (nats s) = none by
          rw [HFv.out, if_neg]
          exact fun h => he (HTS.out.2 h.2))
        clear he
        go_wp2_with fail
        refine (refusal_tok (s.size : Int) 9 _).mono ?_
        rintro e w9 ⟨⟨y, rfl, hy⟩, hb⟩
        have HY := Lib.hid hy
        replace HRes := Lib.hid (HRes.out.below hb)
        replace HB := Lib.hid (HB.out.trans (hb.mono HB.out.size))
        clear hb hy
        have c0 := HRes.out.cell (i := 0) rfl; have g0 := HRes.out.free 0; have c1 := HRes.out.cell (i := 1) rfl; have g1 := HRes.out.free 1; have c2 := HRes.out.cell (i := 2) rfl; have g2 := HRes.out.free 2; have c3 := HRes.out.cell (i := 3) rfl; have g3 := HRes.out.free 3; have c4 := HRes.out.cell (i := 4) rfl; have g4 := HRes.out.free 4; have c5 := HRes.out.cell (i := 5) rfl; have g5 := HRes.out.free 5
        go_wp2
        obtain ⟨q1, q2⟩ := put_six HRes.out (.string ⟨#[]⟩) (.string ⟨#[]⟩) (.int .i64 0) (.int .i64 0) (.int .i64 0) (.slice none 0 0)
        refine bodyPost_ret (results_cell_tmp Tryd.results10 _ _ w.heap.size 31 _ (0, 0) _ rfl q1 Tryd.underlying31 rfl (by kernel_rfl)) rfl ?_
        exact ⟨by unfold ReadTIs; rw [HN.out]; exact ⟨y, rfl, HY.out.but_row q2 HRes.out⟩, HB.out.trans (q2.below HB.out.size)⟩
    · rw [if_neg hal] at h5
      obtain ⟨Tk, uk, rfl⟩ := h5
      have HN := Lib.hid (show readF (aliveN c) (nats m) (nats s) = none by
        rw [HFv.out, if_neg]
        exact fun h => hal h.1)
      clear hal
      go_wp2_with fail
      refine (refusal_tok (s.size : Int) 9 _).mono ?_
      rintro e w9 ⟨⟨y, rfl, hy⟩, hb⟩
      have HY := Lib.hid hy
      replace HRes := Lib.hid (HRes.out.below hb)
      replace HB := Lib.hid (HB.out.trans (hb.mono HB.out.size))
      clear hb hy
      have c0 := HRes.out.cell (i := 0) rfl; have g0 := HRes.out.free 0; have c1 := HRes.out.cell (i := 1) rfl; have g1 := HRes.out.free 1; have c2 := HRes.out.cell (i := 2) rfl; have g2 := HRes.out.free 2; have c3 := HRes.out.cell (i := 3) rfl; have g3 := HRes.out.free 3; have c4 := HRes.out.cell (i := 4) rfl; have g4 := HRes.out.free 4; have c5 := HRes.out.cell (i := 5) rfl; have g5 := HRes.out.free 5
      go_wp2
      obtain ⟨q1, q2⟩ := put_six HRes.out (.string ⟨#[]⟩) (.string ⟨#[]⟩) (.int .i64 0) (.int .i64 0) (.int .i64 0) (.slice none 0 0)
      refine bodyPost_ret (results_cell_tmp Tryd.results10 _ _ w.heap.size 31 _ (0, 0) _ rfl q1 Tryd.underlying31 rfl (by kernel_rfl)) rfl ?_
      exact ⟨by unfold ReadTIs; rw [HN.out]; exact ⟨y, rfl, HY.out.but_row q2 HRes.out⟩, HB.out.trans (q2.below HB.out.size)⟩
theorem tnoneOk : TNoneOk := ⟨fun x w hx hf => mint_none x w hx hf, fun s w hs => read_none s w hs⟩
end Go.Proofs.YtajhegjemhegiaaDoor
