/-
  The contracts of the program's device of chapter 8: Crash, and what the methods of a nil device answer; with what it imports, all that the laws ask of the program. No conditions but those typed.
-/
import Derived.Test.YtfdldjhndfohhaaDoorBlockP4
import Derived.Test.YtfdldjhndfohhaaDoorTextEq
import Derived.Test.YtfdldjhndfohhaaDoorBlockP2
namespace Go.Proofs.YtfdldjhndfohhaaDoor
open Go.RowKit BlockMath TextNat

theorem prest (k m : Int) (hm : 0 < m) : (k.tmod m + m).tmod m = k % m ∧ -m ≤ k.tmod m ∧ k.tmod m < m := by
  have h0 := Int.emod_nonneg k (show m ≠ 0 by omega)
  have h1 := Int.emod_lt_of_pos k hm
  have h2 := Int.tmod_eq_emod (a := k) (b := m)
  have hab : (m.natAbs : Int) = m := by omega
  have h3 : 0 ≤ k.tmod m + m ∧ (k.tmod m = k % m ∨ k.tmod m = k % m - m) := by
    split at h2
    · rw [h2]
      omega
    · rw [h2, hab]
      omega
  refine ⟨?_, by omega, by omega⟩
  rw [Int.tmod_eq_emod_of_nonneg h3.1, Int.add_emod_right]
  rcases h3.2 with h | h <;> rw [h]
  · exact Int.emod_emod_of_dvd _ (Int.dvd_refl m)
  · rw [Int.sub_emod_right, Int.emod_emod_of_dvd _ (Int.dvd_refl m)]
set_option maxRecDepth 100000 in
theorem restR (k m : Int) (w : World) (hm : 0 < m) (hm2 : m ≤ 2000000) : Calls Tryd.prog 35 #[.int .i64 k, .int .i64 m] w fun e w' => e = .returned (.int .i64 (k % m)) ∧ w' = w := by
  obtain ⟨h1, h2, h3⟩ := prest k m hm
  obtain ⟨q, hq⟩ : ∃ q, q = k.tmod m := ⟨_, rfl⟩
  rw [← hq] at h1 h2 h3
  have hr0 := Int.emod_nonneg k (show m ≠ 0 by omega)
  have hr1 := Int.emod_lt_of_pos k hm
  obtain ⟨r, hr⟩ : ∃ r, r = k % m := ⟨_, rfl⟩
  rw [← hr] at h1 hr0 hr1 ⊢
  have hq1 := hq.symm
  have z0 : (m == 0) = false := by rw [beq_eq_false_iff_ne]; omega
  have n1 : IntKind.i64.wrap q = q := by rw [IntKind.wrap_i64]; omega
  have n2 : IntKind.i64.wrap (q + m) = q + m := by rw [IntKind.wrap_i64]; omega
  have n3 : IntKind.i64.wrap r = r := by rw [IntKind.wrap_i64]; omega
  clear hq hr
  go_enter Tryd.func35, Tryd.ntmps35
  go_wp2
  go_ret
  exact ⟨rfl, rfl⟩
/-- Does a mask spare a place? -/
def sparesB (mask : ByteArray) (i : Nat) : Bool := decide (mask.size = 0) || decide ((nats mask)[i % mask.size]?.getD 0 % 2 = 1)
theorem left_spares (mask : ByteArray) (i c : Nat) : left mask i c = if sparesB mask i then c else 0 := by
  unfold left sparesB
  by_cases h : mask.size = 0
  · rw [if_pos h, decide_eq_true h]
    rfl
  · rw [if_neg h, decide_eq_false h, Bool.false_or]
    by_cases h2 : (nats mask)[i % mask.size]?.getD 0 % 2 = 0
    · rw [if_pos h2, decide_eq_false (by omega)]
      rfl
    · rw [if_neg h2, decide_eq_true (by omega)]
      rfl
set_option maxRecDepth 100000 in
theorem sparesR (mask : ByteArray) (i : Nat) (w : World) (hi : i ≤ 2000000) (hs : mask.size ≤ 1000000) : Calls Tryd.prog 36 #[.string mask, .int .i64 (i : Int)] w fun e w' => e = .returned (.bool (sparesB mask i)) ∧ w' = w := by
  by_cases hm : mask.size = 0
  · have he : mask = ⟨#[]⟩ := ba_ext (Array.eq_empty_of_size_eq_zero hm)
    subst he
    have hb : sparesB ⟨#[]⟩ i = true := rfl
    rw [hb]
    clear hb hm
    go_enter Tryd.func36, Tryd.ntmps36
    go_wp2
    go_ret
    exact ⟨rfl, rfl⟩
  · have he : ¬ mask = ⟨#[]⟩ := fun h => hm (by rw [h]; rfl)
    have kl := some_list he
    have z2 : ((mask.size : Int) == 0) = false := by rw [beq_eq_false_iff_ne]; omega
    have hpm : i % mask.size < mask.size := Nat.mod_lt _ (by omega)
    have hb : sparesB mask i = (((mask[i % mask.size]'hpm).toNat : Int) % 2 == 1) := by
      unfold sparesB
      rw [decide_eq_false hm, nats_at mask _ hpm, Bool.false_or, Bool.eq_iff_iff]
      simp
      omega
    rw [hb]
    clear he hb hm
    go_enter Tryd.func36, Tryd.ntmps36
    go_wp2
    go_ret
    exact ⟨rfl, rfl⟩
end Go.Proofs.YtfdldjhndfohhaaDoor
namespace Go.Proofs.YtfdldjhndfohhaaDoor
open Go.RowKit BlockMath TextNat

/-- What lies in the row while Crash goes through what stays. -/
def stage (A T L : List Nat) (i : Nat) : List Nat := A ++ (T.take i ++ L.drop i)
theorem stage_step {A T L : List Nat} {i x c : Nat} (hT : T[i]? = some x) (hL : L[i]? = some c) : stage A T L (i + 1) = (stage A T L i).set (A.length + i) x := by
  have hi : i < T.length := (List.getElem?_eq_some_iff.1 hT).1
  have hd : L.drop i = c :: L.drop (i + 1) := by
    have h1 := (List.getElem?_eq_some_iff.1 hL)
    obtain ⟨h2, h3⟩ := h1
    rw [← h3]
    exact List.drop_eq_getElem_cons h2
  have ht : T.take (i + 1) = T.take i ++ [x] := by rw [List.take_add_one, hT]; rfl
  have hl : (T.take i).length = i := by rw [List.length_take]; omega
  unfold stage
  rw [List.set_append_right _ _ (by omega), show A.length + i - A.length = i by omega, List.set_append_right _ _ (by omega), hl, Nat.sub_self, hd, ht, List.append_assoc]
  rfl
theorem stage_same {A T L : List Nat} {i x : Nat} (hT : T[i]? = some x) (hL : L[i]? = some x) : stage A T L (i + 1) = stage A T L i := by
  rw [stage_step hT hL]
  apply List.ext_getElem?
  intro j
  by_cases hj : A.length + i = j
  · subst hj
    have hi : i < T.length := (List.getElem?_eq_some_iff.1 hT).1
    have hi2 : i < L.length := (List.getElem?_eq_some_iff.1 hL).1
    have hl : (T.take i).length = i := by rw [List.length_take]; omega
    unfold stage
    rw [List.getElem?_set_self (by simp; omega), List.getElem?_append_right (by omega), show A.length + i - A.length = i by omega, List.getElem?_append_right (by omega), hl, Nat.sub_self, List.getElem?_drop, Nat.add_zero, hL]
  · rw [List.getElem?_set_ne hj]
theorem stage_zero (A T L : List Nat) : stage A T L 0 = A ++ L := rfl
theorem stage_end {A T L : List Nat} (h : L.length = T.length) : stage A T L T.length = A ++ T := by
  unfold stage
  rw [List.take_length, ← h, List.drop_length, List.append_nil]
theorem Raw.cut0 {w : World} {b n cap : Nat} {p : Option Addr} {l : List Nat} {sf rm lf : Int} {dn fu : Bool} (h : Raw w b p n cap l sf rm dn fu lf) {m : Nat} (hm : m ≤ n) :
    Raw (w.setCell ⟨b, 0, none⟩ (.slice p m cap)) b p m cap (l.take m) sf rm dn fu lf :=
  ⟨h.lies.set 0 _, own_keep (own_take h.own hm) fun k hk => Below.heap_setCell _ _ _ _ fun e => h.far (by rw [hk, e]), h.far⟩
theorem Raw.drew {w : World} {b n cap : Nat} {p : Option Addr} {l : List Nat} {sf rm lf : Int} {dn fu : Bool} (h : Raw w b p n cap l sf rm dn fu lf) : Raw w.drew b p n cap l sf rm dn fu lf := ⟨h.lies, h.own, h.far⟩
theorem Apart.drew {S : Nat → Prop} {w w' : World} (h : Apart S w w') : Apart S w w'.drew := ⟨h.os, h.tape, h.output, h.size, h.block⟩
set_option maxRecDepth 100000 in
set_option maxHeartbeats 4000000 in
theorem crashOk : CrashOk dev := by
  rintro b S d k mask w ⟨p, nn, cap, fu, lf, h, hf, hS⟩ ok hk hmask
  have hn := all_len h
  have kA := ok.all
  obtain ⟨ds, hds⟩ : ∃ ds, ds = d.done.size := ⟨_, rfl⟩
  obtain ⟨ls, hls⟩ : ∃ ls, ls = d.late.size := ⟨_, rfl⟩
  obtain ⟨n, hnn⟩ : ∃ n, n = stays k d := ⟨_, rfl⟩
  have hnl : n ≤ ls := by rw [hnn, hls]; exact stays_le k d
  have hns : k % ((ls : Int) + 1) = (n : Int) := by
    rw [hnn, hls]
    unfold stays
    have := Int.emod_nonneg k (show (d.late.size : Int) + 1 ≠ 0 by omega)
    omega
  rw [all_size, ← hds, ← hls] at hn
  rw [← hds, ← hls] at kA
  obtain ⟨T, hT⟩ : ∃ T, T = kept d.late mask n := ⟨_, rfl⟩
  obtain ⟨L, hL⟩ : ∃ L, L = (nats d.late).take n := ⟨_, rfl⟩
  have hTn : T.length = n := by rw [hT]; exact kept_len _ mask (by omega)
  have hLn : L.length = n := by rw [hL, List.length_take, nats_len]; omega
  have HTL := Lib.hid (show ∀ i : Nat, i < n → ∃ c, L[i]? = some c ∧ T[i]? = some (if sparesB mask i then c else 0) by
    intro i hi
    obtain ⟨c, hc⟩ : ∃ c, L[i]? = some c := ⟨_, List.getElem?_eq_getElem (by omega)⟩
    refine ⟨c, hc, ?_⟩
    rw [hL, List.getElem?_take, if_pos hi] at hc
    rw [hT, ← left_spares]
    exact kept_at hi hc)
  have HX := Lib.hid (show nats (all (crash k mask d)) = stage (nats d.done) T L n by
    rw [← hTn, stage_end (by omega)]
    show nats (d.done ++ txt (kept d.late mask (stays k d)) ++ ByteArray.empty) = _
    rw [← hnn, ← hT, ba_end, nats_append, nats_txt _ (by rw [hT]; exact kept_lt _ mask n)])
  have HY := Lib.hid (show (crash k mask d).done.size = ds + n by
    show (d.done ++ txt (kept d.late mask (stays k d))).size = _
    rw [← hnn, ← hT, ByteArray.size_append, txt_len, hTn, hds])
  obtain ⟨m, hm⟩ : ∃ m, m = ds + n := ⟨_, rfl⟩
  have hmn : m ≤ nn := by omega
  have H0 := h
  rw [← hds] at H0
  have HS0 := Lib.hid (show (nats (all d)).take m = stage (nats d.done) T L 0 by
    rw [stage_zero]
    show (nats (d.done ++ d.late)).take m = _
    rw [nats_append, List.take_append, nats_len, ← hds, List.take_of_length_le (by rw [nats_len]; omega), hL, show m - ds = n by omega])
  have HF := Lib.hid hf
  have HS := Lib.hid hS
  have H := Lib.hid H0
  have HA := Lib.hid (show (nats d.done).length = ds by rw [nats_len, hds])
  have HR := Lib.hid (fun wx : World => (restR k ((ls : Int) + 1) wx (by omega) (by omega)).mono (R' := fun e w' => e = .returned (.int .i64 (n : Int)) ∧ ∃ n, w' = wx.drewN n) (by rintro e w' ⟨rfl, rfl⟩; exact ⟨by rw [hns], 0, rfl⟩))
  have n1 : IntKind.i64.wrap ((nn : Int) - (ds : Int)) = (ls : Int) := by rw [IntKind.wrap_i64]; omega
  have n2 : IntKind.i64.wrap ((ls : Int) + 1) = (ls : Int) + 1 := by rw [IntKind.wrap_i64]; omega
  have n3 : IntKind.i64.wrap ((ds : Int) + (n : Int)) = (m : Int) := by rw [IntKind.wrap_i64]; omega
  have c0 := Lies.cell (i := 0) H0.lies rfl
  have c1 := Lies.cell (i := 1) H0.lies rfl
  have hcs := own_cases h.own
  have kn2 : n ≤ 1048576 := by omega
  have kds : ds + n ≤ 1048576 := by omega
  have HM := Lib.hid hm
  rw [← hm] at HY
  clear h H0 hf hS hn hds hls hnn hns hT hL hTn hLn hm
  rcases hcs with ⟨rfl, hz1, hz2⟩ | ⟨g, cur, rfl, -, hc⟩
  · have hc : nn ≤ cap := by omega
    have HZ0 := Lib.hid (show n = 0 by have := HM.out; omega)
    clear hz1 hz2
    go_enter Tryd.func13, Tryd.ntmps13
    go_wp2_with fail
    go_quiet (first | (go_at_call 35; exact Calls.quiet_of (HR.out _)))
    obtain ⟨w1, hw1⟩ : ∃ w1, w1 = w.drewN nq := ⟨_, rfl⟩
    rw [← hw1]
    have H1 := Lib.hid (show Raw w1 b none nn cap (nats (all d)) ds d.room d.off fu lf by rw [hw1]; exact H.out.drewN nq)
    have HB1 := Lib.hid (show Apart S w w1 by rw [hw1]; exact ⟨rfl, rfl, rfl, Nat.le_refl _, fun _ _ _ => rfl⟩)
    clear hw1 c0 c1
    have c0 := Lies.cell (i := 0) H1.out.lies rfl
    have c1 := Lies.cell (i := 1) H1.out.lies rfl
    have f0 := Lies.free H1.out.lies 0
    go_wp2_with fail
    go_region
    have HR2 := Lib.hid (show Raw (w1.setCell ⟨b, 0, none⟩ (.slice none m cap)).drew b none m cap (stage (nats d.done) T L 0) ds d.room d.off fu lf by
      have := H1.out.cut0 hmn
      rw [HS0.out] at this
      exact this.drew)
    have HB2 := Lib.hid (show Apart S w (w1.setCell ⟨b, 0, none⟩ (.slice none m cap)).drew from (HB1.out.trans (Apart.but ((HS.out b).2 (.inl rfl)) (But.set b 0 _ _))).drew)
    clear c0 c1 f0 H1 HB1
    generalize (w1.setCell ⟨b, 0, none⟩ (.slice none m cap)).drew = w2 at HR2 HB2 ⊢
    go_wp2_with fail
    go_loopg [38] n (fun gh s38 wx => ∃ i : Nat, i + gh = n ∧ s38 = .int .i64 (i : Int) ∧ Raw wx b none m cap (stage (nats d.done) T L i) ds d.room d.off fu lf ∧ Apart S w wx)
    case atStart => exact ⟨0, by omega, by go_num, HR2.out, HB2.out⟩
    case round =>
      obtain ⟨i, hi, rfl, hr, hb⟩ := hrel
      have HI := Lib.hid hr
      have HB := Lib.hid hb
      have c0 := Lies.cell (i := 0) hr.lies rfl
      have c1 := Lies.cell (i := 1) hr.lies rfl
      clear HR2 HB2 hr hb
      by_cases hin : i < n
      · exact absurd hin (by have := HZ0.out; omega)
      · obtain rfl : i = n := by omega
        have t1 : decide ((i : Int) < (i : Int)) = false := decide_eq_false (by omega)
        have t1' : decide (i < i) = false := decide_eq_false (by omega)
        have c3 := Lies.cell (i := 3) HI.out.lies rfl
        have c4 := Lies.cell (i := 4) HI.out.lies rfl
        have f1 := Lies.free HI.out.lies 1
        have f3 := Lies.free HI.out.lies 3
        have f4 := Lies.free HI.out.lies 4
        have HG := Lib.hid (((HI.out.put (i := 1) (x := .int .i64 (m : Int)) rfl).put (i := 3) (x := .bool false) (dn' := false) rfl).put (i := 4) (x := .bool false) (fu' := false) rfl)
        have HBB := Lib.hid (HB.out.trans (Apart.but ((HS.out b).2 (.inl rfl)) (((But.set b 1 _ (.int .i64 (m : Int))).trans (But.set b 3 _ (.bool false))).trans (But.set b 4 _ (.bool false)))))
        go_wp2
        go_end0
        exact ⟨rfl, does_of HS.out HG.out HX.out.symm (by rw [HY.out]) rfl rfl ⟨HF.out.1, fun _ => ⟨rfl, fun h => absurd h (by show ¬ (0 : Int) ≤ -1; decide)⟩⟩ (fun _ hk => .inl hk) HBB.out⟩
  · go_enter Tryd.func13, Tryd.ntmps13
    go_wp2_with fail
    go_quiet (first | (go_at_call 35; exact Calls.quiet_of (HR.out _)))
    obtain ⟨w1, hw1⟩ : ∃ w1, w1 = w.drewN nq := ⟨_, rfl⟩
    rw [← hw1]
    have H1 := Lib.hid (show Raw w1 b (some ⟨g, 0, none⟩) nn cap (nats (all d)) ds d.room d.off fu lf by rw [hw1]; exact H.out.drewN nq)
    have HB1 := Lib.hid (show Apart S w w1 by rw [hw1]; exact ⟨rfl, rfl, rfl, Nat.le_refl _, fun _ _ _ => rfl⟩)
    clear hw1 c0 c1
    have c0 := Lies.cell (i := 0) H1.out.lies rfl
    have c1 := Lies.cell (i := 1) H1.out.lies rfl
    have f0 := Lies.free H1.out.lies 0
    go_wp2_with fail
    go_region
    have HR2 := Lib.hid (show Raw (w1.setCell ⟨b, 0, none⟩ (.slice (some ⟨g, 0, none⟩) m cap)).drew b (some ⟨g, 0, none⟩) m cap (stage (nats d.done) T L 0) ds d.room d.off fu lf by
      have := H1.out.cut0 hmn
      rw [HS0.out] at this
      exact this.drew)
    have HB2 := Lib.hid (show Apart S w (w1.setCell ⟨b, 0, none⟩ (.slice (some ⟨g, 0, none⟩) m cap)).drew from (HB1.out.trans (Apart.but ((HS.out b).2 (.inl rfl)) (But.set b 0 _ _))).drew)
    clear c0 c1 f0 H1 HB1
    generalize (w1.setCell ⟨b, 0, none⟩ (.slice (some ⟨g, 0, none⟩) m cap)).drew = w2 at HR2 HB2 ⊢
    go_wp2_with fail
    go_loopg [38] n (fun gh s38 wx => ∃ i : Nat, i + gh = n ∧ s38 = .int .i64 (i : Int) ∧ Raw wx b (some ⟨g, 0, none⟩) m cap (stage (nats d.done) T L i) ds d.room d.off fu lf ∧ Apart S w wx)
    case atStart => exact ⟨0, by omega, by go_num, HR2.out, HB2.out⟩
    case round =>
      obtain ⟨i, hi, rfl, hr, hb⟩ := hrel
      have HI := Lib.hid hr
      have HB := Lib.hid hb
      have c0 := Lies.cell (i := 0) hr.lies rfl
      have c1 := Lies.cell (i := 1) hr.lies rfl
      clear HR2 HB2 hr hb
      by_cases hin : i < n
      · have t1 : decide ((i : Int) < (n : Int)) = true := decide_eq_true (by omega)
        have t1' : decide (i < n) = true := decide_eq_true hin
        have k1 : IntKind.i64.wrap ((i : Int) + 1) = ((i + 1 : Nat) : Int) := by rw [IntKind.wrap_i64]; omega
        have HP := Lib.hid (fun wx : World => sparesR mask i wx (by omega) hmask)
        obtain ⟨c, hc1, hc2⟩ := HTL.out i hin
        cases hsp : sparesB mask i with
        | true =>
          rw [hsp] at hc2
          have HE := Lib.hid (stage_same (A := nats d.done) hc2 hc1)
          rw [hsp] at HP
          clear hc1 hc2
          go_wp2_with (go_at_call 36; refine (HP.out _).mono ?_; rintro e w3 ⟨rfl, rfl⟩)
          go_roundg (n - (i + 1))
          case measure => omega
          case rel => exact ⟨i + 1, by omega, by go_num, by rw [HE.out]; exact HI.out, HB.out⟩
        | false =>
          rw [hsp] at hc2
          have HE := Lib.hid (show stage (nats d.done) T L (i + 1) = (stage (nats d.done) T L i).set (ds + i) 0 by
            have h1 := stage_step (A := nats d.done) hc2 hc1
            rw [HA.out] at h1
            exact h1)
          rw [hsp] at HP
          clear hc1 hc2
          obtain ⟨j, hj⟩ : ∃ j, j = ds + i := ⟨_, rfl⟩
          have k2 : IntKind.i64.wrap ((ds : Int) + (i : Int)) = (j : Int) := by rw [IntKind.wrap_i64]; omega
          have hjm : j < m := by have := HM.out; omega
          have hd : ∃ x, wr.cell? ⟨g, j, none⟩ = some (.int .u8 (x : Int)) := by
            have hll := HI.out.len
            have h1 := HI.out.own.cellAt j (by omega)
            rw [byteVals_at, List.getElem?_eq_getElem (by omega)] at h1
            exact ⟨_, h1⟩
          obtain ⟨x, d1⟩ := hd
          have f1 : wr.frozen? ⟨g, j, none⟩ = false := HI.out.own.frozenAt j
          have HJ := Lib.hid hj
          clear hj
          go_wp2_with (go_at_call 36; refine (HP.out _).mono ?_; rintro e w3 ⟨rfl, rfl⟩)
          go_region
          have HR3 := Lib.hid (show Raw (w3.setCell ⟨g, j, none⟩ (.int .u8 0)).drew b (some ⟨g, 0, none⟩) m cap (stage (nats d.done) T L (i + 1)) ds d.room d.off fu lf by
            have h1 := HI.out.byte j 0
            rw [show (stage (nats d.done) T L i).set j 0 = stage (nats d.done) T L (i + 1) by rw [HJ.out]; exact HE.out.symm] at h1
            exact h1.drew)
          have HB3 := Lib.hid (show Apart S w (w3.setCell ⟨g, j, none⟩ (.int .u8 0)).drew from (HB.out.trans (Apart.but ((HS.out g).2 (.inr rfl)) (But.set g j _ _))).drew)
          clear c0 c1 d1 f1 HI HB
          generalize (w3.setCell ⟨g, j, none⟩ (.int .u8 0)).drew = w4 at HR3 HB3 ⊢
          go_wp2
          go_roundg (n - (i + 1))
          case measure => omega
          case rel => exact ⟨i + 1, by omega, by go_num, HR3.out, HB3.out⟩
      · obtain rfl : i = n := by omega
        have t1 : decide ((i : Int) < (i : Int)) = false := decide_eq_false (by omega)
        have t1' : decide (i < i) = false := decide_eq_false (by omega)
        have c3 := Lies.cell (i := 3) HI.out.lies rfl
        have c4 := Lies.cell (i := 4) HI.out.lies rfl
        have f1 := Lies.free HI.out.lies 1
        have f3 := Lies.free HI.out.lies 3
        have f4 := Lies.free HI.out.lies 4
        have HG := Lib.hid (((HI.out.put (i := 1) (x := .int .i64 (m : Int)) rfl).put (i := 3) (x := .bool false) (dn' := false) rfl).put (i := 4) (x := .bool false) (fu' := false) rfl)
        have HBB := Lib.hid (HB.out.trans (Apart.but ((HS.out b).2 (.inl rfl)) (((But.set b 1 _ (.int .i64 (m : Int))).trans (But.set b 3 _ (.bool false))).trans (But.set b 4 _ (.bool false)))))
        go_wp2
        go_end0
        exact ⟨rfl, does_of HS.out HG.out HX.out.symm (by rw [HY.out]) rfl rfl ⟨HF.out.1, fun _ => ⟨rfl, fun h => absurd h (by show ¬ (0 : Int) ≤ -1; decide)⟩⟩ (fun _ hk => .inl hk) HBB.out⟩
end Go.Proofs.YtfdldjhndfohhaaDoor
namespace Go.Proofs.YtfdldjhndfohhaaDoor
open Go.RowKit BlockMath TextNat

set_option maxRecDepth 100000 in
theorem downN (w : World) : Calls Tryd.prog 31 #[.pointer none] w fun e w' => e = .returned (.bool true) ∧ w' = w := by
  go_enter Tryd.func31, Tryd.ntmps31
  go_wp2
  go_ret
  exact ⟨rfl, rfl⟩
set_option maxRecDepth 100000 in
theorem lenN (w : World) : Calls Tryd.prog 15 #[.pointer none] w fun e w' => e = .returned (.int .i64 0) ∧ w' = w := by
  have HD := Lib.hid (downN w)
  go_enter Tryd.func15, Tryd.ntmps15
  go_wp2_with (go_at_call 31; refine HD.out.mono ?_; rintro e w2 ⟨rfl, rfl⟩)
  go_ret
  exact ⟨rfl, rfl⟩
set_option maxRecDepth 100000 in
theorem safeN (w : World) : Calls Tryd.prog 32 #[.pointer none] w fun e w' => e = .returned (.int .i64 0) ∧ w' = w := by
  have HD := Lib.hid (downN w)
  go_enter Tryd.func32, Tryd.ntmps32
  go_wp2_with (go_at_call 31; refine HD.out.mono ?_; rintro e w2 ⟨rfl, rfl⟩)
  go_ret
  exact ⟨rfl, rfl⟩
set_option maxRecDepth 100000 in
theorem refN (c : Int) (w : World) : Calls Tryd.prog 33 #[.pointer none, .int .i64 c] w fun e w' => (∃ x, e = .returned x ∧ ErrIs w' c x) ∧ Below w.heap.size w w' := by
  have HL := Lib.hid (lenN w)
  have HE := Lib.hid (at_some ⟨#[98, 108, 111, 99, 107]⟩ 0 33 (.int .i64 c) w)
  have HN := Lib.hid (err_new w 0 c)
  have HB := Lib.hid (show Below w.heap.size w (w.alloc (.cells #[.string ⟨#[98, 108, 111, 99, 107]⟩, .int .i64 0, .iface 33 (.int .i64 c)] 84)) from (Below.refl _ _).alloc (Nat.le_refl _) _)
  go_enter Tryd.func33, Tryd.ntmps33
  go_wp2_with (first
    | (go_at_call 15; refine HL.out.mono ?_; rintro e w2 ⟨rfl, rfl⟩)
    | (go_at_call 39; refine HE.out.mono ?_; rintro e w2 ⟨rfl, rfl⟩))
  go_ret
  exact ⟨⟨_, rfl, HN.out.is⟩, HB.out⟩
set_option maxRecDepth 100000 in
theorem noneOk : NoneOk := by
  refine ⟨fun n w hn => ?_, fun n s w hn => ?_, fun n m w hn hm => ?_, fun w => ?_, fun s w hs => ?_, fun w => ?_, fun n w hn => ?_, fun n w hn => ?_, fun w => ?_, fun w => ?_, fun n w hn => ?_⟩
  · have HB := Lib.hid (Below.refl w.heap.size w)
    go_enter Tryd.func27, Tryd.ntmps27
    go_wp2
    go_end0
    exact ⟨rfl, HB.out⟩
  · have HB := Lib.hid (Below.refl w.heap.size w)
    go_enter Tryd.func13, Tryd.ntmps13
    go_wp2
    refine bodyPost_ret (results_none rfl _ _ _) rfl ?_
    exact ⟨rfl, HB.out⟩
  · have HD := Lib.hid (downN w)
    have HE := Lib.hid (refN 5 w)
    clear hn hm
    go_enter Tryd.func14, Tryd.ntmps14
    go_wp2_with (first
      | (go_at_call 31; refine HD.out.mono ?_; rintro e w2 ⟨rfl, rfl⟩)
      | (go_at_call 33; refine HE.out.mono ?_; rintro e w2 ⟨⟨x, rfl, hx⟩, hb⟩; replace hx := Lib.hid hx; replace hb := Lib.hid hb))
    go_ret2
    exact ⟨⟨_, rfl, hx.out⟩, hb.out⟩
  · refine (downN w).mono ?_
    rintro e w' ⟨rfl, rfl⟩
    exact ⟨rfl, Below.refl _ _⟩
  · have HD := Lib.hid (downN w)
    have HE := Lib.hid (refN 5 w)
    clear hs
    go_enter Tryd.func11, Tryd.ntmps11
    go_wp2_with (first
      | (go_at_call 31; refine HD.out.mono ?_; rintro e w2 ⟨rfl, rfl⟩)
      | (go_at_call 33; refine HE.out.mono ?_; rintro e w2 ⟨⟨x, rfl, hx⟩, hb⟩; replace hx := Lib.hid hx; replace hb := Lib.hid hb))
    go_ret
    exact ⟨⟨_, rfl, hx.out⟩, hb.out⟩
  · have HD := Lib.hid (downN w)
    have HE := Lib.hid (refN 5 w)
    go_enter Tryd.func12, Tryd.ntmps12
    go_wp2_with (first
      | (go_at_call 31; refine HD.out.mono ?_; rintro e w2 ⟨rfl, rfl⟩)
      | (go_at_call 33; refine HE.out.mono ?_; rintro e w2 ⟨⟨x, rfl, hx⟩, hb⟩; replace hx := Lib.hid hx; replace hb := Lib.hid hb))
    go_ret
    exact ⟨⟨_, rfl, hx.out⟩, hb.out⟩
  · have HD := Lib.hid (downN w)
    have HE := Lib.hid (refN 5 w)
    clear hn
    go_enter Tryd.func24, Tryd.ntmps24
    go_wp2_with (first
      | (go_at_call 31; refine HD.out.mono ?_; rintro e w2 ⟨rfl, rfl⟩)
      | (go_at_call 33; refine HE.out.mono ?_; rintro e w2 ⟨⟨x, rfl, hx⟩, hb⟩; replace hx := Lib.hid hx; replace hb := Lib.hid hb))
    go_ret
    exact ⟨⟨_, rfl, hx.out⟩, hb.out⟩
  · have HE := Lib.hid (refN 5 w)
    clear hn
    go_enter Tryd.func16, Tryd.ntmps16
    go_wp2_with (go_at_call 33; refine HE.out.mono ?_; rintro e w2 ⟨⟨x, rfl, hx⟩, hb⟩; replace hx := Lib.hid hx; replace hb := Lib.hid hb)
    go_ret
    exact ⟨⟨_, rfl, hx.out⟩, hb.out⟩
  · refine (lenN w).mono ?_
    rintro e w' ⟨rfl, rfl⟩
    exact ⟨rfl, Below.refl _ _⟩
  · refine (safeN w).mono ?_
    rintro e w' ⟨rfl, rfl⟩
    exact ⟨rfl, Below.refl _ _⟩
  · have HD := Lib.hid (safeN w)
    have HB := Lib.hid (Below.refl w.heap.size w)
    clear hn
    cases t0 : decide (n < 0) <;> cases t1 : decide (0 ≤ n)
    · exact absurd (of_decide_eq_false t0) (by have := of_decide_eq_false t1; omega)
    all_goals
      go_enter Tryd.func29, Tryd.ntmps29
      go_wp2_with (go_at_call 32; refine HD.out.mono ?_; rintro e w2 ⟨rfl, rfl⟩)
      go_ret
      exact ⟨rfl, HB.out⟩
end Go.Proofs.YtfdldjhndfohhaaDoor
