/-
  The contract of chapter 5's law WireClaims: of any claims it answers true; old memory is as it was. The conditions: the claims' vector lies where it is said to.
-/
import Derived.Test.YtpmhfoleafjlbaaWireAwake
import Derived.Test.YtpmhfoleafjlbaaWireDecC
import Derived.Test.YtpmhfoleafjlbaaWireSameC
import Derived.Test.YtpmhfoleafjlbaaWireRefRightC
import Derived.Test.YtpmhfoleafjlbaaIsCode
import Derived.Test.YtpmhfoleafjlbaaWireWritten
namespace Go.Proofs.Ytpmhfoleafjlbaa
open Go.RowKit TextNat

theorem decC_says {l : List Nat} (hl : ∀ b ∈ l, b < 256) (v : WireMath.ClaimsT) : decC l = some v ↔ WireMath.rightClaimsT v = true ∧ l = WireMath.claimsBytesT v := WireMath.claims_whole l hl ⟨by decide, by decide, by decide, by decide, by decide⟩ v
theorem encIsC_true {w : World} {x : ClaimsV} {e : Ending} (h : EncIsC w x e) (hr : x.right = true) : e = .returned (.tuple #[.string (txt (WireMath.claimsBytesT x.t)), .nilIface]) := by
  unfold EncIsC at h
  rw [if_pos hr] at h
  exact h
theorem encIsC_chain {w : World} {x : ClaimsV} {e : Ending} (h : EncIsC w x e) (hr : x.right = false) : ∃ r, e = .returned (.tuple #[.string ⟨#[]⟩, r]) ∧ Chain w.heap.size w [(⟨#[119, 105, 114, 101]⟩, (0 : Int))] (.iface 51 (.int .i64 (1 : Int))) r := by
  unfold EncIsC at h
  rw [if_neg (by rw [hr]; decide)] at h
  exact h
theorem claims_lt {x : ClaimsV} (h : RightIsC x) : ∀ b ∈ WireMath.claimsBytesT x.t, b < 256 := by
  obtain ⟨h1, h2, h3, h4, h5, h6⟩ := h
  have hb := map_back (trimmed_pos h6)
  have a3 : x.epoch.toNat ≤ WireMath.big := by unfold WireMath.big; omega
  have a4 : x.issue.toNat ≤ WireMath.big := by unfold WireMath.big; omega
  have a5 : x.key.toNat ≤ WireMath.big := by unfold WireMath.big; omega
  have b1 : (nats x.session).length ≤ 1000 := by rw [nats_len]; omega
  have b2 : (nats x.user).length ≤ 1000 := by rw [nats_len]; omega
  have d6 : WireMath.trimmed ((x.cl.map Int.toNat).map Int.ofNat) WireMath.big = true := by rw [hb]; exact h6
  exact WireMath.mem_app (WireMath.text_bytes b1 (nats_lt _)) (WireMath.mem_app (WireMath.text_bytes b2 (nats_lt _)) (WireMath.mem_app (WireMath.num_bytes a3) (WireMath.mem_app (WireMath.num_bytes a4) (WireMath.mem_app (WireMath.num_bytes a5) (WireMath.vec_bytes d6)))))
theorem decC_back {x : ClaimsV} (h : RightIsC x) : decC (nats (txt (WireMath.claimsBytesT x.t))) = some x.t := by
  rw [nats_txt _ (claims_lt h)]
  exact (decC_says (claims_lt h) x.t).2 ⟨rightC_t h, rfl⟩
theorem readC_back {x : ClaimsV} (h : RightIsC x) (dp : Option Addr) (dc : Nat) : readCV x.t dp dc = ⟨x.session, x.user, x.epoch, x.issue, x.key, dp, x.cl, dc⟩ := by
  obtain ⟨p1, p2, p3, p4, p5, p6⟩ := h
  have hd : (x.cl.map Int.toNat).map Int.ofNat = x.cl := map_back (trimmed_pos p6)
  have e1 : txt (nats x.session) = x.session := txt_nats _
  have e2 : txt (nats x.user) = x.user := txt_nats _
  have q1 : ((x.epoch.toNat : Nat) : Int) = x.epoch := Int.toNat_of_nonneg (by omega)
  have q2 : ((x.issue.toNat : Nat) : Int) = x.issue := Int.toNat_of_nonneg (by omega)
  have q3 : ((x.key.toNat : Nat) : Int) = x.key := Int.toNat_of_nonneg (by omega)
  show ClaimsV.mk (txt (nats x.session)) (txt (nats x.user)) ((x.epoch.toNat : Nat) : Int) ((x.issue.toNat : Nat) : Int) ((x.key.toNat : Nat) : Int) dp ((x.cl.map Int.toNat).map Int.ofNat) dc = _
  rw [q1, q2, q3, hd, e1, e2]
/-- Cut, they are none's. -/
theorem cut_none {x : ClaimsV} (h : RightIsC x) {k : Nat} (hk : k < (txt (WireMath.claimsBytesT x.t)).size) : decC (nats ((txt (WireMath.claimsBytesT x.t)).extract 0 k)) = none := by
  have hlt := claims_lt h
  have hs : nats ((txt (WireMath.claimsBytesT x.t)).extract 0 k) = (WireMath.claimsBytesT x.t).take k := by
    rw [nats_extract, nats_txt _ hlt]; simp
  rw [hs]
  rw [txt_len] at hk
  have hl : ∀ b ∈ (WireMath.claimsBytesT x.t).take k, b < 256 := fun b hb => hlt b (List.mem_of_mem_take hb)
  cases hd : decC ((WireMath.claimsBytesT x.t).take k) with
  | none => rfl
  | some v =>
    obtain ⟨h1, h2⟩ := (decC_says hl v).1 hd
    have := WireMath.claims_free (v := x.t) (w := v) (r := (WireMath.claimsBytesT x.t).drop k) (rightC_t h) h1 hlt (by rw [← h2, List.take_append_drop])
    have := congrArg List.length this.2
    simp at this
    omega
/-- With more behind them, they are none's. -/
theorem long_none {x : ClaimsV} (h : RightIsC x) (m : ByteArray) (hm : m.size ≠ 0) : decC (nats (txt (WireMath.claimsBytesT x.t) ++ m)) = none := by
  have hlt := claims_lt h
  rw [nats_append, nats_txt _ hlt]
  have hl : ∀ b ∈ WireMath.claimsBytesT x.t ++ nats m, b < 256 := WireMath.mem_app hlt (nats_lt m)
  cases hd : decC (WireMath.claimsBytesT x.t ++ nats m) with
  | none => rfl
  | some v =>
    obtain ⟨h1, h2⟩ := (decC_says hl v).1 hd
    have := WireMath.claims_free (v := v) (w := x.t) (r := nats m) h1 (rightC_t h) (by rw [← h2]; exact hl) h2.symm
    have := congrArg List.length this.2
    rw [nats_len] at this
    exact absurd this hm
theorem long_same {x : ClaimsV} (h : RightIsC x) (m : ByteArray) (hm : m.size = 0) : decC (nats (txt (WireMath.claimsBytesT x.t) ++ m)) = some x.t := by
  have hm0 : nats m = [] := List.eq_nil_of_length_eq_zero (by rw [nats_len]; exact hm)
  rw [nats_append, hm0, List.append_nil]
  exact decC_back h
theorem claims_pos {x : ClaimsV} (_h : RightIsC x) : 0 < (WireMath.claimsBytesT x.t).length := by
  unfold WireMath.claimsBytesT WireMath.textBytes
  simp only [List.length_append]
  have := WireMath.num_len_pos x.t.1.length
  omega
set_option maxRecDepth 100000 in
set_option maxHeartbeats 4000000 in
theorem claims_true (x : ClaimsV) (k : Nat) (hk : k < 65536) (m : ByteArray) (w : World) (hx : Ints w x.cp x.cl) (sx : x.small) (hm : m.size ≤ 9223372036854775807) :
    Calls Try.prog 6 #[x.val, .int .u16 (k : Int), .string m] w fun e w' => e = .returned (.bool true) ∧ Below w.heap.size w w' := by
  have HA := Lib.hid (fun w1 => awake_true w1)
  have HEn := Lib.hid (fun w1 (h : Below w.heap.size w w1) => encClaims_ok x w1 (hx.grown h) sx)
  have HRi := Lib.hid (fun w1 (h : Below w.heap.size w w1) => refRightClaims x w1 (hx.grown h) sx.vec)
  cases hr : x.right with
  | false =>
    simp only [hr] at HRi
    have HE := Lib.hid (fun w1 e (h : EncIsC w1 x e) => encIsC_chain h hr)
    obtain ⟨se1, us1, ep1, is1, ke1, cp1, cl1, cc1⟩ := x
    simp only [ClaimsV.val] at *
    clear hx sx
    obtain ⟨W, hW⟩ : ∃ W, W = w.alloc (.cells #[.string se1, .string us1, .int .i64 ep1, .int .i64 is1, .int .i64 ke1, .slice cp1 cl1.length cc1] 60) := ⟨_, rfl⟩
    have hWb : Below w.heap.size w W := by rw [hW]; exact (Below.refl _ _).alloc (Nat.le_refl _) _
    have hRx : Row W w.heap.size [.string se1, .string us1, .int .i64 ep1, .int .i64 is1, .int .i64 ke1, .slice cp1 cl1.length cc1] 60 := by rw [hW]; exact Row.new w _ _
    have HW := Lib.hid hW
    have HWb := Lib.hid hWb
    have HRx := Lib.hid hRx
    clear hW hWb hRx
    go_enter Try.func6, Try.ntmps6
    go_wp2_with fail
    rw [← HW.out]
    refine (HA.out _).mono ?_
    rintro e w2 ⟨rfl, hb2⟩
    replace HRx := Lib.hid (HRx.out.below hb2)
    have HB := Lib.hid (HWb.out.trans (hb2.mono HWb.out.size))
    clear hb2
    have c0 := HRx.out.cell (i := 0) rfl; have c1 := HRx.out.cell (i := 1) rfl; have c2 := HRx.out.cell (i := 2) rfl; have c3 := HRx.out.cell (i := 3) rfl; have c4 := HRx.out.cell (i := 4) rfl; have c5 := HRx.out.cell (i := 5) rfl
    go_wp2_with (first
      | (go_at_call 27; refine (HEn.out _ HB.out).mono ?_; rintro e w3 ⟨he, hb3⟩; obtain ⟨rr, rfl, hch⟩ := HE.out _ _ he; replace HRx := Lib.hid (HRx.out.below hb3); replace HB := Lib.hid (HB.out.trans (hb3.mono HB.out.size)); have HC := Lib.hid hch; clear he hb3 hch c0 c1 c2 c3 c4 c5; have c0 := HRx.out.cell (i := 0) rfl; have c1 := HRx.out.cell (i := 1) rfl; have c2 := HRx.out.cell (i := 2) rfl; have c3 := HRx.out.cell (i := 3) rfl; have c4 := HRx.out.cell (i := 4) rfl; have c5 := HRx.out.cell (i := 5) rfl)
      | (go_at_call 28; refine (HRi.out _ HB.out).mono ?_; rintro e w4 ⟨rfl, hb4⟩; replace HRx := Lib.hid (HRx.out.below hb4); replace HB := Lib.hid (HB.out.trans (hb4.mono HB.out.size)); replace HC := Lib.hid (Chain.mono hb4 hb4.size HC.out); clear hb4 c0 c1 c2 c3 c4 c5; have c0 := HRx.out.cell (i := 0) rfl; have c1 := HRx.out.cell (i := 1) rfl; have c2 := HRx.out.cell (i := 2) rfl; have c3 := HRx.out.cell (i := 3) rfl; have c4 := HRx.out.cell (i := 4) rfl; have c5 := HRx.out.cell (i := 5) rfl)
      | (go_at_call 22; refine (Is_chain _ _ 1 1 rr _ HC.out).mono ?_; rintro e w7 ⟨rfl, rfl⟩))
    all_goals
      go_ret
      exact ⟨rfl, HB.out⟩
  | true =>
    by_cases hm0 : m.size = 0
    · obtain rfl : m = ⟨#[]⟩ := by apply nats_inj; exact (List.eq_nil_of_length_eq_zero (by rw [nats_len]; exact hm0)).trans (by rfl)
      have HX := Lib.hid ((rightC_iff x).1 hr)
      simp only [hr] at HRi
      obtain ⟨B, hB⟩ : ∃ B, B = txt (WireMath.claimsBytesT x.t) := ⟨_, rfl⟩
      have HBs := Lib.hid hB
      have hBl : B.size ≤ 1000 := by rw [hB, txt_len]; exact WireMath.claims_small (rightC_t HX.out)
      have hBp : 0 < B.size := by rw [hB, txt_len]; exact claims_pos HX.out
      obtain ⟨M, hM⟩ : ∃ M, M = k % B.size := ⟨_, rfl⟩
      have hmlt : M < B.size := by rw [hM]; exact Nat.mod_lt _ hBp
      have hmod : (k : Int) % (B.size : Int) = (M : Int) := by rw [hM]; omega
      have hmle : M ≤ B.size := by omega
      have HE := Lib.hid (fun w1 e (h : EncIsC w1 x e) => (show e = .returned (.tuple #[.string B, .nilIface]) by rw [hB]; exact encIsC_true h hr))
      have HDi : Hid (∀ w1 e, DecIsC w1 (nats B) e → ∃ dp dc, e = .returned (.tuple #[.agg #[.string x.session, .string x.user, .int .i64 x.epoch, .int .i64 x.issue, .int .i64 x.key, .slice dp x.cl.length dc], .nilIface]) ∧ Ints w1 dp x.cl) := Lib.hid (fun w1 e h => by
        unfold DecIsC at h
        rw [hB, decC_back HX.out] at h
        obtain ⟨dp, dc, h1, h2⟩ := h
        refine ⟨dp, dc, ?_, ?_⟩
        · rw [h1, readC_back HX.out]; rfl
        · have := map_back (trimmed_pos HX.out.ctx)
          rw [← this]
          exact h2)
      have HWb2 := Lib.hid (fun w1 (h : Below w.heap.size w w1) => (refClaimsBytes x w1 (hx.grown h) ⟨by have := HX.out.session; omega, by have := HX.out.user; omega⟩ (by have := HX.out.ctx; rw [trimmed_whole] at this; simp only [Bool.and_eq_true, decide_eq_true_eq] at this; omega)).mono (R' := fun e w' => e = .returned (.string B) ∧ Below w1.heap.size w1 w') (by
        rintro e w' ⟨rfl, hb⟩
        exact ⟨by rw [written_claims HX.out, putText_none, hB], hb⟩))
      have HSm := Lib.hid (fun w1 (h : Below w.heap.size w w1) dp dc (hz : Ints w1 dp x.cl) => (sameClaims_ok x ⟨x.session, x.user, x.epoch, x.issue, x.key, dp, x.cl, dc⟩ w1 (hx.grown h) hz sx.vec sx.vec).mono (R' := fun e w' => e = .returned (.bool true) ∧ Below w1.heap.size w1 w') (by
        rintro e w' ⟨rfl, hb⟩
        exact ⟨by rw [show sameC x ⟨x.session, x.user, x.epoch, x.issue, x.key, dp, x.cl, dc⟩ = true from by unfold sameC; rw [decide_eq_true_eq]; exact ⟨rfl, rfl, rfl, rfl, rfl, rfl⟩], hb⟩))
      have HCut : Hid (∀ w1 e, DecIsC w1 (nats (B.extract 0 M)) e → ∃ r n, e = .returned (.tuple #[.agg #[.string ⟨#[]⟩, .string ⟨#[]⟩, .int .i64 0, .int .i64 0, .int .i64 0, .slice none 0 0], r]) ∧ Chain w1.heap.size w1 [(⟨#[119, 105, 114, 101]⟩, n)] (.iface 51 (.int .i64 (2 : Int))) r) := Lib.hid (fun w1 e h => by
        unfold DecIsC at h
        rw [hB, cut_none HX.out (by rw [← hB]; exact hmlt)] at h
        exact h)
      have HD1 := Lib.hid (fun w1 => decClaims_ok B w1 (by omega))
      have HD2 := Lib.hid (fun w1 => decClaims_ok (B.extract 0 M) w1 (by rw [ByteArray.size_extract]; omega))
      have HL : Hid (∀ w1 e, DecIsC w1 (nats (B ++ ⟨#[]⟩)) e → ∃ dp dc, e = .returned (.tuple #[.agg #[.string x.session, .string x.user, .int .i64 x.epoch, .int .i64 x.issue, .int .i64 x.key, .slice dp x.cl.length dc], .nilIface])) := Lib.hid (fun w1 e h => by
        unfold DecIsC at h
        rw [hB, long_same HX.out ⟨#[]⟩ rfl] at h
        obtain ⟨dp, dc, h1, _⟩ := h
        exact ⟨dp, dc, by rw [h1, readC_back HX.out]; rfl⟩)
      have HD3 := Lib.hid (fun w1 => decClaims_ok (B ++ ⟨#[]⟩) w1 (by rw [ByteArray.size_append]; show B.size + 0 ≤ _; omega))
      have HK := Lib.hid hk
      clear hB hM hmlt
      obtain ⟨se1, us1, ep1, is1, ke1, cp1, cl1, cc1⟩ := x
      simp only [ClaimsV.val] at *
      clear hx sx
      obtain ⟨W, hW⟩ : ∃ W, W = w.alloc (.cells #[.string se1, .string us1, .int .i64 ep1, .int .i64 is1, .int .i64 ke1, .slice cp1 cl1.length cc1] 60) := ⟨_, rfl⟩
      have hWb : Below w.heap.size w W := by rw [hW]; exact (Below.refl _ _).alloc (Nat.le_refl _) _
      have hRx : Row W w.heap.size [.string se1, .string us1, .int .i64 ep1, .int .i64 is1, .int .i64 ke1, .slice cp1 cl1.length cc1] 60 := by rw [hW]; exact Row.new w _ _
      have HW := Lib.hid hW
      have HWb := Lib.hid hWb
      have HRx := Lib.hid hRx
      clear hW hWb hRx
      go_enter Try.func6, Try.ntmps6
      go_wp2_with fail
      rw [← HW.out]
      refine (HA.out _).mono ?_
      rintro e w2 ⟨rfl, hb2⟩
      replace HRx := Lib.hid (HRx.out.below hb2)
      have HB := Lib.hid (HWb.out.trans (hb2.mono HWb.out.size))
      clear hb2
      have c0 := HRx.out.cell (i := 0) rfl; have c1 := HRx.out.cell (i := 1) rfl; have c2 := HRx.out.cell (i := 2) rfl; have c3 := HRx.out.cell (i := 3) rfl; have c4 := HRx.out.cell (i := 4) rfl; have c5 := HRx.out.cell (i := 5) rfl
      go_wp2_with (first
        | (go_at_call 27; refine (HEn.out _ HB.out).mono ?_; rintro e w3 ⟨he, hb3⟩; obtain rfl := HE.out _ _ he; replace HRx := Lib.hid (HRx.out.below hb3); replace HB := Lib.hid (HB.out.trans (hb3.mono HB.out.size)); clear he hb3 c0 c1 c2 c3 c4 c5; have c0 := HRx.out.cell (i := 0) rfl; have c1 := HRx.out.cell (i := 1) rfl; have c2 := HRx.out.cell (i := 2) rfl; have c3 := HRx.out.cell (i := 3) rfl; have c4 := HRx.out.cell (i := 4) rfl; have c5 := HRx.out.cell (i := 5) rfl)
        | (go_at_call 28; refine (HRi.out _ HB.out).mono ?_; rintro e w4 ⟨rfl, hb4⟩; replace HRx := Lib.hid (HRx.out.below hb4); replace HB := Lib.hid (HB.out.trans (hb4.mono HB.out.size)); clear hb4 c0 c1 c2 c3 c4 c5; have c0 := HRx.out.cell (i := 0) rfl; have c1 := HRx.out.cell (i := 1) rfl; have c2 := HRx.out.cell (i := 2) rfl; have c3 := HRx.out.cell (i := 3) rfl; have c4 := HRx.out.cell (i := 4) rfl; have c5 := HRx.out.cell (i := 5) rfl)
        | (go_at_call 29; refine (HD1.out _).mono ?_; clear HD1; rintro e w5 ⟨hdi, hb5⟩; obtain ⟨dp, dc, rfl, hz⟩ := HDi.out _ _ hdi; have hal : Below w5.heap.size w5 (w5.alloc (.cells #[.string se1, .string us1, .int .i64 ep1, .int .i64 is1, .int .i64 ke1, .slice dp cl1.length dc] 60)) := (Below.refl _ _).alloc (Nat.le_refl _) _; have HRd : Hid (Row (w5.alloc (.cells #[.string se1, .string us1, .int .i64 ep1, .int .i64 is1, .int .i64 ke1, .slice dp cl1.length dc] 60)) w5.heap.size [.string se1, .string us1, .int .i64 ep1, .int .i64 is1, .int .i64 ke1, .slice dp cl1.length dc] 60) := Lib.hid (Row.new w5 _ _); replace HRx := Lib.hid ((HRx.out.below hb5).below hal); replace HB := Lib.hid ((HB.out.trans (hb5.mono HB.out.size)).trans (hal.mono (HB.out.trans (hb5.mono HB.out.size)).size)); have HZ := Lib.hid (hz.grown hal); clear hdi hz hb5 hal c0 c1 c2 c3 c4 c5; have c0 := HRx.out.cell (i := 0) rfl; have c1 := HRx.out.cell (i := 1) rfl; have c2 := HRx.out.cell (i := 2) rfl; have c3 := HRx.out.cell (i := 3) rfl; have c4 := HRx.out.cell (i := 4) rfl; have c5 := HRx.out.cell (i := 5) rfl; have d0 := HRd.out.cell (i := 0) rfl; have d1 := HRd.out.cell (i := 1) rfl; have d2 := HRd.out.cell (i := 2) rfl; have d3 := HRd.out.cell (i := 3) rfl; have d4 := HRd.out.cell (i := 4) rfl; have d5 := HRd.out.cell (i := 5) rfl)
        | (go_at_call 30; refine (HWb2.out _ HB.out).mono ?_; rintro e w6 ⟨rfl, hb6⟩; replace HRx := Lib.hid (HRx.out.below hb6); replace HRd := Lib.hid (HRd.out.below hb6); replace HB := Lib.hid (HB.out.trans (hb6.mono HB.out.size)); replace HZ := Lib.hid (HZ.out.grown hb6); clear hb6 c0 c1 c2 c3 c4 c5 d0 d1 d2 d3 d4 d5; have c0 := HRx.out.cell (i := 0) rfl; have c1 := HRx.out.cell (i := 1) rfl; have c2 := HRx.out.cell (i := 2) rfl; have c3 := HRx.out.cell (i := 3) rfl; have c4 := HRx.out.cell (i := 4) rfl; have c5 := HRx.out.cell (i := 5) rfl; have d0 := HRd.out.cell (i := 0) rfl; have d1 := HRd.out.cell (i := 1) rfl; have d2 := HRd.out.cell (i := 2) rfl; have d3 := HRd.out.cell (i := 3) rfl; have d4 := HRd.out.cell (i := 4) rfl; have d5 := HRd.out.cell (i := 5) rfl)
        | (go_at_call 31; refine (HSm.out _ HB.out dp dc HZ.out).mono ?_; rintro e w7 ⟨rfl, hb7⟩; replace HB := Lib.hid (HB.out.trans (hb7.mono HB.out.size)); clear hb7 c0 c1 c2 c3 c4 c5 d0 d1 d2 d3 d4 d5)
        | (go_at_call 29; refine (HD2.out _).mono ?_; clear HD2; rintro e w8 ⟨hdi, hb8⟩; obtain ⟨r2, n2, rfl, hc2⟩ := HCut.out _ _ hdi; have hal : Below w8.heap.size w8 (w8.alloc (.cells #[.string ⟨#[]⟩, .string ⟨#[]⟩, .int .i64 0, .int .i64 0, .int .i64 0, .slice none 0 0] 60)) := (Below.refl _ _).alloc (Nat.le_refl _) _; have HC := Lib.hid (Chain.mono hal hal.size hc2); replace HB := Lib.hid ((HB.out.trans (hb8.mono HB.out.size)).trans (hal.mono (HB.out.trans (hb8.mono HB.out.size)).size)); clear hdi hb8 hc2 hal HCut)
        | (go_at_call 29; refine (HD3.out _).mono ?_; rintro e w9 ⟨hdi, hb9⟩; obtain ⟨dp3, dc3, rfl⟩ := HL.out _ _ hdi; have hal : Below w9.heap.size w9 (w9.alloc (.cells #[.string se1, .string us1, .int .i64 ep1, .int .i64 is1, .int .i64 ke1, .slice dp3 cl1.length dc3] 60)) := (Below.refl _ _).alloc (Nat.le_refl _) _; replace hb9 := hb9.trans (hal.mono hb9.size); replace HC := Lib.hid (Chain.mono hb9 hb9.size HC.out); replace HB := Lib.hid (HB.out.trans (hb9.mono HB.out.size));  clear hdi hb9 hal)
        | (go_at_call 22; refine (Is_chain _ _ 2 2 r2 _ HC.out).mono ?_; rintro e w7 ⟨rfl, rfl⟩))
      all_goals
        go_ret
        exact ⟨by first | rfl | simp, HB.out⟩
    · by_cases hm1 : m.size ≤ 1000
      · skip
        have HX := Lib.hid ((rightC_iff x).1 hr)
        simp only [hr] at HRi
        obtain ⟨B, hB⟩ : ∃ B, B = txt (WireMath.claimsBytesT x.t) := ⟨_, rfl⟩
        have HBs := Lib.hid hB
        have hBl : B.size ≤ 1000 := by rw [hB, txt_len]; exact WireMath.claims_small (rightC_t HX.out)
        have hBp : 0 < B.size := by rw [hB, txt_len]; exact claims_pos HX.out
        obtain ⟨M, hM⟩ : ∃ M, M = k % B.size := ⟨_, rfl⟩
        have hmlt : M < B.size := by rw [hM]; exact Nat.mod_lt _ hBp
        have hmod : (k : Int) % (B.size : Int) = (M : Int) := by rw [hM]; omega
        have hmle : M ≤ B.size := by omega
        have HE := Lib.hid (fun w1 e (h : EncIsC w1 x e) => (show e = .returned (.tuple #[.string B, .nilIface]) by rw [hB]; exact encIsC_true h hr))
        have HDi : Hid (∀ w1 e, DecIsC w1 (nats B) e → ∃ dp dc, e = .returned (.tuple #[.agg #[.string x.session, .string x.user, .int .i64 x.epoch, .int .i64 x.issue, .int .i64 x.key, .slice dp x.cl.length dc], .nilIface]) ∧ Ints w1 dp x.cl) := Lib.hid (fun w1 e h => by
          unfold DecIsC at h
          rw [hB, decC_back HX.out] at h
          obtain ⟨dp, dc, h1, h2⟩ := h
          refine ⟨dp, dc, ?_, ?_⟩
          · rw [h1, readC_back HX.out]; rfl
          · have := map_back (trimmed_pos HX.out.ctx)
            rw [← this]
            exact h2)
        have HWb2 := Lib.hid (fun w1 (h : Below w.heap.size w w1) => (refClaimsBytes x w1 (hx.grown h) ⟨by have := HX.out.session; omega, by have := HX.out.user; omega⟩ (by have := HX.out.ctx; rw [trimmed_whole] at this; simp only [Bool.and_eq_true, decide_eq_true_eq] at this; omega)).mono (R' := fun e w' => e = .returned (.string B) ∧ Below w1.heap.size w1 w') (by
          rintro e w' ⟨rfl, hb⟩
          exact ⟨by rw [written_claims HX.out, putText_none, hB], hb⟩))
        have HSm := Lib.hid (fun w1 (h : Below w.heap.size w w1) dp dc (hz : Ints w1 dp x.cl) => (sameClaims_ok x ⟨x.session, x.user, x.epoch, x.issue, x.key, dp, x.cl, dc⟩ w1 (hx.grown h) hz sx.vec sx.vec).mono (R' := fun e w' => e = .returned (.bool true) ∧ Below w1.heap.size w1 w') (by
          rintro e w' ⟨rfl, hb⟩
          exact ⟨by rw [show sameC x ⟨x.session, x.user, x.epoch, x.issue, x.key, dp, x.cl, dc⟩ = true from by unfold sameC; rw [decide_eq_true_eq]; exact ⟨rfl, rfl, rfl, rfl, rfl, rfl⟩], hb⟩))
        have HCut : Hid (∀ w1 e, DecIsC w1 (nats (B.extract 0 M)) e → ∃ r n, e = .returned (.tuple #[.agg #[.string ⟨#[]⟩, .string ⟨#[]⟩, .int .i64 0, .int .i64 0, .int .i64 0, .slice none 0 0], r]) ∧ Chain w1.heap.size w1 [(⟨#[119, 105, 114, 101]⟩, n)] (.iface 51 (.int .i64 (2 : Int))) r) := Lib.hid (fun w1 e h => by
          unfold DecIsC at h
          rw [hB, cut_none HX.out (by rw [← hB]; exact hmlt)] at h
          exact h)
        have HD1 := Lib.hid (fun w1 => decClaims_ok B w1 (by omega))
        have HD2 := Lib.hid (fun w1 => decClaims_ok (B.extract 0 M) w1 (by rw [ByteArray.size_extract]; omega))
        have HL : Hid (∀ w1 e, DecIsC w1 (nats (B ++ m)) e → ∃ T v n, e = .returned (.tuple #[.agg #[.string ⟨#[]⟩, .string ⟨#[]⟩, .int .i64 0, .int .i64 0, .int .i64 0, .slice none 0 0], .iface T v]) ∧ Chain w1.heap.size w1 [(⟨#[119, 105, 114, 101]⟩, n)] (.iface 51 (.int .i64 (2 : Int))) (.iface T v)) := Lib.hid (fun w1 e h => by
          unfold DecIsC at h
          rw [hB, long_none HX.out m hm0] at h
          obtain ⟨r, n, h1, h2⟩ := h
          obtain ⟨T, v, rfl⟩ := h2.some
          exact ⟨T, v, n, h1, h2⟩)
        have HD3 := Lib.hid (fun w1 => decClaims_ok (B ++ m) w1 (by rw [ByteArray.size_append]; omega))
        have hmz : m.toList.isEmpty = false := by rw [toList_nil]; exact decide_eq_false hm0
        have hmz1 : (m.toList == []) = false := by rw [← hmz]; cases m.toList <;> rfl
        have hmz2 : ¬ m.toList = [] := fun h => by rw [h] at hmz; cases hmz
        have t1 : decide ((1000 : Int) < (m.size : Int)) = false := decide_eq_false (by omega)
        have t2 : decide (1000 < m.size) = false := decide_eq_false (by omega)
        have HK := Lib.hid hk
        clear hB hM hmlt
        obtain ⟨se1, us1, ep1, is1, ke1, cp1, cl1, cc1⟩ := x
        simp only [ClaimsV.val] at *
        clear hx sx
        obtain ⟨W, hW⟩ : ∃ W, W = w.alloc (.cells #[.string se1, .string us1, .int .i64 ep1, .int .i64 is1, .int .i64 ke1, .slice cp1 cl1.length cc1] 60) := ⟨_, rfl⟩
        have hWb : Below w.heap.size w W := by rw [hW]; exact (Below.refl _ _).alloc (Nat.le_refl _) _
        have hRx : Row W w.heap.size [.string se1, .string us1, .int .i64 ep1, .int .i64 is1, .int .i64 ke1, .slice cp1 cl1.length cc1] 60 := by rw [hW]; exact Row.new w _ _
        have HW := Lib.hid hW
        have HWb := Lib.hid hWb
        have HRx := Lib.hid hRx
        clear hW hWb hRx
        go_enter Try.func6, Try.ntmps6
        go_wp2_with fail
        rw [← HW.out]
        refine (HA.out _).mono ?_
        rintro e w2 ⟨rfl, hb2⟩
        replace HRx := Lib.hid (HRx.out.below hb2)
        have HB := Lib.hid (HWb.out.trans (hb2.mono HWb.out.size))
        clear hb2
        have c0 := HRx.out.cell (i := 0) rfl; have c1 := HRx.out.cell (i := 1) rfl; have c2 := HRx.out.cell (i := 2) rfl; have c3 := HRx.out.cell (i := 3) rfl; have c4 := HRx.out.cell (i := 4) rfl; have c5 := HRx.out.cell (i := 5) rfl
        go_wp2_with (first
          | (go_at_call 27; refine (HEn.out _ HB.out).mono ?_; rintro e w3 ⟨he, hb3⟩; obtain rfl := HE.out _ _ he; replace HRx := Lib.hid (HRx.out.below hb3); replace HB := Lib.hid (HB.out.trans (hb3.mono HB.out.size)); clear he hb3 c0 c1 c2 c3 c4 c5; have c0 := HRx.out.cell (i := 0) rfl; have c1 := HRx.out.cell (i := 1) rfl; have c2 := HRx.out.cell (i := 2) rfl; have c3 := HRx.out.cell (i := 3) rfl; have c4 := HRx.out.cell (i := 4) rfl; have c5 := HRx.out.cell (i := 5) rfl)
          | (go_at_call 28; refine (HRi.out _ HB.out).mono ?_; rintro e w4 ⟨rfl, hb4⟩; replace HRx := Lib.hid (HRx.out.below hb4); replace HB := Lib.hid (HB.out.trans (hb4.mono HB.out.size)); clear hb4 c0 c1 c2 c3 c4 c5; have c0 := HRx.out.cell (i := 0) rfl; have c1 := HRx.out.cell (i := 1) rfl; have c2 := HRx.out.cell (i := 2) rfl; have c3 := HRx.out.cell (i := 3) rfl; have c4 := HRx.out.cell (i := 4) rfl; have c5 := HRx.out.cell (i := 5) rfl)
          | (go_at_call 29; refine (HD1.out _).mono ?_; clear HD1; rintro e w5 ⟨hdi, hb5⟩; obtain ⟨dp, dc, rfl, hz⟩ := HDi.out _ _ hdi; have hal : Below w5.heap.size w5 (w5.alloc (.cells #[.string se1, .string us1, .int .i64 ep1, .int .i64 is1, .int .i64 ke1, .slice dp cl1.length dc] 60)) := (Below.refl _ _).alloc (Nat.le_refl _) _; have HRd : Hid (Row (w5.alloc (.cells #[.string se1, .string us1, .int .i64 ep1, .int .i64 is1, .int .i64 ke1, .slice dp cl1.length dc] 60)) w5.heap.size [.string se1, .string us1, .int .i64 ep1, .int .i64 is1, .int .i64 ke1, .slice dp cl1.length dc] 60) := Lib.hid (Row.new w5 _ _); replace HRx := Lib.hid ((HRx.out.below hb5).below hal); replace HB := Lib.hid ((HB.out.trans (hb5.mono HB.out.size)).trans (hal.mono (HB.out.trans (hb5.mono HB.out.size)).size)); have HZ := Lib.hid (hz.grown hal); clear hdi hz hb5 hal c0 c1 c2 c3 c4 c5; have c0 := HRx.out.cell (i := 0) rfl; have c1 := HRx.out.cell (i := 1) rfl; have c2 := HRx.out.cell (i := 2) rfl; have c3 := HRx.out.cell (i := 3) rfl; have c4 := HRx.out.cell (i := 4) rfl; have c5 := HRx.out.cell (i := 5) rfl; have d0 := HRd.out.cell (i := 0) rfl; have d1 := HRd.out.cell (i := 1) rfl; have d2 := HRd.out.cell (i := 2) rfl; have d3 := HRd.out.cell (i := 3) rfl; have d4 := HRd.out.cell (i := 4) rfl; have d5 := HRd.out.cell (i := 5) rfl)
          | (go_at_call 30; refine (HWb2.out _ HB.out).mono ?_; rintro e w6 ⟨rfl, hb6⟩; replace HRx := Lib.hid (HRx.out.below hb6); replace HRd := Lib.hid (HRd.out.below hb6); replace HB := Lib.hid (HB.out.trans (hb6.mono HB.out.size)); replace HZ := Lib.hid (HZ.out.grown hb6); clear hb6 c0 c1 c2 c3 c4 c5 d0 d1 d2 d3 d4 d5; have c0 := HRx.out.cell (i := 0) rfl; have c1 := HRx.out.cell (i := 1) rfl; have c2 := HRx.out.cell (i := 2) rfl; have c3 := HRx.out.cell (i := 3) rfl; have c4 := HRx.out.cell (i := 4) rfl; have c5 := HRx.out.cell (i := 5) rfl; have d0 := HRd.out.cell (i := 0) rfl; have d1 := HRd.out.cell (i := 1) rfl; have d2 := HRd.out.cell (i := 2) rfl; have d3 := HRd.out.cell (i := 3) rfl; have d4 := HRd.out.cell (i := 4) rfl; have d5 := HRd.out.cell (i := 5) rfl)
          | (go_at_call 31; refine (HSm.out _ HB.out dp dc HZ.out).mono ?_; rintro e w7 ⟨rfl, hb7⟩; replace HB := Lib.hid (HB.out.trans (hb7.mono HB.out.size)); clear hb7 c0 c1 c2 c3 c4 c5 d0 d1 d2 d3 d4 d5)
          | (go_at_call 29; refine (HD2.out _).mono ?_; clear HD2; rintro e w8 ⟨hdi, hb8⟩; obtain ⟨r2, n2, rfl, hc2⟩ := HCut.out _ _ hdi; have hal : Below w8.heap.size w8 (w8.alloc (.cells #[.string ⟨#[]⟩, .string ⟨#[]⟩, .int .i64 0, .int .i64 0, .int .i64 0, .slice none 0 0] 60)) := (Below.refl _ _).alloc (Nat.le_refl _) _; have HC := Lib.hid (Chain.mono hal hal.size hc2); replace HB := Lib.hid ((HB.out.trans (hb8.mono HB.out.size)).trans (hal.mono (HB.out.trans (hb8.mono HB.out.size)).size)); clear hdi hb8 hc2 hal HCut)
          | (go_at_call 29; refine (HD3.out _).mono ?_; rintro e w9 ⟨hdi, hb9⟩; obtain ⟨T3, v3, n3, rfl, hc3⟩ := HL.out _ _ hdi; have hal : Below w9.heap.size w9 (w9.alloc (.cells #[.string ⟨#[]⟩, .string ⟨#[]⟩, .int .i64 0, .int .i64 0, .int .i64 0, .slice none 0 0] 60)) := (Below.refl _ _).alloc (Nat.le_refl _) _; replace hb9 := hb9.trans (hal.mono hb9.size); replace HC := Lib.hid (Chain.mono hb9 hb9.size HC.out); replace HB := Lib.hid (HB.out.trans (hb9.mono HB.out.size)); clear hc3; clear hdi hb9 hal)
          | (go_at_call 22; refine (Is_chain _ _ 2 2 r2 _ HC.out).mono ?_; rintro e w7 ⟨rfl, rfl⟩))
        all_goals
          go_ret
          exact ⟨by first | rfl | simp, HB.out⟩
      · skip
        have t1 : decide ((1000 : Int) < (m.size : Int)) = true := decide_eq_true (by omega)
        have t2 : decide (1000 < m.size) = true := decide_eq_true (by omega)
        obtain ⟨se1, us1, ep1, is1, ke1, cp1, cl1, cc1⟩ := x
        simp only [ClaimsV.val] at *
        clear hx sx
        obtain ⟨W, hW⟩ : ∃ W, W = w.alloc (.cells #[.string se1, .string us1, .int .i64 ep1, .int .i64 is1, .int .i64 ke1, .slice cp1 cl1.length cc1] 60) := ⟨_, rfl⟩
        have hWb : Below w.heap.size w W := by rw [hW]; exact (Below.refl _ _).alloc (Nat.le_refl _) _
        have hRx : Row W w.heap.size [.string se1, .string us1, .int .i64 ep1, .int .i64 is1, .int .i64 ke1, .slice cp1 cl1.length cc1] 60 := by rw [hW]; exact Row.new w _ _
        have HW := Lib.hid hW
        have HWb := Lib.hid hWb
        have HRx := Lib.hid hRx
        clear hW hWb hRx
        go_enter Try.func6, Try.ntmps6
        go_wp2_with fail
        rw [← HW.out]
        refine (HA.out _).mono ?_
        rintro e w2 ⟨rfl, hb2⟩
        replace HRx := Lib.hid (HRx.out.below hb2)
        have HB := Lib.hid (HWb.out.trans (hb2.mono HWb.out.size))
        clear hb2
        have c0 := HRx.out.cell (i := 0) rfl; have c1 := HRx.out.cell (i := 1) rfl; have c2 := HRx.out.cell (i := 2) rfl; have c3 := HRx.out.cell (i := 3) rfl; have c4 := HRx.out.cell (i := 4) rfl; have c5 := HRx.out.cell (i := 5) rfl
        go_wp2_with fail
        all_goals
          go_ret
          exact ⟨rfl, HB.out⟩
end Go.Proofs.Ytpmhfoleafjlbaa
