/-
  TokenOnly's contract. The conditions: the program's contracts; mac's table.
-/
import Derived.Test.YtajhegjemhegiaaDoorPart21
namespace Go.Proofs.YtajhegjemhegiaaDoor
open Go.RowKit TextNat TokenMath

/-- Right claims that were read are few. -/
theorem few_right {x : ClaimsV} (h : RightIsC x) : x.few := by
  obtain ⟨h1, h2, h3, h4, h5, h6⟩ := h
  rw [trimmed_whole] at h6
  simp only [Bool.and_eq_true, decide_eq_true_eq] at h6
  have := h6.1.1
  exact ⟨⟨by omega, by omega, by omega, by omega⟩, by omega⟩
theorem few_read {v : WireMath.ClaimsT} (h : WireMath.rightClaimsT v = true) (dp : Option Addr) (dc : Nat) : (readCV v dp dc).few :=
  few_right ((rightC_iff _).1 (by rw [readCV_right]; exact h))
theorem readCV_plain {v : WireMath.ClaimsT} (h : Octs v) (dp : Option Addr) (dc : Nat) : (readCV v dp dc).t = v := by
  obtain ⟨v1, v2, v3, v4, v5, v6⟩ := v
  have h6 : (v6.map Int.ofNat).map Int.toNat = v6 := by
    rw [List.map_map]
    conv => rhs; rw [← List.map_id v6]
    exact List.map_congr_left fun z _ => rfl
  simp only [readCV, ClaimsV.t, nats_txt _ h.session, nats_txt _ h.user, h6]
  rfl
theorem keyed_read (v : WireMath.ClaimsT) (dp : Option Addr) (dc : Nat) : (readCV v dp dc).keyed ((keyN v : Nat) : Int) = readCV v dp dc := rfl
theorem key_right {v : WireMath.ClaimsT} (h : WireMath.rightClaimsT v = true) : keyN v ≤ 1099511627776 := by
  unfold WireMath.rightClaimsT at h
  simp only [Bool.and_eq_true, decide_eq_true_eq] at h
  exact h.1.2
/-- What was read is minted again, byte by byte, by a ring of its key. -/
theorem mint_read {w : World} {m s : ByteArray} {alive : Nat → Bool} {v : WireMath.ClaimsT} {dp : Option Addr} {dc : Nat} {e : Ending} (h : readF alive (nats m) (nats s) = some v) (hM : MintIs w m ((keyN v : Nat) : Int) (readCV v dp dc) e) :
    e = .returned (.tuple #[.string s, .nilIface]) := by
  obtain ⟨h1, h2, _, h4⟩ := readF_iff.1 h
  unfold MintIs at hM
  rw [keyed_read, readCV_right, if_pos h1, readCV_plain h2, ← h4, txt_nats] at hM
  exact hM
set_option maxRecDepth 100000 in
set_option maxHeartbeats 4000000 in
theorem only_true {R : Rng} (hN : RNewOk R) (hM : MintOk R) (hQ : ReadTOk R) (c : Int) (s : ByteArray) (w : World) (hP : Parts w) (hc : I64 c) :
    Calls Tryd.prog 3 #[.int .i64 c, .string s] w fun e w' => e = .returned (.bool true) ∧ Below w.heap.size w w' := by
  have HA := Lib.hid (awake_true hN hM hQ w hP)
  have HNc := Lib.hid (fun w1 => hN ⟨#[109]⟩ c w1 (by decide) hc)
  have HN := Lib.hid hN
  have HP := Lib.hid hP
  have HM := Lib.hid hM
  have HQ := Lib.hid hQ
  clear hN hM hQ hP hc
  go_enter Tryd.func3, Tryd.ntmps3
  go_wp2_with fail
  refine HA.out.mono ?_
  rintro e w1 ⟨rfl, hb⟩
  have HB := Lib.hid hb
  clear hb HA
  go_wp2_with fail
  refine (HNc.out _).mono ?_
  rintro e w2 ⟨h1, hb⟩
  replace HB := Lib.hid (HB.out.trans (hb.mono HB.out.size))
  clear hb HNc
  by_cases hr : rightB ⟨#[109]⟩ c = true
  · rw [if_pos hr] at h1
    obtain ⟨b, rfl, h1⟩ := h1
    have HR := Lib.hid hr
    have HH := Lib.hid h1
    clear hr h1
    by_cases hs : s.size ≤ 5000
    · have HS := Lib.hid hs
      have t1 : decide ((5000 : Int) < (s.size : Int)) = false := decide_eq_false (by omega)
      have t2 : ¬ ((5000 : Int) < (s.size : Int)) := by omega
      clear hs
      go_wp2_with fail
      refine (HasR.readT HQ.out HH.out HR.out (HP.out.grown HB.out) s (by have := HS.out; omega)).mono ?_
      rintro e w3 ⟨h3, hb⟩
      replace HB := Lib.hid (HB.out.trans (hb.mono HB.out.size))
      clear hb HH
      unfold ReadTIs at h3
      cases hd : readF (aliveN c) (nats ⟨#[109]⟩) (nats s) with
      | none =>
        rw [hd] at h3
        obtain ⟨r, rfl, hx⟩ := h3
        obtain ⟨T, u, rfl⟩ := hx.iface
        clear hx hd
        unfold zeroC
        go_wp2
        go_ret
        exact ⟨rfl, HB.out.alloc (by have := HB.out.size; omega) _⟩
      | some v =>
        rw [hd] at h3
        obtain ⟨dp, dc, rfl, hz, _⟩ := h3
        obtain ⟨q1, q2, q3, q4⟩ := readF_iff.1 hd
        have q5 := key_right q1
        obtain ⟨v1, v2, v3, v4, v5, v6⟩ := v
        have HD := Lib.hid hd
        replace q5 : v5 ≤ 1099511627776 := q5
        have hkr : rightB ⟨#[109]⟩ (v5 : Int) = true := by
          unfold rightB
          simp only [Bool.and_eq_true, decide_eq_true_eq]
          exact ⟨⟨⟨by decide, by decide⟩, by omega⟩, by omega⟩
        have HKR := Lib.hid hkr
        have HNk := Lib.hid (fun w1 => HN.out ⟨#[109]⟩ (v5 : Int) w1 (by decide) ⟨by omega, by omega⟩)
        have HFew := Lib.hid (few_read q1 dp dc)
        have HLn := Lib.hid (show (v6.map Int.ofNat).length = v6.length from List.length_map ..)
        have HIs := Lib.hid (fun w1 e1 (h : MintIs w1 ⟨#[109]⟩ (v5 : Int) (readCV (v1, v2, v3, v4, v5, v6) dp dc) e1) => mint_read hd h)
        rw [show (readCV (v1, v2, v3, v4, v5, v6) dp dc).val = .agg #[.string (txt v1), .string (txt v2), .int .i64 (v3 : Int), .int .i64 (v4 : Int), .int .i64 (v5 : Int), .slice dp v6.length dc] by simp only [readCV, ClaimsV.val, HLn.out]]
        have HZ := Lib.hid hz
        clear hd hz q1 q2 q3 q4 q5 hkr
        go_wp2_with fail
        obtain ⟨W4, hW4⟩ : ∃ W4, W4 = w3.alloc (.cells #[.string (txt v1), .string (txt v2), .int .i64 (v3 : Int), .int .i64 (v4 : Int), .int .i64 (v5 : Int), .slice dp v6.length dc] 31) := ⟨_, rfl⟩
        rw [← hW4]
        have hb4 : Below w3.heap.size w3 W4 := by rw [hW4]; exact (Below.refl _ _).alloc (Nat.le_refl _) _
        have HRow := Lib.hid (show Row W4 w3.heap.size [.string (txt v1), .string (txt v2), .int .i64 (v3 : Int), .int .i64 (v4 : Int), .int .i64 (v5 : Int), .slice dp v6.length dc] 31 by rw [hW4]; exact Row.new w3 _ _)
        replace HZ := Lib.hid (show Ints W4 dp (v6.map Int.ofNat) from HZ.out.grown hb4)
        replace HB := Lib.hid (HB.out.trans (hb4.mono HB.out.size))
        clear hb4 hW4
        refine (HNk.out _).mono ?_
        rintro e w5 ⟨h5, hb⟩
        rw [if_pos HKR.out] at h5
        obtain ⟨b2, rfl, h5⟩ := h5
        replace HRow := Lib.hid (HRow.out.below hb)
        replace HZ := Lib.hid (HZ.out.grown hb)
        replace HB := Lib.hid (HB.out.trans (hb.mono HB.out.size))
        have HMt := Lib.hid ((HasR.mint HM.out h5 HKR.out (HP.out.grown HB.out) (readCV (v1, v2, v3, v4, v5, v6) dp dc) HZ.out HFew.out).mono (R' := fun e w' => e = .returned (.tuple #[.string s, .nilIface]) ∧ Below w5.heap.size w5 w') (fun e w' h => ⟨HIs.out w' e h.1, h.2⟩))
        simp only [readCV, ClaimsV.val, HLn.out] at HMt
        have c0 := HRow.out.cell (i := 0) rfl; have c1 := HRow.out.cell (i := 1) rfl; have c2 := HRow.out.cell (i := 2) rfl; have c3 := HRow.out.cell (i := 3) rfl; have c4 := HRow.out.cell (i := 4) rfl; have c5 := HRow.out.cell (i := 5) rfl
        clear hb h5
        go_wp2_with fail
        refine HMt.out.mono ?_
        rintro e w6 ⟨rfl, hb⟩
        replace HB := Lib.hid (HB.out.trans (hb.mono HB.out.size))
        clear hb c0 c1 c2 c3 c4 c5
        go_wp2
        go_ret
        exact ⟨rfl, HB.out⟩
    · have t1 : decide ((5000 : Int) < (s.size : Int)) = true := decide_eq_true (by omega)
      have t2 : (5000 : Int) < (s.size : Int) := by omega
      clear hs
      go_wp2
      go_ret
      exact ⟨rfl, HB.out⟩
  · rw [if_neg hr] at h1
    obtain ⟨x, rfl, hx⟩ := h1
    obtain ⟨T, u, rfl⟩ := hx.iface
    clear hx hr
    go_wp2
    go_ret
    exact ⟨rfl, HB.out⟩
end Go.Proofs.YtajhegjemhegiaaDoor
