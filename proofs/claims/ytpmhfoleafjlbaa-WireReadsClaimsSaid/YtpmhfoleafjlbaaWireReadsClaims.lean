/-
  The contract of chapter 5's law WireReadsClaims: of any bytes it answers true; old memory is as it was. The condition: texts of fewer than 2^63 bytes.
-/
import Derived.Test.YtpmhfoleafjlbaaWireAwake
import Derived.Test.YtpmhfoleafjlbaaWireRefReadC
import Derived.Test.YtpmhfoleafjlbaaWireSameC
import Derived.Test.YtpmhfoleafjlbaaIsCode
namespace Go.Proofs.Ytpmhfoleafjlbaa
open Go.RowKit TextNat

theorem wideC_dec : WireMath.wideC 64 32 1099511627776 1099511627776 1099511627776 := ⟨by decide, by decide, by decide, by decide, by decide⟩
theorem wideC_read : WireMath.wideC 4611686018427387903 4611686018427387903 4611686018427387903 4611686018427387903 4611686018427387903 := ⟨by decide, by decide, by decide, by decide, by decide⟩
theorem decC_iff {l : List Nat} (hl : ∀ b ∈ l, b < 256) (v : WireMath.ClaimsT) : decC l = some v ↔ WireMath.rightClaimsT v = true ∧ l = WireMath.claimsBytesT v := WireMath.claims_whole l hl wideC_dec v
theorem readC_iff {l : List Nat} (hl : ∀ b ∈ l, b < 256) (v : WireMath.ClaimsT) : readC l = some v ↔ WireMath.rightClaimsT v = true ∧ l = WireMath.claimsBytesT v := WireMath.claims_whole l hl wideC_read v
theorem readC_eq {l : List Nat} (hl : ∀ b ∈ l, b < 256) : readC l = decC l := by
  cases h : decC l with
  | some v => exact (readC_iff hl v).2 ((decC_iff hl v).1 h)
  | none =>
    cases h2 : readC l with
    | none => rfl
    | some v =>
      have := (decC_iff hl v).2 ((readC_iff hl v).1 h2)
      rw [h] at this
      cases this
theorem readCV_t {v : WireMath.ClaimsT} {l : List Nat} (hl : ∀ b ∈ l, b < 256) (h : l = WireMath.claimsBytesT v) (dp : Option Addr) (dc : Nat) : (readCV v dp dc).t = v := by
  obtain ⟨v1, v2, v3, v4, v5, v6⟩ := v
  have h1 : ∀ b ∈ v1, b < 256 := fun b hb => hl b (by rw [h]; simp [WireMath.claimsBytesT, WireMath.textBytes, hb])
  have h2 : ∀ b ∈ v2, b < 256 := fun b hb => hl b (by rw [h]; simp [WireMath.claimsBytesT, WireMath.textBytes, hb])
  have h6 : (v6.map Int.ofNat).map Int.toNat = v6 := by
    rw [List.map_map]
    conv => rhs; rw [← List.map_id v6]
    exact List.map_congr_left fun z _ => rfl
  simp only [readCV, ClaimsV.t, nats_txt _ h1, nats_txt _ h2, h6]
  rfl
theorem sameC_self (x : ClaimsV) : sameC x x = true := by unfold sameC; simp
theorem sameC_read (v : WireMath.ClaimsT) (dp dq : Option Addr) (dc dd : Nat) : sameC (readCV v dp dc) (readCV v dq dd) = true := by unfold sameC readCV; simp
theorem rightC_small {x : ClaimsV} (h : RightIsC x) : x.small := by
  obtain ⟨h1, h2, h3, h4, h5, h6⟩ := h
  refine ⟨by omega, by omega, by omega, ?_⟩
  rw [trimmed_whole] at h6
  simp only [Bool.and_eq_true, decide_eq_true_eq] at h6
  have := h6.1.1
  omega
def zeroCV : ClaimsV := ⟨⟨#[]⟩, ⟨#[]⟩, 0, 0, 0, none, [], 0⟩

set_option maxRecDepth 100000 in
set_option maxHeartbeats 4000000 in
theorem readsClaims_true (s : ByteArray) (w : World) (hm : s.size ≤ 9223372036854775807) :
    Calls Try.prog 7 #[.string s] w fun e w' => e = .returned (.bool true) ∧ Below w.heap.size w w' := by
  have HA := Lib.hid (fun w1 => awake_true w1)
  by_cases h : 5000 < s.size
  · have t1 : decide (5000 < s.size) = true := decide_eq_true h
    have t2 : decide ((5000 : Int) < (s.size : Int)) = true := decide_eq_true (by omega)
    go_enter Try.func7, Try.ntmps7
    go_wp2_with (go_at_call 9; refine (HA.out _).mono ?_; rintro e w2 ⟨rfl, hb2⟩)
    go_ret
    exact ⟨rfl, hb2⟩
  · have t1 : decide (5000 < s.size) = false := decide_eq_false h
    have t2 : decide ((5000 : Int) < (s.size : Int)) = false := decide_eq_false (by omega)
    have hl := nats_lt s
    have HDc := Lib.hid (fun w1 => decClaims_ok s w1 (by omega))
    have HRd := Lib.hid (fun w1 => refReadClaims s w1 (by omega))
    cases hd : decC (nats s) with
    | none =>
      have hr : readC (nats s) = none := by rw [readC_eq hl, hd]
      go_enter Try.func7, Try.ntmps7
      go_wp2_with fail
      refine (HA.out _).mono ?_
      rintro e w2 ⟨rfl, hb2⟩
      go_wp2_with fail
      refine (HDc.out _).mono ?_
      rintro e w3 ⟨hdi, hb3⟩
      unfold DecIsC at hdi
      rw [hd] at hdi
      obtain ⟨r, k, rfl, hc⟩ := hdi
      unfold zeroC
      go_wp2_with fail
      obtain ⟨W4, hW4⟩ : ∃ W4, W4 = w3.alloc (.cells zerosC.toArray 60) := ⟨_, rfl⟩
      change Calls _ _ _ (w3.alloc (.cells zerosC.toArray 60)) _
      rw [← hW4]
      have hb4 : Below w3.heap.size w3 W4 := by rw [hW4]; exact (Below.refl _ _).alloc (Nat.le_refl _) _
      have hrow : Row W4 w3.heap.size zerosC 60 := by rw [hW4]; exact Row.new w3 zerosC _
      have HRow := Lib.hid hrow
      have HC := Lib.hid (Chain.mono hb4 hb4.size hc)
      have HB := Lib.hid (hb2.trans ((hb3.trans (hb4.mono hb3.size)).mono hb2.size))
      clear hb2 hb3 hb4 hrow hW4 hc
      refine (HRd.out _).mono ?_
      rintro e w5 ⟨hri, hb5⟩
      unfold ReadIsC at hri
      rw [hr] at hri
      have hri' : e = .returned (.tuple #[zeroC, .bool false]) := hri
      subst hri'
      unfold zeroC
      have hb6 : Below w5.heap.size w5 (w5.alloc (.cells zerosC.toArray 60)) := (Below.refl _ _).alloc (Nat.le_refl _) _
      have hb56 := hb5.trans (hb6.mono hb5.size)
      have HRow6 := Lib.hid (show Row (w5.alloc (.cells zerosC.toArray 60)) w3.heap.size zerosC 60 from HRow.out.below hb56)
      have HC6 := Lib.hid (Chain.mono hb56 hb56.size HC.out)
      have HB6 := Lib.hid (HB.out.trans (hb56.mono HB.out.size))
      have HIs := Lib.hid (Is_chain _ _ 2 2 r _ HC6.out)
      have hsm := sameClaims_ok zeroCV zeroCV (w5.alloc (.cells zerosC.toArray 60)) (fun i z h => by cases h) (fun i z h => by cases h) (by decide) (by decide)
      rw [sameC_self] at hsm
      have HSm := Lib.hid hsm
      clear hb5 hb6 hb56 hri hsm
      have c0 := HRow6.out.cell (i := 0) rfl; have c1 := HRow6.out.cell (i := 1) rfl; have c2 := HRow6.out.cell (i := 2) rfl; have c3 := HRow6.out.cell (i := 3) rfl; have c4 := HRow6.out.cell (i := 4) rfl; have c5 := HRow6.out.cell (i := 5) rfl
      unfold zerosC at c0 c1 c2 c3 c4 c5 HSm HIs
      go_wp2_with (first
        | (go_at_call 22; refine HIs.out.mono ?_; rintro e w7 ⟨rfl, rfl⟩)
        | (go_at_call 31; refine HSm.out.mono ?_; rintro e w8 ⟨rfl, hb8⟩))
      go_ret
      exact ⟨rfl, HB6.out.trans (hb8.mono HB6.out.size)⟩
    | some v =>
      have hr : readC (nats s) = some v := by rw [readC_eq hl, hd]
      obtain ⟨hrt, hlv⟩ := (decC_iff hl v).1 hd
      have hbs : txt (WireMath.claimsBytesT v) = s := by rw [← hlv, txt_nats]
      have HRt := Lib.hid (fun dp dc => show (readCV v dp dc).right = true by rw [readCV_right]; exact hrt)
      have HT := Lib.hid (fun dp dc => readCV_t hl hlv dp dc)
      have HBs := Lib.hid hbs
      have HSv := Lib.hid (fun dp dq dc dd => sameC_read v dp dq dc dd)
      obtain ⟨v1, v2, v3, v4, v5, v6⟩ := v
      have HLn := Lib.hid (show (v6.map Int.ofNat).length = v6.length from List.length_map ..)
      clear hrt hlv hbs
      go_enter Try.func7, Try.ntmps7
      go_wp2_with fail
      refine (HA.out _).mono ?_
      rintro e w2 ⟨rfl, hb2⟩
      go_wp2_with fail
      refine (HDc.out _).mono ?_
      rintro e w3 ⟨hdi, hb3⟩
      unfold DecIsC at hdi
      rw [hd] at hdi
      obtain ⟨dp, dc, hdi, hz⟩ := hdi
      have hdi' : e = .returned (.tuple #[.agg #[.string (txt v1), .string (txt v2), .int .i64 (v3 : Int), .int .i64 (v4 : Int), .int .i64 (v5 : Int), .slice dp v6.length dc], .nilIface]) := by rw [hdi]; simp only [readCV, ClaimsV.val, HLn.out]
      subst hdi'
      go_wp2_with fail
      obtain ⟨W4, hW4⟩ : ∃ W4, W4 = w3.alloc (.cells #[.string (txt v1), .string (txt v2), .int .i64 (v3 : Int), .int .i64 (v4 : Int), .int .i64 (v5 : Int), .slice dp v6.length dc] 60) := ⟨_, rfl⟩
      rw [← hW4]
      have hb4 : Below w3.heap.size w3 W4 := by rw [hW4]; exact (Below.refl _ _).alloc (Nat.le_refl _) _
      have hrow : Row W4 w3.heap.size [.string (txt v1), .string (txt v2), .int .i64 (v3 : Int), .int .i64 (v4 : Int), .int .i64 (v5 : Int), .slice dp v6.length dc] 60 := by rw [hW4]; exact Row.new w3 _ _
      have HRow := Lib.hid hrow
      have HZ := Lib.hid (show Ints W4 dp (v6.map Int.ofNat) from hz.grown hb4)
      have HB := Lib.hid (hb2.trans ((hb3.trans (hb4.mono hb3.size)).mono hb2.size))
      clear hb2 hb3 hb4 hrow hW4 hz hdi
      refine (HRd.out _).mono ?_
      rintro e w5 ⟨hri, hb5⟩
      unfold ReadIsC at hri
      rw [hr] at hri
      obtain ⟨dq, dd, hri, hz5⟩ := hri
      have hri' : e = .returned (.tuple #[.agg #[.string (txt v1), .string (txt v2), .int .i64 (v3 : Int), .int .i64 (v4 : Int), .int .i64 (v5 : Int), .slice dq v6.length dd], .bool true]) := by rw [hri]; simp only [readCV, ClaimsV.val, HLn.out]
      subst hri'
      obtain ⟨W6, hW6⟩ : ∃ W6, W6 = w5.alloc (.cells #[.string (txt v1), .string (txt v2), .int .i64 (v3 : Int), .int .i64 (v4 : Int), .int .i64 (v5 : Int), .slice dq v6.length dd] 60) := ⟨_, rfl⟩
      have hb6 : Below w5.heap.size w5 W6 := by rw [hW6]; exact (Below.refl _ _).alloc (Nat.le_refl _) _
      have hb56 := hb5.trans (hb6.mono hb5.size)
      have HRow6 := Lib.hid (show Row W6 w3.heap.size [.string (txt v1), .string (txt v2), .int .i64 (v3 : Int), .int .i64 (v4 : Int), .int .i64 (v5 : Int), .slice dp v6.length dc] 60 from HRow.out.below hb56)
      have HRx6 := Lib.hid (show Row W6 w5.heap.size [.string (txt v1), .string (txt v2), .int .i64 (v3 : Int), .int .i64 (v4 : Int), .int .i64 (v5 : Int), .slice dq v6.length dd] 60 by rw [hW6]; exact Row.new w5 _ _)
      have HZ6 := Lib.hid (HZ.out.grown hb56)
      have HZx6 := Lib.hid (show Ints W6 dq (v6.map Int.ofNat) from hz5.grown hb6)
      have HB6 := Lib.hid (HB.out.trans (hb56.mono HB.out.size))
      have henc := encClaims_ok (readCV (v1, v2, v3, v4, v5, v6) dp dc) W6 HZ6.out (rightC_small ((rightC_iff _).1 (HRt.out dp dc)))
      have HEn := Lib.hid (henc.mono (R' := fun e w' => e = .returned (.tuple #[.string s, .nilIface]) ∧ Below W6.heap.size W6 w') (by
        rintro e w' ⟨he, hb⟩
        unfold EncIsC at he
        rw [if_pos (HRt.out dp dc), HT.out dp dc, HBs.out] at he
        exact ⟨he, hb⟩))
      simp only [readCV, ClaimsV.val, HLn.out] at HEn
      have HSm := Lib.hid (fun w7 (h : Below W6.heap.size W6 w7) => sameClaims_ok (readCV (v1, v2, v3, v4, v5, v6) dp dc) (readCV (v1, v2, v3, v4, v5, v6) dq dd) w7 (HZ6.out.grown h) (HZx6.out.grown h) (rightC_small ((rightC_iff _).1 (HRt.out dp dc))).vec (rightC_small ((rightC_iff _).1 (HRt.out dq dd))).vec)
      simp only [HSv.out] at HSm
      simp only [readCV, ClaimsV.val, HLn.out] at HSm
      have c0 := HRow6.out.cell (i := 0) rfl; have c1 := HRow6.out.cell (i := 1) rfl; have c2 := HRow6.out.cell (i := 2) rfl; have c3 := HRow6.out.cell (i := 3) rfl; have c4 := HRow6.out.cell (i := 4) rfl; have c5 := HRow6.out.cell (i := 5) rfl
      have HW6 := Lib.hid hW6
      clear hb5 hb6 hb56 hri hz5 henc
      rw [hW6] at c0 c1 c2 c3 c4 c5
      clear hW6
      go_wp2_with fail
      rw [← HW6.out]
      refine HEn.out.mono ?_
      rintro e w7 ⟨rfl, hb7⟩
      have HRow7 := Lib.hid (HRow6.out.below hb7)
      have HRx7 := Lib.hid (HRx6.out.below hb7)
      have HSm7 := Lib.hid (HSm.out w7 hb7)
      have HB7 := Lib.hid (HB6.out.trans (hb7.mono HB6.out.size))
      clear hb7 c0 c1 c2 c3 c4 c5
      have c0 := HRow7.out.cell (i := 0) rfl; have c1 := HRow7.out.cell (i := 1) rfl; have c2 := HRow7.out.cell (i := 2) rfl; have c3 := HRow7.out.cell (i := 3) rfl; have c4 := HRow7.out.cell (i := 4) rfl; have c5 := HRow7.out.cell (i := 5) rfl
      have d0 := HRx7.out.cell (i := 0) rfl; have d1 := HRx7.out.cell (i := 1) rfl; have d2 := HRx7.out.cell (i := 2) rfl; have d3 := HRx7.out.cell (i := 3) rfl; have d4 := HRx7.out.cell (i := 4) rfl; have d5 := HRx7.out.cell (i := 5) rfl
      go_wp2_with (go_at_call 31; refine HSm7.out.mono ?_; rintro e w8 ⟨rfl, hb8⟩)
      go_ret
      exact ⟨rfl, HB7.out.trans (hb8.mono HB7.out.size)⟩
end Go.Proofs.Ytpmhfoleafjlbaa
