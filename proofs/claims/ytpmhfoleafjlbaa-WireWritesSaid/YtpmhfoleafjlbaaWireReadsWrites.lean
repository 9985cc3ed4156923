/-
  The contract of chapter 5's law WireReadsWrites: of any bytes it answers true; old memory is as it was. The condition: texts of fewer than 2^63 bytes.
-/
import Derived.Test.YtpmhfoleafjlbaaWireAwake
import Derived.Test.YtpmhfoleafjlbaaWireRefRead
import Derived.Test.YtpmhfoleafjlbaaWireSame
import Derived.Test.YtpmhfoleafjlbaaIsCode
namespace Go.Proofs.Ytpmhfoleafjlbaa
open Go.RowKit TextNat

theorem wide_dec : WireMath.wideW 16 1099511627776 1099511627776 64 32 128 1099511627776 := ⟨by decide, by decide, by decide, by decide, by decide, by decide, by decide⟩
theorem wide_read : WireMath.wideW 4611686018427387903 4611686018427387903 4611686018427387903 4611686018427387903 4611686018427387903 4611686018427387903 4611686018427387903 := ⟨by decide, by decide, by decide, by decide, by decide, by decide, by decide⟩
theorem decW_iff {l : List Nat} (hl : ∀ b ∈ l, b < 256) (v : WireMath.WriteT) : decW l = some v ↔ WireMath.rightWriteT v = true ∧ l = WireMath.writeBytesT v := WireMath.write_whole l hl wide_dec v
theorem readW_iff {l : List Nat} (hl : ∀ b ∈ l, b < 256) (v : WireMath.WriteT) : readW l = some v ↔ WireMath.rightWriteT v = true ∧ l = WireMath.writeBytesT v := WireMath.write_whole l hl wide_read v
theorem readW_eq {l : List Nat} (hl : ∀ b ∈ l, b < 256) : readW l = decW l := by
  cases h : decW l with
  | some v => exact (readW_iff hl v).2 ((decW_iff hl v).1 h)
  | none =>
    cases h2 : readW l with
    | none => rfl
    | some v =>
      have := (decW_iff hl v).2 ((readW_iff hl v).1 h2)
      rw [h] at this
      cases this
theorem readV_t {v : WireMath.WriteT} {l : List Nat} (hl : ∀ b ∈ l, b < 256) (h : l = WireMath.writeBytesT v) (dp : Option Addr) (dc : Nat) : (readV v dp dc).t = v := by
  obtain ⟨v1, v2, v3, v4, v5, v6, v7, v8, v9⟩ := v
  have h5 : ∀ b ∈ v5, b < 256 := fun b hb => hl b (by rw [h]; simp [WireMath.writeBytesT, WireMath.textBytes, hb])
  have h6 : ∀ b ∈ v6, b < 256 := fun b hb => hl b (by rw [h]; simp [WireMath.writeBytesT, WireMath.textBytes, hb])
  have h8 : ∀ b ∈ v8, b < 256 := fun b hb => hl b (by rw [h]; simp [WireMath.writeBytesT, WireMath.textBytes, hb])
  have h4 : (v4.map Int.ofNat).map Int.toNat = v4 := by
    rw [List.map_map]
    conv => rhs; rw [← List.map_id v4]
    exact List.map_congr_left fun z _ => rfl
  simp only [readV, WriteV.t, nats_txt _ h5, nats_txt _ h6, nats_txt _ h8, h4]
  rfl
theorem sameW_self (x : WriteV) : sameW x x = true := by unfold sameW; simp
theorem sameW_read (v : WireMath.WriteT) (dp dq : Option Addr) (dc dd : Nat) : sameW (readV v dp dc) (readV v dq dd) = true := by unfold sameW readV; simp
theorem right_small {x : WriteV} (h : RightIs x) : x.small := by
  obtain ⟨h1, h2, h3, h4, h5, h6, h7, h8, h9, h10⟩ := h
  refine ⟨by omega, by omega, by omega, by omega, ?_⟩
  rw [trimmed_whole] at h5
  simp only [Bool.and_eq_true, decide_eq_true_eq] at h5
  have := h5.1.1
  omega
def zeroV : WriteV := ⟨0, 0, 0, 0, none, [], 0, ⟨#[]⟩, ⟨#[]⟩, ⟨#[]⟩, false, 0⟩
theorem zeroV_val : zeroV.val = zeroW := rfl

set_option maxRecDepth 100000 in
set_option maxHeartbeats 4000000 in
theorem readsWrites_true (s : ByteArray) (w : World) (hm : s.size ≤ 9223372036854775807) :
    Calls Try.prog 5 #[.string s] w fun e w' => e = .returned (.bool true) ∧ Below w.heap.size w w' := by
  have HA := Lib.hid (fun w1 => awake_true w1)
  by_cases h : 5000 < s.size
  · have t1 : decide (5000 < s.size) = true := decide_eq_true h
    have t2 : decide ((5000 : Int) < (s.size : Int)) = true := decide_eq_true (by omega)
    go_enter Try.func5, Try.ntmps5
    go_wp2_with (go_at_call 9; refine (HA.out _).mono ?_; rintro e w2 ⟨rfl, hb2⟩)
    go_ret
    exact ⟨rfl, hb2⟩
  · have t1 : decide (5000 < s.size) = false := decide_eq_false h
    have t2 : decide ((5000 : Int) < (s.size : Int)) = false := decide_eq_false (by omega)
    have hl := nats_lt s
    have HDc := Lib.hid (fun w1 => decWrite_ok s w1 (by omega))
    have HRd := Lib.hid (fun w1 => refReadWrite s w1 (by omega))
    cases hd : decW (nats s) with
    | none =>
      have hr : readW (nats s) = none := by rw [readW_eq hl, hd]
      go_enter Try.func5, Try.ntmps5
      go_wp2_with fail
      refine (HA.out _).mono ?_
      rintro e w2 ⟨rfl, hb2⟩
      go_wp2_with fail
      refine (HDc.out _).mono ?_
      rintro e w3 ⟨hdi, hb3⟩
      unfold DecIs at hdi
      rw [hd] at hdi
      obtain ⟨r, k, rfl, hc⟩ := hdi
      unfold zeroW
      go_wp2_with fail
      obtain ⟨W4, hW4⟩ : ∃ W4, W4 = w3.alloc (.cells zeros.toArray 47) := ⟨_, rfl⟩
      change Calls _ _ _ (w3.alloc (.cells zeros.toArray 47)) _
      rw [← hW4]
      have hb4 : Below w3.heap.size w3 W4 := by rw [hW4]; exact (Below.refl _ _).alloc (Nat.le_refl _) _
      have hrow : Row W4 w3.heap.size zeros 47 := by rw [hW4]; exact Row.new w3 zeros _
      have HRow := Lib.hid hrow
      have HC := Lib.hid (Chain.mono hb4 hb4.size hc)
      have HB := Lib.hid (hb2.trans ((hb3.trans (hb4.mono hb3.size)).mono hb2.size))
      clear hb2 hb3 hb4 hrow hW4 hc
      refine (HRd.out _).mono ?_
      rintro e w5 ⟨hri, hb5⟩
      unfold ReadIs at hri
      rw [hr] at hri
      have hri' : e = .returned (.tuple #[zeroW, .bool false]) := hri
      subst hri'
      unfold zeroW
      have hb6 : Below w5.heap.size w5 (w5.alloc (.cells zeros.toArray 47)) := (Below.refl _ _).alloc (Nat.le_refl _) _
      have hb56 := hb5.trans (hb6.mono hb5.size)
      have HRow6 := Lib.hid (show Row (w5.alloc (.cells zeros.toArray 47)) w3.heap.size zeros 47 from HRow.out.below hb56)
      have HC6 := Lib.hid (Chain.mono hb56 hb56.size HC.out)
      have HB6 := Lib.hid (HB.out.trans (hb56.mono HB.out.size))
      have HIs := Lib.hid (Is_chain _ _ 2 2 r _ HC6.out)
      have hsm := sameWrite_ok zeroV zeroV (w5.alloc (.cells zeros.toArray 47)) (fun i z h => by cases h) (fun i z h => by cases h) (by decide) (by decide)
      rw [sameW_self] at hsm
      have HSm := Lib.hid hsm
      clear hb5 hb6 hb56 hri hsm
      have c0 := HRow6.out.cell (i := 0) rfl; have c1 := HRow6.out.cell (i := 1) rfl; have c2 := HRow6.out.cell (i := 2) rfl; have c3 := HRow6.out.cell (i := 3) rfl; have c4 := HRow6.out.cell (i := 4) rfl; have c5 := HRow6.out.cell (i := 5) rfl; have c6 := HRow6.out.cell (i := 6) rfl; have c7 := HRow6.out.cell (i := 7) rfl; have c8 := HRow6.out.cell (i := 8) rfl; have c9 := HRow6.out.cell (i := 9) rfl
      unfold zeros at c0 c1 c2 c3 c4 c5 c6 c7 c8 c9 HSm HIs
      go_wp2_with (first
        | (go_at_call 22; refine HIs.out.mono ?_; rintro e w7 ⟨rfl, rfl⟩)
        | (go_at_call 25; refine HSm.out.mono ?_; rintro e w8 ⟨rfl, hb8⟩))
      go_ret
      exact ⟨rfl, HB6.out.trans (hb8.mono HB6.out.size)⟩
    | some v =>
      have hr : readW (nats s) = some v := by rw [readW_eq hl, hd]
      obtain ⟨hrt, hlv⟩ := (decW_iff hl v).1 hd
      have hbs : txt (WireMath.writeBytesT v) = s := by rw [← hlv, txt_nats]
      have HRt := Lib.hid (fun dp dc => show (readV v dp dc).right = true by rw [readV_right]; exact hrt)
      have HT := Lib.hid (fun dp dc => readV_t hl hlv dp dc)
      have HBs := Lib.hid hbs
      have HSv := Lib.hid (fun dp dq dc dd => sameW_read v dp dq dc dd)
      obtain ⟨v1, v2, v3, v4, v5, v6, v7, v8, v9⟩ := v
      have HLn := Lib.hid (show (v4.map Int.ofNat).length = v4.length from List.length_map ..)
      clear hrt hlv hbs
      go_enter Try.func5, Try.ntmps5
      go_wp2_with fail
      refine (HA.out _).mono ?_
      rintro e w2 ⟨rfl, hb2⟩
      go_wp2_with fail
      refine (HDc.out _).mono ?_
      rintro e w3 ⟨hdi, hb3⟩
      unfold DecIs at hdi
      rw [hd] at hdi
      obtain ⟨dp, dc, hdi, hz⟩ := hdi
      have hdi' : e = .returned (.tuple #[.agg #[.int .i64 (v1 : Int), .int .i64 (v2 : Int), .int .i64 (v3 : Int), .int .i64 (v1 : Int), .slice dp v4.length dc, .string (txt v5), .string (txt v6), .string (txt v8), .bool v7, .int .i64 (v9 : Int)], .nilIface]) := by rw [hdi]; simp only [readV, WriteV.val, HLn.out]
      subst hdi'
      go_wp2_with fail
      obtain ⟨W4, hW4⟩ : ∃ W4, W4 = w3.alloc (.cells #[.int .i64 (v1 : Int), .int .i64 (v2 : Int), .int .i64 (v3 : Int), .int .i64 (v1 : Int), .slice dp v4.length dc, .string (txt v5), .string (txt v6), .string (txt v8), .bool v7, .int .i64 (v9 : Int)] 47) := ⟨_, rfl⟩
      rw [← hW4]
      have hb4 : Below w3.heap.size w3 W4 := by rw [hW4]; exact (Below.refl _ _).alloc (Nat.le_refl _) _
      have hrow : Row W4 w3.heap.size [.int .i64 (v1 : Int), .int .i64 (v2 : Int), .int .i64 (v3 : Int), .int .i64 (v1 : Int), .slice dp v4.length dc, .string (txt v5), .string (txt v6), .string (txt v8), .bool v7, .int .i64 (v9 : Int)] 47 := by rw [hW4]; exact Row.new w3 _ _
      have HRow := Lib.hid hrow
      have HZ := Lib.hid (show Ints W4 dp (v4.map Int.ofNat) from hz.grown hb4)
      have HB := Lib.hid (hb2.trans ((hb3.trans (hb4.mono hb3.size)).mono hb2.size))
      clear hb2 hb3 hb4 hrow hW4 hz hdi
      refine (HRd.out _).mono ?_
      rintro e w5 ⟨hri, hb5⟩
      unfold ReadIs at hri
      rw [hr] at hri
      obtain ⟨dq, dd, hri, hz5⟩ := hri
      have hri' : e = .returned (.tuple #[.agg #[.int .i64 (v1 : Int), .int .i64 (v2 : Int), .int .i64 (v3 : Int), .int .i64 (v1 : Int), .slice dq v4.length dd, .string (txt v5), .string (txt v6), .string (txt v8), .bool v7, .int .i64 (v9 : Int)], .bool true]) := by rw [hri]; simp only [readV, WriteV.val, HLn.out]
      subst hri'
      obtain ⟨W6, hW6⟩ : ∃ W6, W6 = w5.alloc (.cells #[.int .i64 (v1 : Int), .int .i64 (v2 : Int), .int .i64 (v3 : Int), .int .i64 (v1 : Int), .slice dq v4.length dd, .string (txt v5), .string (txt v6), .string (txt v8), .bool v7, .int .i64 (v9 : Int)] 47) := ⟨_, rfl⟩
      have hb6 : Below w5.heap.size w5 W6 := by rw [hW6]; exact (Below.refl _ _).alloc (Nat.le_refl _) _
      have hb56 := hb5.trans (hb6.mono hb5.size)
      have HRow6 := Lib.hid (show Row W6 w3.heap.size [.int .i64 (v1 : Int), .int .i64 (v2 : Int), .int .i64 (v3 : Int), .int .i64 (v1 : Int), .slice dp v4.length dc, .string (txt v5), .string (txt v6), .string (txt v8), .bool v7, .int .i64 (v9 : Int)] 47 from HRow.out.below hb56)
      have HRx6 := Lib.hid (show Row W6 w5.heap.size [.int .i64 (v1 : Int), .int .i64 (v2 : Int), .int .i64 (v3 : Int), .int .i64 (v1 : Int), .slice dq v4.length dd, .string (txt v5), .string (txt v6), .string (txt v8), .bool v7, .int .i64 (v9 : Int)] 47 by rw [hW6]; exact Row.new w5 _ _)
      have HZ6 := Lib.hid (HZ.out.grown hb56)
      have HZx6 := Lib.hid (show Ints W6 dq (v4.map Int.ofNat) from hz5.grown hb6)
      have HB6 := Lib.hid (HB.out.trans (hb56.mono HB.out.size))
      have henc := encWrite_ok (readV (v1, v2, v3, v4, v5, v6, v7, v8, v9) dp dc) W6 HZ6.out (right_small ((right_iff _).1 (HRt.out dp dc)))
      have HEn := Lib.hid (henc.mono (R' := fun e w' => e = .returned (.tuple #[.string s, .nilIface]) ∧ Below W6.heap.size W6 w') (by
        rintro e w' ⟨he, hb⟩
        unfold EncIs at he
        rw [if_pos (HRt.out dp dc), HT.out dp dc, HBs.out] at he
        exact ⟨he, hb⟩))
      simp only [readV, WriteV.val, HLn.out] at HEn
      have HSm := Lib.hid (fun w7 (h : Below W6.heap.size W6 w7) => sameWrite_ok (readV (v1, v2, v3, v4, v5, v6, v7, v8, v9) dp dc) (readV (v1, v2, v3, v4, v5, v6, v7, v8, v9) dq dd) w7 (HZ6.out.grown h) (HZx6.out.grown h) (right_small ((right_iff _).1 (HRt.out dp dc))).vec (right_small ((right_iff _).1 (HRt.out dq dd))).vec)
      simp only [HSv.out] at HSm
      simp only [readV, WriteV.val, HLn.out] at HSm
      have c0 := HRow6.out.cell (i := 0) rfl; have c1 := HRow6.out.cell (i := 1) rfl; have c2 := HRow6.out.cell (i := 2) rfl; have c3 := HRow6.out.cell (i := 3) rfl; have c4 := HRow6.out.cell (i := 4) rfl; have c5 := HRow6.out.cell (i := 5) rfl; have c6 := HRow6.out.cell (i := 6) rfl; have c7 := HRow6.out.cell (i := 7) rfl; have c8 := HRow6.out.cell (i := 8) rfl; have c9 := HRow6.out.cell (i := 9) rfl
      have HW6 := Lib.hid hW6
      clear hb5 hb6 hb56 hri hz5 henc
      rw [hW6] at c0 c1 c2 c3 c4 c5 c6 c7 c8 c9
      clear hW6
      go_wp2_with fail
      rw [← HW6.out]
      refine HEn.out.mono ?_
      rintro e w7 ⟨rfl, hb7⟩
      have HRow7 := Lib.hid (HRow6.out.below hb7)
      have HRx7 := Lib.hid (HRx6.out.below hb7)
      have HSm7 := Lib.hid (HSm.out w7 hb7)
      have HB7 := Lib.hid (HB6.out.trans (hb7.mono HB6.out.size))
      clear hb7 c0 c1 c2 c3 c4 c5 c6 c7 c8 c9
      have c0 := HRow7.out.cell (i := 0) rfl; have c1 := HRow7.out.cell (i := 1) rfl; have c2 := HRow7.out.cell (i := 2) rfl; have c3 := HRow7.out.cell (i := 3) rfl; have c4 := HRow7.out.cell (i := 4) rfl; have c5 := HRow7.out.cell (i := 5) rfl; have c6 := HRow7.out.cell (i := 6) rfl; have c7 := HRow7.out.cell (i := 7) rfl; have c8 := HRow7.out.cell (i := 8) rfl; have c9 := HRow7.out.cell (i := 9) rfl
      have d0 := HRx7.out.cell (i := 0) rfl; have d1 := HRx7.out.cell (i := 1) rfl; have d2 := HRx7.out.cell (i := 2) rfl; have d3 := HRx7.out.cell (i := 3) rfl; have d4 := HRx7.out.cell (i := 4) rfl; have d5 := HRx7.out.cell (i := 5) rfl; have d6 := HRx7.out.cell (i := 6) rfl; have d7 := HRx7.out.cell (i := 7) rfl; have d8 := HRx7.out.cell (i := 8) rfl; have d9 := HRx7.out.cell (i := 9) rfl
      go_wp2_with (go_at_call 25; refine HSm7.out.mono ?_; rintro e w8 ⟨rfl, hb8⟩)
      go_ret
      exact ⟨rfl, HB7.out.trans (hb8.mono HB7.out.size)⟩
end Go.Proofs.Ytpmhfoleafjlbaa
