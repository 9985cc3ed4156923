/-
  BlockFull's contract: what has no room changes nothing, and what has goes in. The conditions: the program's contracts.
-/
import Derived.Test.YtfdldjhndfohhaaBlockAwake
namespace Go.Proofs.Ytfdldjhndfohhaa
open Go.RowKit BlockMath TextNat

set_option maxRecDepth 100000 in
set_option maxHeartbeats 4000000 in
theorem full_true {D : Dev} (hN : NewOk D) (hA : AppendOk D) (hS : SyncOk D) (hC : CrashOk D) (hL : LenOk D) (hR : ReadOk D) (r : Nat) (a c : ByteArray) (w : World) (hr : r ≤ 65535) (ha : a.size ≤ 9223372036854775807) (hc : c.size ≤ 9223372036854775807) :
    Calls Try.prog 5 #[.int .u16 (r : Int), .string a, .string c] w fun e w' => e = .returned (.bool true) ∧ Below w.heap.size w w' := by
  have HA := Lib.hid (awake_true hN hA hS hC hL hR w)
  replace hN := Lib.hid fun w => hN (r : Int) w (by omega)
  replace hA := Lib.hid hA
  replace hL := Lib.hid hL
  clear hS hC hR
  go_enter Try.func5, Try.ntmps5
  go_wp2_with fail
  refine HA.out.mono ?_
  rintro e w0 ⟨rfl, hb⟩
  have HB := Lib.hid hb
  have HW := Lib.hid hb.size
  clear HA hb
  have n1 : IntKind.i64.wrap (r : Int) = (r : Int) := by rw [IntKind.wrap_i64]; omega
  go_wp2_with fail
  refine (hN.out _).mono ?_
  rintro e w1 ⟨h1, hb⟩
  rw [if_pos (by omega)] at h1
  obtain ⟨b, rfl, hd⟩ := h1
  replace HB := Lib.hid (HB.out.trans (hb.mono HB.out.size))
  have HD := Lib.hid hd
  have OK := Lib.hid (Ok.new (r := (r : Int)) (by omega) (by omega))
  have HL := Lib.hid hb.size
  clear hb hd hN
  by_cases h1 : 100000 < a.size
  · have t1 : decide ((100000 : Int) < (a.size : Int)) = true := decide_eq_true (by omega)
    have t1' : decide (100000 < a.size) = true := decide_eq_true h1
    go_wp2
    go_ret
    exact ⟨rfl, HB.out⟩
  · have t1 : decide ((100000 : Int) < (a.size : Int)) = false := decide_eq_false (by omega)
    have t1' : decide (100000 < a.size) = false := decide_eq_false h1
    by_cases h2 : 100000 < c.size
    · have t2 : decide ((100000 : Int) < (c.size : Int)) = true := decide_eq_true (by omega)
      have t2' : decide (100000 < c.size) = true := decide_eq_true h2
      go_wp2
      go_ret
      exact ⟨rfl, HB.out⟩
    · have t2 : decide ((100000 : Int) < (c.size : Int)) = false := decide_eq_false (by omega)
      have t2' : decide (100000 < c.size) = false := decide_eq_false h2
      go_wp2_with fail
      refine (append_has hA.out HD.out HL.out OK.out a (by omega)).mono ?_
      rintro e w2 ⟨⟨x, rfl, hx⟩, hd, hb⟩
      replace HL := Lib.hid (Nat.le_trans HL.out hb.size)
      replace HB := Lib.hid (HB.out.trans (hb.mono HW.out))
      by_cases hf1 : a.size ≤ r
      · have v1 : decide ((a.size : Int) ≤ (r : Int)) = true := decide_eq_true (by omega)
        have v1' : decide (a.size ≤ r) = true := decide_eq_true hf1
        rw [append_in rfl rfl (by show ((0 : Nat) : Int) + _ ≤ (r : Int); omega)] at hx hd
        obtain rfl := hx.zero rfl
        replace OK := Lib.hid (show Ok { new (r : Int) with late := (new (r : Int)).late ++ a } by have := OK.out.append a; rwa [append_in rfl rfl (by show ((0 : Nat) : Int) + _ ≤ (r : Int); omega)] at this)
        have FS := Lib.hid (show size { new (r : Int) with late := (new (r : Int)).late ++ a } = (a.size : Int) by
          rw [size_on rfl, all_size]
          show ((0 + (ByteArray.empty ++ a).size : Nat) : Int) = _
          rw [ByteArray.size_append]
          show ((0 + (0 + a.size) : Nat) : Int) = _
          omega)
        have FO := Lib.hid (show ({ new (r : Int) with late := (new (r : Int)).late ++ a } : Dk).off = false from rfl)
        have FF := Lib.hid (show ({ new (r : Int) with late := (new (r : Int)).late ++ a } : Dk).fuse = -1 from rfl)
        have FR := Lib.hid (show ({ new (r : Int) with late := (new (r : Int)).late ++ a } : Dk).room = (r : Int) from rfl)
        replace HD := Lib.hid hd
        clear hx hd hb
        generalize ({ new (r : Int) with late := (new (r : Int)).late ++ a } : Dk) = d at OK FS FO FF FR HD
        go_wp2_with fail
        refine (len_has hL.out HD.out OK.out).mono ?_
        rintro e w3 ⟨rfl, hd, hb⟩
        replace HD := Lib.hid hd
        replace HL := Lib.hid (Nat.le_trans HL.out hb.size)
        replace HB := Lib.hid (HB.out.trans (hb.mono HB.out.size))
        clear hd hb
        rw [FS.out]
        go_wp2_with fail
        refine (append_has hA.out HD.out HL.out OK.out c (by omega)).mono ?_
        rintro e w4 ⟨⟨x, rfl, hx⟩, hd, hb⟩
        replace HL := Lib.hid (Nat.le_trans HL.out hb.size)
        replace HB := Lib.hid (HB.out.trans (hb.mono HW.out))
        have k2 : IntKind.i64.wrap ((a.size : Int) + (c.size : Int)) = (a.size : Int) + (c.size : Int) := by rw [IntKind.wrap_i64]; omega
        have k3 : IntKind.i64.wrap (c.size : Int) = (c.size : Int) := by rw [IntKind.wrap_i64]; omega
        by_cases hf2 : a.size + c.size ≤ r
        · have u2 : decide ((a.size : Int) + (c.size : Int) ≤ (r : Int)) = true := decide_eq_true (by omega)
          have u2' : decide (a.size + c.size ≤ r) = true := decide_eq_true (by omega)
          rw [append_in FO.out FF.out (by rw [← size_on FO.out, FS.out, FR.out]; omega)] at hx hd
          obtain rfl := hx.zero rfl
          clear hx hd hb
          go_wp2
          go_ret
          exact ⟨rfl, HB.out⟩
        · have u2 : decide ((a.size : Int) + (c.size : Int) ≤ (r : Int)) = false := decide_eq_false (by omega)
          have u2' : decide (a.size + c.size ≤ r) = false := decide_eq_false (by omega)
          rw [append_full FO.out (by rw [← size_on FO.out, FS.out, FR.out]; omega)] at hx hd
          have HX := Lib.hid (hx.not (by show (4 : Int) ≠ 0; decide)).is
          replace HD := Lib.hid hd
          obtain ⟨T, y, rfl⟩ := HX.out.iface
          clear hx hd hb
          go_wp2_with fail
          refine (is_err HX.out 4).mono ?_
          rintro e w5 ⟨rfl, rfl⟩
          go_wp2_with fail
          refine (len_has hL.out HD.out OK.out).mono ?_
          rintro e w6 ⟨rfl, hd, hb⟩
          replace HB := Lib.hid (HB.out.trans (hb.mono HB.out.size))
          rw [FS.out]
          clear hd hb
          go_wp2
          go_ret
          exact ⟨rfl, HB.out⟩
      · have v1 : decide ((a.size : Int) ≤ (r : Int)) = false := decide_eq_false (by omega)
        have v1' : decide (a.size ≤ r) = false := decide_eq_false hf1
        rw [append_full rfl (by show (r : Int) < ((0 : Nat) : Int) + _; omega)] at hx hd
        have HX := Lib.hid (hx.not (by show (4 : Int) ≠ 0; decide)).is
        have FS := Lib.hid (show size (new (r : Int)) = 0 from rfl)
        have FO := Lib.hid (show (new (r : Int)).off = false from rfl)
        have FF := Lib.hid (show (new (r : Int)).fuse = -1 from rfl)
        have FR := Lib.hid (show (new (r : Int)).room = (r : Int) from rfl)
        replace HD := Lib.hid hd
        clear hx hd hb
        generalize new (r : Int) = d at OK FS FO FF FR HD
        obtain ⟨T, y, rfl⟩ := HX.out.iface
        go_wp2_with fail
        refine (is_err HX.out 4).mono ?_
        rintro e w5 ⟨rfl, rfl⟩
        clear HX
        go_wp2_with fail
        refine (len_has hL.out HD.out OK.out).mono ?_
        rintro e w6 ⟨rfl, hd, hb⟩
        replace HD := Lib.hid hd
        replace HL := Lib.hid (Nat.le_trans HL.out hb.size)
        replace HB := Lib.hid (HB.out.trans (hb.mono HB.out.size))
        rw [FS.out]
        clear hd hb
        go_wp2_with fail
        refine (len_has hL.out HD.out OK.out).mono ?_
        rintro e w3 ⟨rfl, hd, hb⟩
        replace HD := Lib.hid hd
        replace HL := Lib.hid (Nat.le_trans HL.out hb.size)
        replace HB := Lib.hid (HB.out.trans (hb.mono HB.out.size))
        clear hd hb
        rw [FS.out]
        go_wp2_with fail
        refine (append_has hA.out HD.out HL.out OK.out c (by omega)).mono ?_
        rintro e w4 ⟨⟨x, rfl, hx⟩, hd, hb⟩
        replace HL := Lib.hid (Nat.le_trans HL.out hb.size)
        replace HB := Lib.hid (HB.out.trans (hb.mono HW.out))
        have k2 : IntKind.i64.wrap ((0 : Int) + (c.size : Int)) = (0 : Int) + (c.size : Int) := by rw [IntKind.wrap_i64]; omega
        have k3 : IntKind.i64.wrap (c.size : Int) = (c.size : Int) := by rw [IntKind.wrap_i64]; omega
        by_cases hf2 : 0 + c.size ≤ r
        · have u2 : decide ((0 : Int) + (c.size : Int) ≤ (r : Int)) = true := decide_eq_true (by omega)
          have u2' : decide (0 + c.size ≤ r) = true := decide_eq_true (by omega)
          have u3 : decide ((c.size : Int) ≤ (r : Int)) = true := decide_eq_true (by omega)
          have u3' : decide (c.size ≤ r) = true := decide_eq_true (by omega)
          rw [append_in FO.out FF.out (by rw [← size_on FO.out, FS.out, FR.out]; omega)] at hx hd
          obtain rfl := hx.zero rfl
          clear hx hd hb
          go_wp2
          go_ret
          exact ⟨rfl, HB.out⟩
        · have u2 : decide ((0 : Int) + (c.size : Int) ≤ (r : Int)) = false := decide_eq_false (by omega)
          have u2' : decide (0 + c.size ≤ r) = false := decide_eq_false (by omega)
          have u3 : decide ((c.size : Int) ≤ (r : Int)) = false := decide_eq_false (by omega)
          have u3' : decide (c.size ≤ r) = false := decide_eq_false (by omega)
          rw [append_full FO.out (by rw [← size_on FO.out, FS.out, FR.out]; omega)] at hx hd
          have HX := Lib.hid (hx.not (by show (4 : Int) ≠ 0; decide)).is
          replace HD := Lib.hid hd
          obtain ⟨T, y, rfl⟩ := HX.out.iface
          clear hx hd hb
          go_wp2_with fail
          refine (is_err HX.out 4).mono ?_
          rintro e w5 ⟨rfl, rfl⟩
          go_wp2_with fail
          refine (len_has hL.out HD.out OK.out).mono ?_
          rintro e w6 ⟨rfl, hd, hb⟩
          replace HB := Lib.hid (HB.out.trans (hb.mono HB.out.size))
          rw [FS.out]
          clear hd hb
          go_wp2
          go_ret
          exact ⟨rfl, HB.out⟩
end Go.Proofs.Ytfdldjhndfohhaa
