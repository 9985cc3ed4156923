/-
  BlockNone's contract: a device that isn't there is down. The conditions: the program's contracts.
-/
import Derived.Test.YtfdldjhndfohhaaBlockAwake
namespace Go.Proofs.Ytfdldjhndfohhaa
open Go.RowKit BlockMath TextNat

set_option maxRecDepth 100000 in
set_option maxHeartbeats 4000000 in
theorem none_true {D : Dev} (hN : NewOk D) (hA : AppendOk D) (hS : SyncOk D) (hC : CrashOk D) (hL : LenOk D) (hR : ReadOk D) (h0 : NoneOk) (k n m : Int) (s : ByteArray) (w : World) (hn : I64 n) (hm : I64 m) (hs : s.size ≤ 9223372036854775807) :
    Calls Try.prog 6 #[.agg #[.int .i64 k, .string s, .int .i64 n, .int .i64 m]] w fun e w' => e = .returned (.bool true) ∧ Below w.heap.size w w' := by
  obtain ⟨qF, qC, qR, qD, qA, qS, qU, qO, qL, qZ, qT⟩ := h0
  replace qF := Lib.hid fun w => qF n w hn
  replace qC := Lib.hid fun w => qC n s w hn
  replace qR := Lib.hid fun w => qR n m w hn hm
  replace qD := Lib.hid qD
  replace qA := Lib.hid fun w => qA s w hs
  replace qS := Lib.hid qS
  replace qU := Lib.hid fun w => qU n w hn
  replace qO := Lib.hid fun w => qO n w hn
  replace qL := Lib.hid qL
  replace qZ := Lib.hid qZ
  replace qT := Lib.hid fun w => qT n w hn
  have hA0 : Below w.heap.size w (w.alloc (.cells #[.int .i64 k, .string s, .int .i64 n, .int .i64 m] 33)) := (Below.refl _ _).alloc (Nat.le_refl _) _
  have HA := Lib.hid (awake_true hN hA hS hC hL hR (w.alloc (.cells #[.int .i64 k, .string s, .int .i64 n, .int .i64 m] 33)))
  have HB := Lib.hid hA0
  have HO := Lib.hid (Lies.new w [.int .i64 k, .string s, .int .i64 n, .int .i64 m] 33)
  clear hN hA hS hC hL hR hA0 hn hm hs
  go_enter Try.func6, Try.ntmps6
  go_wp2_with fail
  refine HA.out.mono ?_
  rintro e w1 ⟨rfl, hb⟩
  have HB1 := Lib.hid (HB.out.trans (hb.mono HB.out.size))
  have HO1 := Lib.hid (HO.out.below hb)
  clear hb HA HB HO
  have c1 := HO1.out.cell (i := 1) rfl
  have c2 := HO1.out.cell (i := 2) rfl
  have c3 := HO1.out.cell (i := 3) rfl
  go_wp2_with fail
  refine (qF.out _).mono ?_
  rintro e w2 ⟨rfl, hb⟩
  replace HB1 := Lib.hid (HB1.out.trans (hb.mono HB1.out.size))
  replace HO1 := Lib.hid (HO1.out.below hb)
  clear hb c1 c2 c3
  have c1 := HO1.out.cell (i := 1) rfl
  have c2 := HO1.out.cell (i := 2) rfl
  have c3 := HO1.out.cell (i := 3) rfl
  go_wp2_with fail
  refine (qC.out _).mono ?_
  rintro e w2 ⟨rfl, hb⟩
  replace HB1 := Lib.hid (HB1.out.trans (hb.mono HB1.out.size))
  replace HO1 := Lib.hid (HO1.out.below hb)
  clear hb c1 c2 c3
  have c1 := HO1.out.cell (i := 1) rfl
  have c2 := HO1.out.cell (i := 2) rfl
  have c3 := HO1.out.cell (i := 3) rfl
  go_wp2_with fail
  refine (qR.out _).mono ?_
  rintro e w2 ⟨⟨x, rfl, hx⟩, hb⟩
  replace HB1 := Lib.hid (HB1.out.trans (hb.mono HB1.out.size))
  replace HO1 := Lib.hid (HO1.out.below hb)
  replace hx := Lib.hid hx
  clear hb c1 c2 c3
  have c1 := HO1.out.cell (i := 1) rfl
  have c2 := HO1.out.cell (i := 2) rfl
  have c3 := HO1.out.cell (i := 3) rfl
  go_wp2_with fail
  refine (qD.out _).mono ?_
  rintro e w2 ⟨rfl, hb⟩
  replace HB1 := Lib.hid (HB1.out.trans (hb.mono HB1.out.size))
  replace HO1 := Lib.hid (HO1.out.below hb)
  replace hx := Lib.hid (hx.out.below hb)
  clear hb c1 c2 c3
  have c1 := HO1.out.cell (i := 1) rfl
  have c2 := HO1.out.cell (i := 2) rfl
  have c3 := HO1.out.cell (i := 3) rfl
  obtain ⟨T, y, ex⟩ := hx.out.iface
  subst ex
  go_wp2_with fail
  refine (is_err hx.out 5).mono ?_
  rintro e w3 ⟨rfl, rfl⟩
  clear hx
  go_wp2_with fail
  refine (qA.out _).mono ?_
  rintro e w2 ⟨⟨x, rfl, hx⟩, hb⟩
  replace HB1 := Lib.hid (HB1.out.trans (hb.mono HB1.out.size))
  replace HO1 := Lib.hid (HO1.out.below hb)
  replace hx := Lib.hid hx
  clear hb c1 c2 c3
  have c1 := HO1.out.cell (i := 1) rfl
  have c2 := HO1.out.cell (i := 2) rfl
  have c3 := HO1.out.cell (i := 3) rfl
  obtain ⟨T, y, ex⟩ := hx.out.iface
  subst ex
  go_wp2_with fail
  refine (is_err hx.out 5).mono ?_
  rintro e w3 ⟨rfl, rfl⟩
  clear hx
  go_wp2_with fail
  refine (qS.out _).mono ?_
  rintro e w2 ⟨⟨x, rfl, hx⟩, hb⟩
  replace HB1 := Lib.hid (HB1.out.trans (hb.mono HB1.out.size))
  replace HO1 := Lib.hid (HO1.out.below hb)
  replace hx := Lib.hid hx
  clear hb c1 c2 c3
  have c1 := HO1.out.cell (i := 1) rfl
  have c2 := HO1.out.cell (i := 2) rfl
  have c3 := HO1.out.cell (i := 3) rfl
  obtain ⟨T, y, ex⟩ := hx.out.iface
  subst ex
  go_wp2_with fail
  refine (is_err hx.out 5).mono ?_
  rintro e w3 ⟨rfl, rfl⟩
  clear hx
  go_wp2_with fail
  refine (qU.out _).mono ?_
  rintro e w2 ⟨⟨x, rfl, hx⟩, hb⟩
  replace HB1 := Lib.hid (HB1.out.trans (hb.mono HB1.out.size))
  replace HO1 := Lib.hid (HO1.out.below hb)
  replace hx := Lib.hid hx
  clear hb c1 c2 c3
  have c1 := HO1.out.cell (i := 1) rfl
  have c2 := HO1.out.cell (i := 2) rfl
  have c3 := HO1.out.cell (i := 3) rfl
  obtain ⟨T, y, ex⟩ := hx.out.iface
  subst ex
  go_wp2_with fail
  refine (is_err hx.out 5).mono ?_
  rintro e w3 ⟨rfl, rfl⟩
  clear hx
  go_wp2_with fail
  refine (qO.out _).mono ?_
  rintro e w2 ⟨⟨x, rfl, hx⟩, hb⟩
  replace HB1 := Lib.hid (HB1.out.trans (hb.mono HB1.out.size))
  replace HO1 := Lib.hid (HO1.out.below hb)
  replace hx := Lib.hid hx
  clear hb c1 c2 c3
  have c1 := HO1.out.cell (i := 1) rfl
  have c2 := HO1.out.cell (i := 2) rfl
  have c3 := HO1.out.cell (i := 3) rfl
  obtain ⟨T, y, ex⟩ := hx.out.iface
  subst ex
  go_wp2_with fail
  refine (is_err hx.out 5).mono ?_
  rintro e w3 ⟨rfl, rfl⟩
  clear hx
  go_wp2_with fail
  refine (qL.out _).mono ?_
  rintro e w2 ⟨rfl, hb⟩
  replace HB1 := Lib.hid (HB1.out.trans (hb.mono HB1.out.size))
  replace HO1 := Lib.hid (HO1.out.below hb)
  clear hb c1 c2 c3
  have c1 := HO1.out.cell (i := 1) rfl
  have c2 := HO1.out.cell (i := 2) rfl
  have c3 := HO1.out.cell (i := 3) rfl
  go_wp2_with fail
  refine (qZ.out _).mono ?_
  rintro e w2 ⟨rfl, hb⟩
  replace HB1 := Lib.hid (HB1.out.trans (hb.mono HB1.out.size))
  replace HO1 := Lib.hid (HO1.out.below hb)
  clear hb c1 c2 c3
  have c1 := HO1.out.cell (i := 1) rfl
  have c2 := HO1.out.cell (i := 2) rfl
  have c3 := HO1.out.cell (i := 3) rfl
  go_wp2_with fail
  refine (qT.out _).mono ?_
  rintro e w2 ⟨rfl, hb⟩
  replace HB1 := Lib.hid (HB1.out.trans (hb.mono HB1.out.size))
  replace HO1 := Lib.hid (HO1.out.below hb)
  clear hb c1 c2 c3
  have c1 := HO1.out.cell (i := 1) rfl
  have c2 := HO1.out.cell (i := 2) rfl
  have c3 := HO1.out.cell (i := 3) rfl
  go_wp2
  go_ret
  exact ⟨rfl, HB1.out⟩
end Go.Proofs.Ytfdldjhndfohhaa
