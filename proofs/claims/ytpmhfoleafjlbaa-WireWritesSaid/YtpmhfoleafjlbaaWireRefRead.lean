/-
  The contract of the document's own ReadWrite of chapter 5: the right write whose bytes these are, or none. The condition: a text of at most 200,000 bytes.
-/
import Derived.Test.YtpmhfoleafjlbaaWireDec
import Derived.Test.YtpmhfoleafjlbaaWireRefRight
import Derived.Test.YtpmhfoleafjlbaaRefVec
import Derived.Test.YtpmhfoleafjlbaaRefInText
namespace Go.Proofs.Ytpmhfoleafjlbaa
open Go.RowKit TextNat

theorem ref_step {w w1 w2 : World} {pb b i : Nat} {s : ByteArray} {st : WireMath.At} {l lr : List Value} {T : TypeId} (v : Value) (hrow : Row w1 b l T) (hres : Row w1 w.heap.size lr T) (hbel : Below w.heap.size w w1) (hi : RefAt w2 pb s st) (hb : But pb w1 w2) (h1 : pb = w.heap.size + 1) (h2 : b = w.heap.size + 1 + 1) :
    Row w2 b l T ∧ Row (w2.setCell ⟨b, i, none⟩ v) b (l.set i v) T ∧ Row (w2.setCell ⟨b, i, none⟩ v) w.heap.size lr T ∧ Below w.heap.size w (w2.setCell ⟨b, i, none⟩ v) ∧ RefAt (w2.setCell ⟨b, i, none⟩ v) pb s st := by
  have k1 : Row w2 b l T := hrow.but hb (by omega)
  have k2 : Row w2 w.heap.size lr T := hres.but hb (by omega)
  have hbs := hbel.size
  have hpl := hrow.lt
  exact ⟨k1, k1.set i v, k2.but (But.set b i w2 v) (by omega), (hbel.trans ((hb.below (by omega)).mono (by omega))).trans ((But.set b i w2 v).below (by have := hb.size; omega) |>.mono (by omega)), hi.keep (But.set b i w2 v) (by omega)⟩
def readW (l : List Nat) : Option WireMath.WriteT := WireMath.whole l (WireMath.readWriteT l 4611686018427387903 4611686018427387903 4611686018427387903 4611686018427387903 4611686018427387903 4611686018427387903 4611686018427387903) WireMath.rightWriteT
/-- What ReadWrite answers. -/
def ReadIs (w : World) (l : List Nat) (e : Ending) : Prop :=
  match readW l with
  | some v => ∃ dp dc, e = .returned (.tuple #[(readV v dp dc).val, .bool true]) ∧ Ints w dp (v.2.2.2.1.map Int.ofNat)
  | none => e = .returned (.tuple #[zeroW, .bool false])

set_option maxRecDepth 100000 in
set_option maxHeartbeats 4000000 in
theorem refReadWrite (s : ByteArray) (w : World) (hs : s.size ≤ 200000) :
    Calls Try.prog 26 #[.string s] w fun e w' => ReadIs w' (nats s) e ∧ Below w.heap.size w w' := by
  have hl := nats_lt s
  obtain ⟨st0, hst0⟩ : ∃ st, st = WireMath.At.mk 0 none := ⟨_, rfl⟩
  have a0 : st0.at_ ≤ s.size := by rw [hst0]; exact Nat.zero_le _
  obtain ⟨v1, st1, h1⟩ : ∃ v st, WireMath.readNum (nats s) st0 4611686018427387903 = (v, st) := ⟨_, _, rfl⟩
  have a1 : st1.at_ ≤ s.size := by have := WireMath.readNum_le (nats s) st0 4611686018427387903 hl (by rw [nats_len]; exact a0); rw [h1, nats_len] at this; exact this
  have H1 := Lib.hid (show ∀ w1, RefAt w1 (w.heap.size + 1) s st0 → Calls Try.prog 50 #[.pointer (some ⟨w.heap.size + 1, 0, none⟩), .int .i64 4611686018427387903] w1 fun e w' => e = .returned (.int .i64 (v1 : Int)) ∧ RefAt w' (w.heap.size + 1) s st1 ∧ But (w.heap.size + 1) w1 w' from fun w1 hi => by have := refNum (w.heap.size + 1) s st0 4611686018427387903 w1 hi hs a0; rw [h1] at this; exact this)
  obtain ⟨v2, st2, h2⟩ : ∃ v st, WireMath.readNum (nats s) st1 4611686018427387903 = (v, st) := ⟨_, _, rfl⟩
  have a2 : st2.at_ ≤ s.size := by have := WireMath.readNum_le (nats s) st1 4611686018427387903 hl (by rw [nats_len]; exact a1); rw [h2, nats_len] at this; exact this
  have H2 := Lib.hid (show ∀ w1, RefAt w1 (w.heap.size + 1) s st1 → Calls Try.prog 50 #[.pointer (some ⟨w.heap.size + 1, 0, none⟩), .int .i64 4611686018427387903] w1 fun e w' => e = .returned (.int .i64 (v2 : Int)) ∧ RefAt w' (w.heap.size + 1) s st2 ∧ But (w.heap.size + 1) w1 w' from fun w1 hi => by have := refNum (w.heap.size + 1) s st1 4611686018427387903 w1 hi hs a1; rw [h2] at this; exact this)
  obtain ⟨v3, st3, h3⟩ : ∃ v st, WireMath.readNum (nats s) st2 4611686018427387903 = (v, st) := ⟨_, _, rfl⟩
  have a3 : st3.at_ ≤ s.size := by have := WireMath.readNum_le (nats s) st2 4611686018427387903 hl (by rw [nats_len]; exact a2); rw [h3, nats_len] at this; exact this
  have H3 := Lib.hid (show ∀ w1, RefAt w1 (w.heap.size + 1) s st2 → Calls Try.prog 50 #[.pointer (some ⟨w.heap.size + 1, 0, none⟩), .int .i64 4611686018427387903] w1 fun e w' => e = .returned (.int .i64 (v3 : Int)) ∧ RefAt w' (w.heap.size + 1) s st3 ∧ But (w.heap.size + 1) w1 w' from fun w1 hi => by have := refNum (w.heap.size + 1) s st2 4611686018427387903 w1 hi hs a2; rw [h3] at this; exact this)
  obtain ⟨v4, st4, h4⟩ : ∃ v st, WireMath.readVec (nats s) st3 = (v, st) := ⟨_, _, rfl⟩
  have a4 : st4.at_ ≤ s.size := by have := readVec_le (nats s) st3 hl (by rw [nats_len]; exact a3); rw [h4, nats_len] at this; exact this
  have H4 := Lib.hid (show ∀ w1, RefAt w1 (w.heap.size + 1) s st3 → Calls Try.prog 51 #[.pointer (some ⟨w.heap.size + 1, 0, none⟩)] w1 fun e w' => (∃ pp cap, e = .returned (.slice pp v4.length cap) ∧ Ints w' pp (v4.map Int.ofNat) ∧ ∀ a, pp = some a → w1.heap.size ≤ a.block) ∧ RefAt w' (w.heap.size + 1) s st4 ∧ But (w.heap.size + 1) w1 w' from fun w1 hi => by have := refVec (w.heap.size + 1) s st3 w1 hi hs a3; rw [h4] at this; exact this)
  obtain ⟨v5, st5, h5⟩ : ∃ v st, WireMath.readText (nats s) st4 4611686018427387903 = (v, st) := ⟨_, _, rfl⟩
  have a5 : st5.at_ ≤ s.size := by have := readText_le (nats s) st4 4611686018427387903 hl (by rw [nats_len]; exact a4); rw [h5, nats_len] at this; exact this
  have H5 := Lib.hid (show ∀ w1, RefAt w1 (w.heap.size + 1) s st4 → Calls Try.prog 52 #[.pointer (some ⟨w.heap.size + 1, 0, none⟩), .int .i64 4611686018427387903] w1 fun e w' => e = .returned (.string (txt v5)) ∧ RefAt w' (w.heap.size + 1) s st5 ∧ But (w.heap.size + 1) w1 w' from fun w1 hi => by have := refText (w.heap.size + 1) s st4 4611686018427387903 w1 hi hs a4; rw [h5] at this; exact this)
  obtain ⟨v6, st6, h6⟩ : ∃ v st, WireMath.readText (nats s) st5 4611686018427387903 = (v, st) := ⟨_, _, rfl⟩
  have a6 : st6.at_ ≤ s.size := by have := readText_le (nats s) st5 4611686018427387903 hl (by rw [nats_len]; exact a5); rw [h6, nats_len] at this; exact this
  have H6 := Lib.hid (show ∀ w1, RefAt w1 (w.heap.size + 1) s st5 → Calls Try.prog 52 #[.pointer (some ⟨w.heap.size + 1, 0, none⟩), .int .i64 4611686018427387903] w1 fun e w' => e = .returned (.string (txt v6)) ∧ RefAt w' (w.heap.size + 1) s st6 ∧ But (w.heap.size + 1) w1 w' from fun w1 hi => by have := refText (w.heap.size + 1) s st5 4611686018427387903 w1 hi hs a5; rw [h6] at this; exact this)
  obtain ⟨v7, st7, h7⟩ : ∃ v st, WireMath.readFlag (nats s) st6 = (v, st) := ⟨_, _, rfl⟩
  have a7 : st7.at_ ≤ s.size := by have := readFlag_le (nats s) st6 hl (by rw [nats_len]; exact a6); rw [h7, nats_len] at this; exact this
  have H7 := Lib.hid (show ∀ w1, RefAt w1 (w.heap.size + 1) s st6 → Calls Try.prog 53 #[.pointer (some ⟨w.heap.size + 1, 0, none⟩)] w1 fun e w' => e = .returned (.bool v7) ∧ RefAt w' (w.heap.size + 1) s st7 ∧ But (w.heap.size + 1) w1 w' from fun w1 hi => by have := refFlag (w.heap.size + 1) s st6 w1 hi hs a6; rw [h7] at this; exact this)
  obtain ⟨v8, st8, h8⟩ : ∃ v st, WireMath.readText (nats s) st7 4611686018427387903 = (v, st) := ⟨_, _, rfl⟩
  have a8 : st8.at_ ≤ s.size := by have := readText_le (nats s) st7 4611686018427387903 hl (by rw [nats_len]; exact a7); rw [h8, nats_len] at this; exact this
  have H8 := Lib.hid (show ∀ w1, RefAt w1 (w.heap.size + 1) s st7 → Calls Try.prog 52 #[.pointer (some ⟨w.heap.size + 1, 0, none⟩), .int .i64 4611686018427387903] w1 fun e w' => e = .returned (.string (txt v8)) ∧ RefAt w' (w.heap.size + 1) s st8 ∧ But (w.heap.size + 1) w1 w' from fun w1 hi => by have := refText (w.heap.size + 1) s st7 4611686018427387903 w1 hi hs a7; rw [h8] at this; exact this)
  obtain ⟨v9, st9, h9⟩ : ∃ v st, WireMath.readNum (nats s) st8 4611686018427387903 = (v, st) := ⟨_, _, rfl⟩
  have a9 : st9.at_ ≤ s.size := by have := WireMath.readNum_le (nats s) st8 4611686018427387903 hl (by rw [nats_len]; exact a8); rw [h9, nats_len] at this; exact this
  have H9 := Lib.hid (show ∀ w1, RefAt w1 (w.heap.size + 1) s st8 → Calls Try.prog 50 #[.pointer (some ⟨w.heap.size + 1, 0, none⟩), .int .i64 4611686018427387903] w1 fun e w' => e = .returned (.int .i64 (v9 : Int)) ∧ RefAt w' (w.heap.size + 1) s st9 ∧ But (w.heap.size + 1) w1 w' from fun w1 hi => by have := refNum (w.heap.size + 1) s st8 4611686018427387903 w1 hi hs a8; rw [h9] at this; exact this)
  have hrun : WireMath.readWriteT (nats s) 4611686018427387903 4611686018427387903 4611686018427387903 4611686018427387903 4611686018427387903 4611686018427387903 4611686018427387903 ⟨0, none⟩ = ((v1, v2, v3, v4, v5, v6, v7, v8, v9), st9) := by
    unfold WireMath.readWriteT WireMath.seq
    simp only [← hst0, h1, h2, h3, h4, h5, h6, h7, h8, h9]
  have HEn := Lib.hid (fun w1 (hi : RefAt w1 (w.heap.size + 1) s st9) => refFault (w.heap.size + 1) s st9 w1 hi)
  have HD := Lib.hid (show readW (nats s) = if WireMath.faultAt (nats s) st9 = none ∧ WireMath.rightWriteT (v1, v2, v3, v4, v5, v6, v7, v8, v9) = true then some (v1, v2, v3, v4, v5, v6, v7, v8, v9) else none by unfold readW WireMath.whole; rw [hrun])
  have HS0 := Lib.hid hst0
  have HL4 := Lib.hid (show v4.length ≤ 9223372036854775807 by have := readVec_len (nats s) st3; rw [h4] at this; exact Nat.le_trans this (by decide))
  clear hrun hl hst0 a0 a1 a2 a3 a4 a5 a6 a7 a8 a9 h1 h2 h3 h4 h5 h6 h7 h8 h9
  go_enter Try.func26, Try.ntmps26
  go_wp2_with fail
  obtain ⟨W, hW⟩ : ∃ W, W = w.alloc (.cells zeros.toArray 47) := ⟨_, rfl⟩
  have hWs : W.heap.size = w.heap.size + 1 := by rw [hW]; simp
  have hWb : Below w.heap.size w W := by rw [hW]; exact (Below.refl _ _).alloc (Nat.le_refl _) _
  have hRes : Row W w.heap.size zeros 47 := by rw [hW]; exact Row.new w zeros _
  change Calls _ _ _ (w.alloc (.cells zeros.toArray 47)) _
  rw [← hW]
  refine (refRead s W).mono ?_
  rintro e w2 ⟨rfl, hi, hb, hsz⟩
  rw [hWs] at hi hsz
  rw [hWs]
  obtain ⟨W2, hW2⟩ : ∃ W2, W2 = w2.alloc (.cells zeros.toArray 47) := ⟨_, rfl⟩
  have hW2b : Below w2.heap.size w2 W2 := by rw [hW2]; exact (Below.refl _ _).alloc (Nat.le_refl _) _
  have hRow : Row W2 (w.heap.size + 1 + 1) zeros 47 := by rw [hW2, ← hsz]; exact Row.new w2 zeros _
  have HRow := Lib.hid hRow
  have HRes := Lib.hid ((hRes.below hb).below hW2b)
  have HB := Lib.hid ((hWb.trans (hb.mono (by omega))).trans (hW2b.mono (by omega)))
  have HI := Lib.hid (show RefAt W2 (w.heap.size + 1) s st0 by rw [HS0.out]; exact hi.below hW2b)
  clear hi hb hRes hWb hW hRow
  go_wp2_with fail
  change Calls _ _ _ (w2.alloc (.cells zeros.toArray 47)) _
  rw [← hW2]
  clear hW2 hW2b
  refine (H1.out _ HI.out).mono ?_
  rintro e wa1 ⟨rfl, hi, hb⟩
  obtain ⟨k1, k2, k3, k4, k5⟩ := ref_step (i := 0) (.int .i64 (v1 : Int)) HRow.out HRes.out HB.out hi hb rfl rfl
  have cc := k1.cell (i := 0) rfl
  have ff := k1.free 0
  replace HRow := Lib.hid k2
  replace HRes := Lib.hid k3
  replace HB := Lib.hid k4
  replace HI := Lib.hid k5
  clear k1 k2 k3 k4 k5 hi hb
  go_wp2_with fail
  clear cc ff
  refine (H2.out _ HI.out).mono ?_
  rintro e wa2 ⟨rfl, hi, hb⟩
  obtain ⟨k1, k2, k3, k4, k5⟩ := ref_step (i := 1) (.int .i64 (v2 : Int)) HRow.out HRes.out HB.out hi hb rfl rfl
  have cc := k1.cell (i := 1) rfl
  have ff := k1.free 1
  replace HRow := Lib.hid k2
  replace HRes := Lib.hid k3
  replace HB := Lib.hid k4
  replace HI := Lib.hid k5
  clear k1 k2 k3 k4 k5 hi hb
  go_wp2_with fail
  clear cc ff
  refine (H3.out _ HI.out).mono ?_
  rintro e wa3 ⟨rfl, hi, hb⟩
  obtain ⟨k1, k2, k3, k4, k5⟩ := ref_step (i := 2) (.int .i64 (v3 : Int)) HRow.out HRes.out HB.out hi hb rfl rfl
  obtain ⟨_, j2, j3, j4, j5⟩ := ref_step (i := 3) (.int .i64 (v1 : Int)) k2 k3 k4 k5 (But.refl _ _) rfl rfl
  have cc := k1.cell (i := 2) rfl
  have ff := k1.free 2
  have c0 := k2.cell (i := 0) rfl
  have cc3 := k2.cell (i := 3) rfl
  have ff3 := k2.free 3
  replace HRow := Lib.hid j2
  replace HRes := Lib.hid j3
  replace HB := Lib.hid j4
  replace HI := Lib.hid j5
  clear k1 k2 k3 k4 k5 j2 j3 j4 j5 hi hb
  go_wp2_with fail
  refine (H4.out _ HI.out).mono ?_
  rintro e wa4 ⟨⟨dp, dc, rfl, hz, hbk⟩, hi, hb⟩
  have HLv := Lib.hid (show (v4.map Int.ofNat).length ≤ 9223372036854775807 by rw [List.length_map]; exact HL4.out)
  have HBk := Lib.hid (show ∀ a, dp = some a → w.heap.size + 1 + 1 < a.block from fun a ha => by have h1 := hbk a ha; have h2 := HRow.out.lt; omega)
  have HZ := Lib.hid (hz.but (But.set (w.heap.size + 1 + 1) 4 wa4 (.slice dp v4.length dc)) (fun a ha => by have := HBk.out a ha; omega))
  clear hz hbk
  obtain ⟨k1, k2, k3, k4, k5⟩ := ref_step (i := 4) (.slice dp v4.length dc) HRow.out HRes.out HB.out hi hb rfl rfl
  have cc := k1.cell (i := 4) rfl
  have ff := k1.free 4
  replace HRow := Lib.hid k2
  replace HRes := Lib.hid k3
  replace HB := Lib.hid k4
  replace HI := Lib.hid k5
  clear k1 k2 k3 k4 k5 hi hb
  go_wp2_with fail
  refine (H5.out _ HI.out).mono ?_
  rintro e wa5 ⟨rfl, hi, hb⟩
  replace HZ := Lib.hid ((HZ.out.but hb (fun a ha => by have := HBk.out a ha; omega)).but (But.set (w.heap.size + 1 + 1) 5 wa5 (.string (txt v5))) (fun a ha => by have := HBk.out a ha; omega))
  obtain ⟨k1, k2, k3, k4, k5⟩ := ref_step (i := 5) (.string (txt v5)) HRow.out HRes.out HB.out hi hb rfl rfl
  have cc := k1.cell (i := 5) rfl
  have ff := k1.free 5
  replace HRow := Lib.hid k2
  replace HRes := Lib.hid k3
  replace HB := Lib.hid k4
  replace HI := Lib.hid k5
  clear k1 k2 k3 k4 k5 hi hb
  go_wp2_with fail
  refine (H6.out _ HI.out).mono ?_
  rintro e wa6 ⟨rfl, hi, hb⟩
  replace HZ := Lib.hid ((HZ.out.but hb (fun a ha => by have := HBk.out a ha; omega)).but (But.set (w.heap.size + 1 + 1) 6 wa6 (.string (txt v6))) (fun a ha => by have := HBk.out a ha; omega))
  obtain ⟨k1, k2, k3, k4, k5⟩ := ref_step (i := 6) (.string (txt v6)) HRow.out HRes.out HB.out hi hb rfl rfl
  have cc := k1.cell (i := 6) rfl
  have ff := k1.free 6
  replace HRow := Lib.hid k2
  replace HRes := Lib.hid k3
  replace HB := Lib.hid k4
  replace HI := Lib.hid k5
  clear k1 k2 k3 k4 k5 hi hb
  go_wp2_with fail
  refine (H7.out _ HI.out).mono ?_
  rintro e wa7 ⟨rfl, hi, hb⟩
  replace HZ := Lib.hid ((HZ.out.but hb (fun a ha => by have := HBk.out a ha; omega)).but (But.set (w.heap.size + 1 + 1) 8 wa7 (.bool v7)) (fun a ha => by have := HBk.out a ha; omega))
  obtain ⟨k1, k2, k3, k4, k5⟩ := ref_step (i := 8) (.bool v7) HRow.out HRes.out HB.out hi hb rfl rfl
  have cc := k1.cell (i := 8) rfl
  have ff := k1.free 8
  replace HRow := Lib.hid k2
  replace HRes := Lib.hid k3
  replace HB := Lib.hid k4
  replace HI := Lib.hid k5
  clear k1 k2 k3 k4 k5 hi hb
  go_wp2_with fail
  refine (H8.out _ HI.out).mono ?_
  rintro e wa8 ⟨rfl, hi, hb⟩
  replace HZ := Lib.hid ((HZ.out.but hb (fun a ha => by have := HBk.out a ha; omega)).but (But.set (w.heap.size + 1 + 1) 7 wa8 (.string (txt v8))) (fun a ha => by have := HBk.out a ha; omega))
  obtain ⟨k1, k2, k3, k4, k5⟩ := ref_step (i := 7) (.string (txt v8)) HRow.out HRes.out HB.out hi hb rfl rfl
  have cc := k1.cell (i := 7) rfl
  have ff := k1.free 7
  replace HRow := Lib.hid k2
  replace HRes := Lib.hid k3
  replace HB := Lib.hid k4
  replace HI := Lib.hid k5
  clear k1 k2 k3 k4 k5 hi hb
  go_wp2_with fail
  refine (H9.out _ HI.out).mono ?_
  rintro e wa9 ⟨rfl, hi, hb⟩
  replace HZ := Lib.hid ((HZ.out.but hb (fun a ha => by have := HBk.out a ha; omega)).but (But.set (w.heap.size + 1 + 1) 9 wa9 (.int .i64 (v9 : Int))) (fun a ha => by have := HBk.out a ha; omega))
  obtain ⟨k1, k2, k3, k4, k5⟩ := ref_step (i := 9) (.int .i64 (v9 : Int)) HRow.out HRes.out HB.out hi hb rfl rfl
  have cc := k1.cell (i := 9) rfl
  have ff := k1.free 9
  replace HRow := Lib.hid k2
  replace HRes := Lib.hid k3
  replace HB := Lib.hid k4
  replace HI := Lib.hid k5
  clear k1 k2 k3 k4 k5 hi hb
  go_wp2_with fail
  refine (HEn.out _ HI.out).mono ?_
  rintro e we ⟨rfl, nn, hwe⟩
  have hb : ∀ B, Below B (wa9.setCell ⟨w.heap.size + 1 + 1, 9, none⟩ (.int .i64 (v9 : Int))) we := fun B => by rw [hwe]; exact below_drewN _ _ _
  clear hwe
  have HRow2 := Lib.hid (show Row we (w.heap.size + 1 + 1) [.int .i64 (v1 : Int), .int .i64 (v2 : Int), .int .i64 (v3 : Int), .int .i64 (v1 : Int), .slice dp v4.length dc, .string (txt v5), .string (txt v6), .string (txt v8), .bool v7, .int .i64 (v9 : Int)] 47 from HRow.out.below (hb _))
  have HRes2 := Lib.hid (show Row we w.heap.size zeros 47 from HRes.out.below (hb _))
  have HB2 := Lib.hid (HB.out.trans (hb _))
  have HZ2 := Lib.hid (HZ.out.grown (hb _))
  clear hb HRow HRes HB HI HZ
  cases hf : WireMath.faultAt (nats s) st9 with
  | some k =>
    have HDn := Lib.hid (show readW (nats s) = none by rw [HD.out, hf]; simp)
    have hfi : faultI (some k) = (k : Int) := rfl
    have tk : decide ((0 : Int) ≤ (k : Int)) = true := decide_eq_true (by omega)
    rw [hfi]
    clear hf hfi
    have c0 := HRes2.out.cell (i := 0) rfl
    have g0 := HRes2.out.free 0
    have c1 := HRes2.out.cell (i := 1) rfl
    have g1 := HRes2.out.free 1
    have c2 := HRes2.out.cell (i := 2) rfl
    have g2 := HRes2.out.free 2
    have c3 := HRes2.out.cell (i := 3) rfl
    have g3 := HRes2.out.free 3
    have c4 := HRes2.out.cell (i := 4) rfl
    have g4 := HRes2.out.free 4
    have c5 := HRes2.out.cell (i := 5) rfl
    have g5 := HRes2.out.free 5
    have c6 := HRes2.out.cell (i := 6) rfl
    have g6 := HRes2.out.free 6
    have c7 := HRes2.out.cell (i := 7) rfl
    have g7 := HRes2.out.free 7
    have c8 := HRes2.out.cell (i := 8) rfl
    have g8 := HRes2.out.free 8
    have c9 := HRes2.out.cell (i := 9) rfl
    have g9 := HRes2.out.free 9
    go_wp2
    obtain ⟨q1, q2⟩ := put_ten HRes2.out (.int .i64 0) (.int .i64 0) (.int .i64 0) (.int .i64 0) (.slice none 0 0) (.string ⟨#[]⟩) (.string ⟨#[]⟩) (.string ⟨#[]⟩) (.bool false) (.int .i64 0)
    refine bodyPost_ret (results_cell_tmp Try.results26 _ _ w.heap.size 47 _ (0, 0) _ rfl q1 Try.underlying47 rfl (by kernel_rfl)) rfl ?_
    exact ⟨by unfold ReadIs; rw [HDn.out]; rfl, HB2.out.trans (q2.below HB2.out.size)⟩
  | none =>
    have hfi : faultI none = -1 := rfl
    rw [hfi]
    have hR := refRightWrite (readV (v1, v2, v3, v4, v5, v6, v7, v8, v9) dp dc) we HZ2.out (HLv.out)
    rw [readV_right] at hR
    have hDD := HD.out
    rw [hf] at hDD
    have HLn := Lib.hid (show (v4.map Int.ofNat).length = v4.length from List.length_map ..)
    simp only [readV, WriteV.val, HLn.out] at hR
    cases hrt : WireMath.rightWriteT (v1, v2, v3, v4, v5, v6, v7, v8, v9) with
    | true =>
      rw [hrt] at hR hDD
      have HRt := Lib.hid hR
      have HDs := Lib.hid (show readW (nats s) = some (v1, v2, v3, v4, v5, v6, v7, v8, v9) by rw [hDD]; simp)
      clear hR hDD hrt hf hfi
      have b0 := HRow2.out.cell (i := 0) rfl
      have b1 := HRow2.out.cell (i := 1) rfl
      have b2 := HRow2.out.cell (i := 2) rfl
      have b3 := HRow2.out.cell (i := 3) rfl
      have b4 := HRow2.out.cell (i := 4) rfl
      have b5 := HRow2.out.cell (i := 5) rfl
      have b6 := HRow2.out.cell (i := 6) rfl
      have b7 := HRow2.out.cell (i := 7) rfl
      have b8 := HRow2.out.cell (i := 8) rfl
      have b9 := HRow2.out.cell (i := 9) rfl
      go_wp2_with (go_at_call 21; refine HRt.out.mono ?_; rintro e w3 ⟨rfl, hb⟩; have HRow3 := Lib.hid (HRow2.out.below hb); have HRes3 := Lib.hid (HRes2.out.below hb); have HB3 := Lib.hid (HB2.out.trans (hb.mono HB2.out.size)); have HZ3 := Lib.hid (HZ2.out.grown hb); clear hb b0 b1 b2 b3 b4 b5 b6 b7 b8 b9; have b0 := HRow3.out.cell (i := 0) rfl; have b1 := HRow3.out.cell (i := 1) rfl; have b2 := HRow3.out.cell (i := 2) rfl; have b3 := HRow3.out.cell (i := 3) rfl; have b4 := HRow3.out.cell (i := 4) rfl; have b5 := HRow3.out.cell (i := 5) rfl; have b6 := HRow3.out.cell (i := 6) rfl; have b7 := HRow3.out.cell (i := 7) rfl; have b8 := HRow3.out.cell (i := 8) rfl; have b9 := HRow3.out.cell (i := 9) rfl; have c0 := HRes3.out.cell (i := 0) rfl; have g0 := HRes3.out.free 0; have c1 := HRes3.out.cell (i := 1) rfl; have g1 := HRes3.out.free 1; have c2 := HRes3.out.cell (i := 2) rfl; have g2 := HRes3.out.free 2; have c3 := HRes3.out.cell (i := 3) rfl; have g3 := HRes3.out.free 3; have c4 := HRes3.out.cell (i := 4) rfl; have g4 := HRes3.out.free 4; have c5 := HRes3.out.cell (i := 5) rfl; have g5 := HRes3.out.free 5; have c6 := HRes3.out.cell (i := 6) rfl; have g6 := HRes3.out.free 6; have c7 := HRes3.out.cell (i := 7) rfl; have g7 := HRes3.out.free 7; have c8 := HRes3.out.cell (i := 8) rfl; have g8 := HRes3.out.free 8; have c9 := HRes3.out.cell (i := 9) rfl; have g9 := HRes3.out.free 9)
      obtain ⟨q1, q2⟩ := put_ten HRes3.out (.int .i64 (v1 : Int)) (.int .i64 (v2 : Int)) (.int .i64 (v3 : Int)) (.int .i64 (v1 : Int)) (.slice dp v4.length dc) (.string (txt v5)) (.string (txt v6)) (.string (txt v8)) (.bool v7) (.int .i64 (v9 : Int))
      refine bodyPost_ret (results_cell_tmp Try.results26 _ _ w.heap.size 47 _ (0, 0) _ rfl q1 Try.underlying47 rfl (by kernel_rfl)) rfl ?_
      refine ⟨?_, HB3.out.trans (q2.below HB3.out.size)⟩
      unfold ReadIs
      rw [HDs.out]
      refine ⟨dp, dc, ?_, HZ3.out.but q2 (fun a ha => by have := HBk.out a ha; omega)⟩
      simp only [readV, WriteV.val, HLn.out]
      rfl
    | false =>
      rw [hrt] at hR hDD
      have HRt := Lib.hid hR
      have HDn := Lib.hid (show readW (nats s) = none by rw [hDD]; simp)
      clear hR hDD hrt hf hfi
      have b0 := HRow2.out.cell (i := 0) rfl
      have b1 := HRow2.out.cell (i := 1) rfl
      have b2 := HRow2.out.cell (i := 2) rfl
      have b3 := HRow2.out.cell (i := 3) rfl
      have b4 := HRow2.out.cell (i := 4) rfl
      have b5 := HRow2.out.cell (i := 5) rfl
      have b6 := HRow2.out.cell (i := 6) rfl
      have b7 := HRow2.out.cell (i := 7) rfl
      have b8 := HRow2.out.cell (i := 8) rfl
      have b9 := HRow2.out.cell (i := 9) rfl
      go_wp2_with (go_at_call 21; refine HRt.out.mono ?_; rintro e w3 ⟨rfl, hb⟩; have HRes3 := Lib.hid (HRes2.out.below hb); have HB3 := Lib.hid (HB2.out.trans (hb.mono HB2.out.size)); clear hb b0 b1 b2 b3 b4 b5 b6 b7 b8 b9; have c0 := HRes3.out.cell (i := 0) rfl; have g0 := HRes3.out.free 0; have c1 := HRes3.out.cell (i := 1) rfl; have g1 := HRes3.out.free 1; have c2 := HRes3.out.cell (i := 2) rfl; have g2 := HRes3.out.free 2; have c3 := HRes3.out.cell (i := 3) rfl; have g3 := HRes3.out.free 3; have c4 := HRes3.out.cell (i := 4) rfl; have g4 := HRes3.out.free 4; have c5 := HRes3.out.cell (i := 5) rfl; have g5 := HRes3.out.free 5; have c6 := HRes3.out.cell (i := 6) rfl; have g6 := HRes3.out.free 6; have c7 := HRes3.out.cell (i := 7) rfl; have g7 := HRes3.out.free 7; have c8 := HRes3.out.cell (i := 8) rfl; have g8 := HRes3.out.free 8; have c9 := HRes3.out.cell (i := 9) rfl; have g9 := HRes3.out.free 9)
      obtain ⟨q1, q2⟩ := put_ten HRes3.out (.int .i64 0) (.int .i64 0) (.int .i64 0) (.int .i64 0) (.slice none 0 0) (.string ⟨#[]⟩) (.string ⟨#[]⟩) (.string ⟨#[]⟩) (.bool false) (.int .i64 0)
      refine bodyPost_ret (results_cell_tmp Try.results26 _ _ w.heap.size 47 _ (0, 0) _ rfl q1 Try.underlying47 rfl (by kernel_rfl)) rfl ?_
      exact ⟨by unfold ReadIs; rw [HDn.out]; rfl, HB3.out.trans (q2.below HB3.out.size)⟩
end Go.Proofs.Ytpmhfoleafjlbaa
