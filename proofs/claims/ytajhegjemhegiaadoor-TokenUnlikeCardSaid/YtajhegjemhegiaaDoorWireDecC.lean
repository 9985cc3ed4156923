/-
  The contract of the program's DecodeClaims of chapter 5: the right claims whose bytes these are, or an error. The condition: a text of at most 200,000 bytes.
-/
import Derived.Test.YtajhegjemhegiaaDoorPart20
import Derived.Test.YtajhegjemhegiaaDoorPart18
namespace Go.Proofs.YtajhegjemhegiaaDoor
open Go.RowKit TextNat

/-- Claims that were read, as a value. -/
def readCV (v : WireMath.ClaimsT) (dp : Option Addr) (dc : Nat) : ClaimsV := ⟨txt v.1, txt v.2.1, v.2.2.1, v.2.2.2.1, v.2.2.2.2.1, dp, v.2.2.2.2.2.map Int.ofNat, dc⟩
def zerosC : List Value := [.string ⟨#[]⟩, .string ⟨#[]⟩, .int .i64 0, .int .i64 0, .int .i64 0, .slice none 0 0]
def zeroC : Value := .agg #[.string ⟨#[]⟩, .string ⟨#[]⟩, .int .i64 0, .int .i64 0, .int .i64 0, .slice none 0 0]
def decC (l : List Nat) : Option WireMath.ClaimsT := WireMath.whole l (WireMath.readClaimsT l 64 32 1099511627776 1099511627776 1099511627776) WireMath.rightClaimsT
theorem readCV_right (v : WireMath.ClaimsT) (dp : Option Addr) (dc : Nat) : (readCV v dp dc).right = WireMath.rightClaimsT v := by
  rw [Bool.eq_iff_iff, rightC_iff]
  constructor
  · intro h
    obtain ⟨v1, v2, v3, v4, v5, v6⟩ := v
    obtain ⟨h1, h2, h3, h4, h5, h6⟩ := h
    simp only [readCV, txt_len] at h1 h2 h3 h4 h5 h6
    unfold WireMath.rightClaimsT
    simp only [Bool.and_eq_true, decide_eq_true_eq]
    unfold WireMath.big at *
    refine ⟨⟨⟨⟨⟨⟨⟨?_, ?_⟩, ?_⟩, ?_⟩, ?_⟩, ?_⟩, ?_⟩, h6⟩ <;> omega
  · intro h
    obtain ⟨v1, v2, v3, v4, v5, v6⟩ := v
    unfold WireMath.rightClaimsT at h
    simp only [Bool.and_eq_true, decide_eq_true_eq] at h
    obtain ⟨⟨⟨⟨⟨⟨⟨h1, h2⟩, h3⟩, h4⟩, h5⟩, h6⟩, h7⟩, h8⟩ := h
    unfold WireMath.big at *
    unfold readCV
    refine ⟨?_, ?_, ?_, ?_, ?_, h8⟩ <;> simp only [txt_len] <;> omega
theorem chain_but2 {w w' : World} {b B : Nat} {l : List Value} {T : TypeId} {t u1 : ByteArray} {v0 : Value} {n c : Int} {r : Value} (hb : But b w w') (h : Chain B w [(t, n)] (.iface 40 (.int .i64 c)) r) (hrow : Row w b (v0 :: .string u1 :: l) T) : Chain w'.heap.size w' [(t, n)] (.iface 40 (.int .i64 c)) r := by
  obtain ⟨q, u, h1, h2, h3, h4, h5, h6⟩ := h
  have hne : q ≠ b := fun e => by
    subst e
    have := hrow.cell (i := 1) rfl
    rw [h4] at this
    cases this
  exact ⟨q, u, h1, Nat.lt_of_lt_of_le (cell_lt h3) hb.size, (hb.cell (cell_lt h3) hne).trans h3, (hb.cell (cell_lt h4) hne).trans h4, (hb.cell (cell_lt h5) hne).trans h5, h6⟩
theorem put_six {w : World} {b : Nat} {T : TypeId} (h : Row w b zerosC T) (u0 u1 u2 u3 u4 u5 : Value) : Row ((((((w.setCell ⟨b, 0, none⟩ u0).setCell ⟨b, 1, none⟩ u1).setCell ⟨b, 2, none⟩ u2).setCell ⟨b, 3, none⟩ u3).setCell ⟨b, 4, none⟩ u4).setCell ⟨b, 5, none⟩ u5) b [u0, u1, u2, u3, u4, u5] T ∧ But b w ((((((w.setCell ⟨b, 0, none⟩ u0).setCell ⟨b, 1, none⟩ u1).setCell ⟨b, 2, none⟩ u2).setCell ⟨b, 3, none⟩ u3).setCell ⟨b, 4, none⟩ u4).setCell ⟨b, 5, none⟩ u5) :=
  ⟨((((((h.set 0 u0).set 1 u1).set 2 u2).set 3 u3).set 4 u4).set 5 u5), (((((But.set b 0 w u0).trans (But.set b 1 _ u1)).trans (But.set b 2 _ u2)).trans (But.set b 3 _ u3)).trans (But.set b 4 _ u4)).trans (But.set b 5 _ u5)⟩
/-- What DecodeClaims answers. -/
def DecIsC (w : World) (l : List Nat) (e : Ending) : Prop :=
  match decC l with
  | some v => ∃ dp dc, e = .returned (.tuple #[(readCV v dp dc).val, .nilIface]) ∧ Ints w dp (v.2.2.2.2.2.map Int.ofNat)
  | none => ∃ r k, e = .returned (.tuple #[zeroC, r]) ∧ Chain w.heap.size w [(⟨#[119, 105, 114, 101]⟩, k)] (.iface 40 (.int .i64 (2 : Int))) r
/-- The counts that were read lie in new memory. -/
def vecNew (B : Nat) : Ending → Prop
  | .returned (.tuple t) => match t.toList with
    | Value.agg x :: _ => match x.toList with
      | [_, _, _, _, _, Value.slice (some a) _ _] => B ≤ a.block
      | _ => True
    | _ => True
  | _ => True
theorem vecNew_of {B n c : Nat} {x0 x1 x2 x3 x4 r : Value} {dp : Option Addr} (h : ∀ a, dp = some a → B ≤ a.block) : vecNew B (.returned (.tuple #[.agg #[x0, x1, x2, x3, x4, .slice dp n c], r])) := by
  cases dp with
  | none => trivial
  | some a => exact h a rfl

set_option maxRecDepth 100000 in
set_option maxHeartbeats 4000000 in
theorem decClaims_new (s : ByteArray) (w : World) (hs : s.size ≤ 140737488355328) :
    Calls Tryd.prog 35 #[.string s] w fun e w' => (DecIsC w' (nats s) e ∧ vecNew w.heap.size e) ∧ Below w.heap.size w w' := by
  have hl := nats_lt s
  obtain ⟨st0, hst0⟩ : ∃ st, st = WireMath.At.mk 0 none := ⟨_, rfl⟩
  have a0 : st0.at_ ≤ s.size := by rw [hst0]; exact Nat.zero_le _
  obtain ⟨v1, st1, h1⟩ : ∃ v st, WireMath.readText (nats s) st0 64 = (v, st) := ⟨_, _, rfl⟩
  have a1 : st1.at_ ≤ s.size := by have := readText_le (nats s) st0 64 hl (by rw [nats_len]; exact a0); rw [h1, nats_len] at this; exact this
  have H1 := Lib.hid (show ∀ w1, InAt w1 (w.heap.size + 1) s st0 → Calls Tryd.prog 54 #[.pointer (some ⟨w.heap.size + 1, 0, none⟩), .int .i64 64] w1 fun e w' => e = .returned (.string (txt v1)) ∧ InAt w' (w.heap.size + 1) s st1 ∧ But (w.heap.size + 1) w1 w' from fun w1 hi => by have := inText_ok (w.heap.size + 1) s st0 64 w1 hi hs a0; rw [h1] at this; exact this)
  obtain ⟨v2, st2, h2⟩ : ∃ v st, WireMath.readText (nats s) st1 32 = (v, st) := ⟨_, _, rfl⟩
  have a2 : st2.at_ ≤ s.size := by have := readText_le (nats s) st1 32 hl (by rw [nats_len]; exact a1); rw [h2, nats_len] at this; exact this
  have H2 := Lib.hid (show ∀ w1, InAt w1 (w.heap.size + 1) s st1 → Calls Tryd.prog 54 #[.pointer (some ⟨w.heap.size + 1, 0, none⟩), .int .i64 32] w1 fun e w' => e = .returned (.string (txt v2)) ∧ InAt w' (w.heap.size + 1) s st2 ∧ But (w.heap.size + 1) w1 w' from fun w1 hi => by have := inText_ok (w.heap.size + 1) s st1 32 w1 hi hs a1; rw [h2] at this; exact this)
  obtain ⟨v3, st3, h3⟩ : ∃ v st, WireMath.readNum (nats s) st2 1099511627776 = (v, st) := ⟨_, _, rfl⟩
  have a3 : st3.at_ ≤ s.size := by have := WireMath.readNum_le (nats s) st2 1099511627776 hl (by rw [nats_len]; exact a2); rw [h3, nats_len] at this; exact this
  have H3 := Lib.hid (show ∀ w1, InAt w1 (w.heap.size + 1) s st2 → Calls Tryd.prog 55 #[.pointer (some ⟨w.heap.size + 1, 0, none⟩), .int .i64 1099511627776] w1 fun e w' => e = .returned (.int .i64 (v3 : Int)) ∧ InAt w' (w.heap.size + 1) s st3 ∧ But (w.heap.size + 1) w1 w' from fun w1 hi => by have := inNum_ok (w.heap.size + 1) s st2 1099511627776 w1 hi hs a2; rw [h3] at this; exact this)
  obtain ⟨v4, st4, h4⟩ : ∃ v st, WireMath.readNum (nats s) st3 1099511627776 = (v, st) := ⟨_, _, rfl⟩
  have a4 : st4.at_ ≤ s.size := by have := WireMath.readNum_le (nats s) st3 1099511627776 hl (by rw [nats_len]; exact a3); rw [h4, nats_len] at this; exact this
  have H4 := Lib.hid (show ∀ w1, InAt w1 (w.heap.size + 1) s st3 → Calls Tryd.prog 55 #[.pointer (some ⟨w.heap.size + 1, 0, none⟩), .int .i64 1099511627776] w1 fun e w' => e = .returned (.int .i64 (v4 : Int)) ∧ InAt w' (w.heap.size + 1) s st4 ∧ But (w.heap.size + 1) w1 w' from fun w1 hi => by have := inNum_ok (w.heap.size + 1) s st3 1099511627776 w1 hi hs a3; rw [h4] at this; exact this)
  obtain ⟨v5, st5, h5⟩ : ∃ v st, WireMath.readNum (nats s) st4 1099511627776 = (v, st) := ⟨_, _, rfl⟩
  have a5 : st5.at_ ≤ s.size := by have := WireMath.readNum_le (nats s) st4 1099511627776 hl (by rw [nats_len]; exact a4); rw [h5, nats_len] at this; exact this
  have H5 := Lib.hid (show ∀ w1, InAt w1 (w.heap.size + 1) s st4 → Calls Tryd.prog 55 #[.pointer (some ⟨w.heap.size + 1, 0, none⟩), .int .i64 1099511627776] w1 fun e w' => e = .returned (.int .i64 (v5 : Int)) ∧ InAt w' (w.heap.size + 1) s st5 ∧ But (w.heap.size + 1) w1 w' from fun w1 hi => by have := inNum_ok (w.heap.size + 1) s st4 1099511627776 w1 hi hs a4; rw [h5] at this; exact this)
  obtain ⟨v6, st6, h6⟩ : ∃ v st, WireMath.readVec (nats s) st5 = (v, st) := ⟨_, _, rfl⟩
  have a6 : st6.at_ ≤ s.size := by have := readVec_le (nats s) st5 hl (by rw [nats_len]; exact a5); rw [h6, nats_len] at this; exact this
  have H6 := Lib.hid (show ∀ w1, InAt w1 (w.heap.size + 1) s st5 → Calls Tryd.prog 56 #[.pointer (some ⟨w.heap.size + 1, 0, none⟩)] w1 fun e w' => (∃ pp cap, e = .returned (.slice pp v6.length cap) ∧ Ints w' pp (v6.map Int.ofNat) ∧ ∀ a, pp = some a → w1.heap.size ≤ a.block) ∧ InAt w' (w.heap.size + 1) s st6 ∧ But (w.heap.size + 1) w1 w' from fun w1 hi => by have := inVec_ok (w.heap.size + 1) s st5 w1 hi hs a5; rw [h6] at this; exact this)
  have hrun : WireMath.readClaimsT (nats s) 64 32 1099511627776 1099511627776 1099511627776 ⟨0, none⟩ = ((v1, v2, v3, v4, v5, v6), st6) := by
    unfold WireMath.readClaimsT WireMath.seq
    simp only [← hst0, h1, h2, h3, h4, h5, h6]
  have HEn := Lib.hid (fun w1 (hi : InAt w1 (w.heap.size + 1) s st6) => inEnd_ok (w.heap.size + 1) s st6 w1 hi)
  have HD := Lib.hid (show decC (nats s) = if WireMath.faultAt (nats s) st6 = none ∧ WireMath.rightClaimsT (v1, v2, v3, v4, v5, v6) = true then some (v1, v2, v3, v4, v5, v6) else none by unfold decC WireMath.whole; rw [hrun])
  have HS0 := Lib.hid hst0
  have HL6 := Lib.hid (show v6.length ≤ 9223372036854775807 by have := readVec_len (nats s) st5; rw [h6] at this; exact Nat.le_trans this (by decide))
  clear hrun hl hst0 a0 a1 a2 a3 a4 a5 a6 h1 h2 h3 h4 h5 h6
  go_enter Tryd.func35, Tryd.ntmps35
  go_wp2_with fail
  obtain ⟨W, hW⟩ : ∃ W, W = w.alloc (.cells zerosC.toArray 31) := ⟨_, rfl⟩
  have hWs : W.heap.size = w.heap.size + 1 := by rw [hW]; simp
  have hWb : Below w.heap.size w W := by rw [hW]; exact (Below.refl _ _).alloc (Nat.le_refl _) _
  have hRes : Row W w.heap.size zerosC 31 := by rw [hW]; exact Row.new w zerosC _
  change Calls _ _ _ (w.alloc (.cells zerosC.toArray 31)) _
  rw [← hW]
  refine (inRead_ok s W).mono ?_
  rintro e w2 ⟨rfl, hi, hb, hsz⟩
  rw [hWs] at hi hsz
  rw [hWs]
  obtain ⟨W2, hW2⟩ : ∃ W2, W2 = w2.alloc (.cells zerosC.toArray 31) := ⟨_, rfl⟩
  have hW2b : Below w2.heap.size w2 W2 := by rw [hW2]; exact (Below.refl _ _).alloc (Nat.le_refl _) _
  have hRow : Row W2 (w.heap.size + 1 + 1) zerosC 31 := by rw [hW2, ← hsz]; exact Row.new w2 zerosC _
  have HRow := Lib.hid hRow
  have HRes := Lib.hid ((hRes.below hb).below hW2b)
  have HB := Lib.hid ((hWb.trans (hb.mono (by omega))).trans (hW2b.mono (by omega)))
  have HI := Lib.hid (show InAt W2 (w.heap.size + 1) s st0 by rw [HS0.out]; exact hi.below hW2b)
  clear hi hb hRes hWb hW hRow
  go_wp2_with fail
  change Calls _ _ _ (w2.alloc (.cells zerosC.toArray 31)) _
  rw [← hW2]
  clear hW2 hW2b
  refine (H1.out _ HI.out).mono ?_
  rintro e wa1 ⟨rfl, hi, hb⟩
  obtain ⟨k1, k2, k3, k4, k5⟩ := decode_step (i := 0) (.string (txt v1)) HRow.out HRes.out HB.out hi hb rfl rfl
  have cc := k1.cell (i := 0) rfl
  have ff := k1.free 0
  replace HRow := Lib.hid k2
  replace HRes := Lib.hid k3
  replace HB := Lib.hid k4
  replace HI := Lib.hid k5
  clear k1 k2 k3 k4 k5 hi hb
  go_wp2_with fail
  clear cc ff
  refine (H2.out _ HI.out).mono ?_
  rintro e wa2 ⟨rfl, hi, hb⟩
  obtain ⟨k1, k2, k3, k4, k5⟩ := decode_step (i := 1) (.string (txt v2)) HRow.out HRes.out HB.out hi hb rfl rfl
  have cc := k1.cell (i := 1) rfl
  have ff := k1.free 1
  replace HRow := Lib.hid k2
  replace HRes := Lib.hid k3
  replace HB := Lib.hid k4
  replace HI := Lib.hid k5
  clear k1 k2 k3 k4 k5 hi hb
  go_wp2_with fail
  clear cc ff
  refine (H3.out _ HI.out).mono ?_
  rintro e wa3 ⟨rfl, hi, hb⟩
  obtain ⟨k1, k2, k3, k4, k5⟩ := decode_step (i := 2) (.int .i64 (v3 : Int)) HRow.out HRes.out HB.out hi hb rfl rfl
  have cc := k1.cell (i := 2) rfl
  have ff := k1.free 2
  replace HRow := Lib.hid k2
  replace HRes := Lib.hid k3
  replace HB := Lib.hid k4
  replace HI := Lib.hid k5
  clear k1 k2 k3 k4 k5 hi hb
  go_wp2_with fail
  clear cc ff
  refine (H4.out _ HI.out).mono ?_
  rintro e wa4 ⟨rfl, hi, hb⟩
  obtain ⟨k1, k2, k3, k4, k5⟩ := decode_step (i := 3) (.int .i64 (v4 : Int)) HRow.out HRes.out HB.out hi hb rfl rfl
  have cc := k1.cell (i := 3) rfl
  have ff := k1.free 3
  replace HRow := Lib.hid k2
  replace HRes := Lib.hid k3
  replace HB := Lib.hid k4
  replace HI := Lib.hid k5
  clear k1 k2 k3 k4 k5 hi hb
  go_wp2_with fail
  clear cc ff
  refine (H5.out _ HI.out).mono ?_
  rintro e wa5 ⟨rfl, hi, hb⟩
  obtain ⟨k1, k2, k3, k4, k5⟩ := decode_step (i := 4) (.int .i64 (v5 : Int)) HRow.out HRes.out HB.out hi hb rfl rfl
  have cc := k1.cell (i := 4) rfl
  have ff := k1.free 4
  replace HRow := Lib.hid k2
  replace HRes := Lib.hid k3
  replace HB := Lib.hid k4
  replace HI := Lib.hid k5
  clear k1 k2 k3 k4 k5 hi hb
  go_wp2_with fail
  clear cc ff
  refine (H6.out _ HI.out).mono ?_
  rintro e wa6 ⟨⟨dp, dc, rfl, hz, hbk⟩, hi, hb⟩
  have HBk := Lib.hid (show ∀ a, dp = some a → w.heap.size + 1 + 1 < a.block from fun a ha => by have h1 := hbk a ha; have h2 := HRow.out.lt; omega)
  have HZ := Lib.hid (hz.but (But.set (w.heap.size + 1 + 1) 5 wa6 (.slice dp v6.length dc)) (fun a ha => by have := HBk.out a ha; omega))
  clear hz hbk
  obtain ⟨k1, k2, k3, k4, k5⟩ := decode_step (i := 5) (.slice dp v6.length dc) HRow.out HRes.out HB.out hi hb rfl rfl
  have cc := k1.cell (i := 5) rfl
  have ff := k1.free 5
  replace HRow := Lib.hid k2
  replace HRes := Lib.hid k3
  replace HB := Lib.hid k4
  replace HI := Lib.hid k5
  clear k1 k2 k3 k4 k5 hi hb
  go_wp2_with fail
  clear cc ff
  refine (HEn.out _ HI.out).mono ?_
  rintro e we ⟨he, hb0⟩
  unfold EndIs at he
  have hb : ∀ B, B ≤ (wa6.setCell ⟨w.heap.size + 1 + 1, 5, none⟩ (.slice dp v6.length dc)).heap.size → Below B (wa6.setCell ⟨w.heap.size + 1 + 1, 5, none⟩ (.slice dp v6.length dc)) we := fun B h => hb0.mono h
  have HRow2 := Lib.hid (show Row we (w.heap.size + 1 + 1) [.string (txt v1), .string (txt v2), .int .i64 (v3 : Int), .int .i64 (v4 : Int), .int .i64 (v5 : Int), .slice dp v6.length dc] 31 from HRow.out.below (hb _ (Nat.le_refl _)))
  have HRes2 := Lib.hid (show Row we w.heap.size zerosC 31 from HRes.out.below (hb _ (Nat.le_refl _)))
  have HB2 := Lib.hid (HB.out.trans (hb _ HB.out.size))
  have HZ2 := Lib.hid (HZ.out.grown (hb _ (Nat.le_refl _)))
  clear hb hb0 HRow HRes HB HI HZ
  cases hf : WireMath.faultAt (nats s) st6 with
  | some k =>
    rw [hf] at he
    obtain ⟨r, rfl, hc⟩ := he
    obtain ⟨T, x, rfl⟩ := hc.some
    have HDn := Lib.hid (show decC (nats s) = none by rw [HD.out, hf]; simp)
    have HC := Lib.hid hc
    clear hc hf
    have c0 := HRes2.out.cell (i := 0) rfl
    have g0 := HRes2.out.free 0
    have c1 := HRes2.out.cell (i := 1) rfl
    have g1 := HRes2.out.free 1
    have c2 := HRes2.out.cell (i := 2) rfl
    have g2 := HRes2.out.free 2
    have c3 := HRes2.out.cell (i := 3) rfl
    have g3 := HRes2.out.free 3
    have c4 := HRes2.out.cell (i := 4) rfl
    have g4 := HRes2.out.free 4
    have c5 := HRes2.out.cell (i := 5) rfl
    have g5 := HRes2.out.free 5
    go_wp2
    obtain ⟨q1, q2⟩ := put_six HRes2.out (.string ⟨#[]⟩) (.string ⟨#[]⟩) (.int .i64 0) (.int .i64 0) (.int .i64 0) (.slice none 0 0)
    refine bodyPost_ret (results_cell_tmp Tryd.results35 _ _ w.heap.size 31 _ (0, 0) _ rfl q1 Tryd.underlying31 rfl (by kernel_rfl)) rfl ?_
    exact ⟨⟨by unfold DecIsC; rw [HDn.out]; exact ⟨_, _, rfl, chain_but2 q2 HC.out HRes2.out⟩, vecNew_of (fun a h => by cases h)⟩, HB2.out.trans (q2.below HB2.out.size)⟩
  | none =>
    rw [hf] at he
    have he' : e = .returned .nilIface := he
    subst he'
    have hR := rightClaims_ok (readCV (v1, v2, v3, v4, v5, v6) dp dc) we HZ2.out (show (v6.map Int.ofNat).length ≤ 9223372036854775807 by rw [List.length_map]; exact HL6.out)
    rw [readCV_right] at hR
    have hDD := HD.out
    rw [hf] at hDD
    have HLn := Lib.hid (show (v6.map Int.ofNat).length = v6.length from List.length_map ..)
    simp only [readCV, ClaimsV.val, HLn.out] at hR
    cases hrt : WireMath.rightClaimsT (v1, v2, v3, v4, v5, v6) with
    | true =>
      rw [hrt] at hR hDD
      have HRt := Lib.hid hR
      have HDs := Lib.hid (show decC (nats s) = some (v1, v2, v3, v4, v5, v6) by rw [hDD]; simp)
      clear hR hDD hrt hf
      have b0 := HRow2.out.cell (i := 0) rfl
      have b1 := HRow2.out.cell (i := 1) rfl
      have b2 := HRow2.out.cell (i := 2) rfl
      have b3 := HRow2.out.cell (i := 3) rfl
      have b4 := HRow2.out.cell (i := 4) rfl
      have b5 := HRow2.out.cell (i := 5) rfl
      go_wp2_with (go_at_call 41; refine HRt.out.mono ?_; rintro e w3 ⟨rfl, hb⟩; have HRow3 := Lib.hid (HRow2.out.below hb); have HRes3 := Lib.hid (HRes2.out.below hb); have HB3 := Lib.hid (HB2.out.trans (hb.mono HB2.out.size)); have HZ3 := Lib.hid (HZ2.out.grown hb); clear hb b0 b1 b2 b3 b4 b5; have b0 := HRow3.out.cell (i := 0) rfl; have b1 := HRow3.out.cell (i := 1) rfl; have b2 := HRow3.out.cell (i := 2) rfl; have b3 := HRow3.out.cell (i := 3) rfl; have b4 := HRow3.out.cell (i := 4) rfl; have b5 := HRow3.out.cell (i := 5) rfl; have c0 := HRes3.out.cell (i := 0) rfl; have g0 := HRes3.out.free 0; have c1 := HRes3.out.cell (i := 1) rfl; have g1 := HRes3.out.free 1; have c2 := HRes3.out.cell (i := 2) rfl; have g2 := HRes3.out.free 2; have c3 := HRes3.out.cell (i := 3) rfl; have g3 := HRes3.out.free 3; have c4 := HRes3.out.cell (i := 4) rfl; have g4 := HRes3.out.free 4; have c5 := HRes3.out.cell (i := 5) rfl; have g5 := HRes3.out.free 5)
      obtain ⟨q1, q2⟩ := put_six HRes3.out (.string (txt v1)) (.string (txt v2)) (.int .i64 (v3 : Int)) (.int .i64 (v4 : Int)) (.int .i64 (v5 : Int)) (.slice dp v6.length dc)
      refine bodyPost_ret (results_cell_tmp Tryd.results35 _ _ w.heap.size 31 _ (0, 0) _ rfl q1 Tryd.underlying31 rfl (by kernel_rfl)) rfl ?_
      refine ⟨⟨?_, vecNew_of (fun a ha => by have := HBk.out a ha; omega)⟩, HB3.out.trans (q2.below HB3.out.size)⟩
      unfold DecIsC
      rw [HDs.out]
      refine ⟨dp, dc, ?_, HZ3.out.but q2 (fun a ha => by have := HBk.out a ha; omega)⟩
      simp only [readCV, ClaimsV.val, HLn.out]
      rfl
    | false =>
      rw [hrt] at hR hDD
      have HRt := Lib.hid hR
      have HDn := Lib.hid (show decC (nats s) = none by rw [hDD]; simp)
      have HA := Lib.hid (fun w1 => at_chain ⟨#[119, 105, 114, 101]⟩ (0 : Int) [] (2 : Int) (.iface 40 (.int .i64 (2 : Int))) w1 rfl)
      clear hR hDD hrt hf
      have b0 := HRow2.out.cell (i := 0) rfl
      have b1 := HRow2.out.cell (i := 1) rfl
      have b2 := HRow2.out.cell (i := 2) rfl
      have b3 := HRow2.out.cell (i := 3) rfl
      have b4 := HRow2.out.cell (i := 4) rfl
      have b5 := HRow2.out.cell (i := 5) rfl
      go_wp2_with (first
        | (go_at_call 41; refine HRt.out.mono ?_; rintro e w3 ⟨rfl, hb⟩; have HRes3 := Lib.hid (HRes2.out.below hb); have HB3 := Lib.hid (HB2.out.trans (hb.mono HB2.out.size)); clear hb b0 b1 b2 b3 b4 b5)
        | (go_at_call 17; refine (HA.out _).mono ?_; rintro e w4 ⟨r, rfl, hc, hb⟩; have HC := Lib.hid hc; have HRes4 := Lib.hid (HRes3.out.below hb); have HB4 := Lib.hid (HB3.out.trans (hb.mono HB3.out.size)); clear hc hb; have c0 := HRes4.out.cell (i := 0) rfl; have g0 := HRes4.out.free 0; have c1 := HRes4.out.cell (i := 1) rfl; have g1 := HRes4.out.free 1; have c2 := HRes4.out.cell (i := 2) rfl; have g2 := HRes4.out.free 2; have c3 := HRes4.out.cell (i := 3) rfl; have g3 := HRes4.out.free 3; have c4 := HRes4.out.cell (i := 4) rfl; have g4 := HRes4.out.free 4; have c5 := HRes4.out.cell (i := 5) rfl; have g5 := HRes4.out.free 5))
      obtain ⟨q1, q2⟩ := put_six HRes4.out (.string ⟨#[]⟩) (.string ⟨#[]⟩) (.int .i64 0) (.int .i64 0) (.int .i64 0) (.slice none 0 0)
      refine bodyPost_ret (results_cell_tmp Tryd.results35 _ _ w.heap.size 31 _ (0, 0) _ rfl q1 Tryd.underlying31 rfl (by kernel_rfl)) rfl ?_
      exact ⟨⟨by unfold DecIsC; rw [HDn.out]; exact ⟨_, _, rfl, chain_but2 q2 HC.out HRes4.out⟩, vecNew_of (fun a h => by cases h)⟩, HB4.out.trans (q2.below HB4.out.size)⟩
theorem decClaims_ok (s : ByteArray) (w : World) (hs : s.size ≤ 200000) :
    Calls Tryd.prog 35 #[.string s] w fun e w' => DecIsC w' (nats s) e ∧ Below w.heap.size w w' :=
  (decClaims_new s w (by omega)).mono fun _ _ h => ⟨h.1.1, h.2⟩
end Go.Proofs.YtajhegjemhegiaaDoor
