/-
  The contract of the program's DecodeWrite of chapter 5: the right write whose bytes these are, or an error. The condition: a text of at most 200,000 bytes.
-/
import Derived.Test.YtpmhfoleafjlbaaWireInVec
import Derived.Test.YtpmhfoleafjlbaaWireInText
import Derived.Test.YtpmhfoleafjlbaaWireEnc
namespace Go.Proofs.Ytpmhfoleafjlbaa
open Go.RowKit TextNat

/-- A write that was read, as a value. -/
def readV (v : WireMath.WriteT) (dp : Option Addr) (dc : Nat) : WriteV := ⟨v.1, v.2.1, v.2.2.1, v.1, dp, v.2.2.2.1.map Int.ofNat, dc, txt v.2.2.2.2.1, txt v.2.2.2.2.2.1, txt v.2.2.2.2.2.2.2.1, v.2.2.2.2.2.2.1, v.2.2.2.2.2.2.2.2⟩
def zeroW : Value := .agg #[.int .i64 0, .int .i64 0, .int .i64 0, .int .i64 0, .slice none 0 0, .string ⟨#[]⟩, .string ⟨#[]⟩, .string ⟨#[]⟩, .bool false, .int .i64 0]
def decW (l : List Nat) : Option WireMath.WriteT := WireMath.whole l (WireMath.readWriteT l 16 1099511627776 1099511627776 64 32 128 1099511627776) WireMath.rightWriteT
theorem readV_right (v : WireMath.WriteT) (dp : Option Addr) (dc : Nat) : (readV v dp dc).right = WireMath.rightWriteT v := by
  rw [Bool.eq_iff_iff, right_iff]
  constructor
  · intro h
    have ht := right_t h
    obtain ⟨v1, v2, v3, v4, v5, v6, v7, v8, v9⟩ := v
    obtain ⟨h1, h2, h3, h4, h5, h6, h7, h8, h9, h10⟩ := h
    simp only [readV, txt_len] at h1 h2 h3 h5 h6 h7 h8 h9 h10
    unfold WireMath.rightWriteT
    simp only [Bool.and_eq_true, Bool.or_eq_true, decide_eq_true_eq, Bool.not_eq_true']
    unfold WireMath.big at *
    refine ⟨⟨⟨⟨⟨⟨⟨⟨⟨⟨⟨⟨?_, ?_⟩, ?_⟩, ?_⟩, ?_⟩, ?_⟩, h5⟩, ?_⟩, ?_⟩, ?_⟩, ?_⟩, ?_⟩, ?_⟩ <;> first | exact h9 | omega
  · intro h
    obtain ⟨v1, v2, v3, v4, v5, v6, v7, v8, v9⟩ := v
    unfold WireMath.rightWriteT at h
    simp only [Bool.and_eq_true, Bool.or_eq_true, decide_eq_true_eq, Bool.not_eq_true'] at h
    obtain ⟨⟨⟨⟨⟨⟨⟨⟨⟨⟨⟨⟨h1, h2⟩, h3⟩, h4⟩, h5⟩, h6⟩, h7⟩, h8⟩, h9⟩, h10⟩, h11⟩, h12⟩, h13⟩ := h
    unfold WireMath.big at *
    unfold readV
    refine ⟨?_, ?_, ?_, rfl, h7, ?_, ?_, ?_, ?_, ?_⟩ <;> simp only [txt_len] <;> first | exact h12 | omega
theorem readVec_len (l : List Nat) (st : WireMath.At) : (WireMath.readVec l st).1.length ≤ 16 := by
  obtain ⟨a, bad⟩ := st
  cases bad with
  | some b => exact Nat.zero_le _
  | none =>
    unfold WireMath.readVec
    simp only
    split
    · exact Nat.zero_le _
    · split
      · rename_i h
        exact (WireMath.trimmed_counts h).1
      · exact Nat.zero_le _
/-- A row of cells that lies in block b. -/
def Row (w : World) (b : Nat) (l : List Value) (T : TypeId) : Prop := w.heap[b]? = some (.cells l.toArray T (0, 0))
theorem Row.lt {w : World} {b : Nat} {l : List Value} {T : TypeId} (h : Row w b l T) : b < w.heap.size := (Array.getElem?_eq_some_iff.1 h).1
theorem Row.cell {w : World} {b i : Nat} {l : List Value} {T : TypeId} {v : Value} (h : Row w b l T) (hv : l[i]? = some v) : w.cell? ⟨b, i, none⟩ = some v := by
  rw [cell_of_row w b i _ T (0, 0) h]
  simp [hv]
theorem Row.free {w : World} {b : Nat} {l : List Value} {T : TypeId} (h : Row w b l T) (i : Nat) : w.frozen? ⟨b, i, none⟩ = false := frozen_of_row w b i _ T h
theorem Row.set {w : World} {b : Nat} {l : List Value} {T : TypeId} (h : Row w b l T) (i : Nat) (v : Value) : Row (w.setCell ⟨b, i, none⟩ v) b (l.set i v) T := by
  have := heap_setCell_same (i := i) w b _ T v h
  unfold Row
  rw [this]
  simp
theorem Row.but {w w' : World} {b pb : Nat} {l : List Value} {T : TypeId} (h : Row w b l T) (hb : But pb w w') (hn : b ≠ pb) : Row w' b l T := (hb.block b h.lt hn).trans h
theorem Row.below {w w' : World} {b : Nat} {l : List Value} {T : TypeId} (h : Row w b l T) (hb : Below w.heap.size w w') : Row w' b l T := (hb.block b h.lt).trans h
theorem Row.new (w : World) (l : List Value) (T : TypeId) : Row (w.alloc (.cells l.toArray T)) w.heap.size l T := heap_alloc_new w _
def zeros : List Value := [.int .i64 0, .int .i64 0, .int .i64 0, .int .i64 0, .slice none 0 0, .string ⟨#[]⟩, .string ⟨#[]⟩, .string ⟨#[]⟩, .bool false, .int .i64 0]
theorem decode_step {w w1 w2 : World} {pb b i : Nat} {s : ByteArray} {st : WireMath.At} {l lr : List Value} {T : TypeId} (v : Value) (hrow : Row w1 b l T) (hres : Row w1 w.heap.size lr T) (hbel : Below w.heap.size w w1) (hi : InAt w2 pb s st) (hb : But pb w1 w2) (h1 : pb = w.heap.size + 1) (h2 : b = w.heap.size + 1 + 1) :
    Row w2 b l T ∧ Row (w2.setCell ⟨b, i, none⟩ v) b (l.set i v) T ∧ Row (w2.setCell ⟨b, i, none⟩ v) w.heap.size lr T ∧ Below w.heap.size w (w2.setCell ⟨b, i, none⟩ v) ∧ InAt (w2.setCell ⟨b, i, none⟩ v) pb s st := by
  have k1 : Row w2 b l T := hrow.but hb (by omega)
  have k2 : Row w2 w.heap.size lr T := hres.but hb (by omega)
  have hbs := hbel.size
  have hpl := hrow.lt
  exact ⟨k1, k1.set i v, k2.but (But.set b i w2 v) (by omega), (hbel.trans ((hb.below (by omega)).mono (by omega))).trans ((But.set b i w2 v).below (by have := hb.size; omega) |>.mono (by omega)), hi.keep (But.set b i w2 v) (by omega)⟩

theorem Row.row {w : World} {b : Nat} {l : List Value} {T : TypeId} (h : Row w b l T) (l' : List Value) : Row (w.setRow b l'.toArray) b l' T := setRow_heap w b _ _ T _ h
theorem but_setRow (b : Nat) (w : World) (C : Array Value) : But b w (w.setRow b C) :=
  ⟨rfl, rfl, rfl, by simp, fun k _ hn => setRow_other w b k C hn⟩
theorem chain_but {w w' : World} {b B : Nat} {l : List Value} {T : TypeId} {t : ByteArray} {n c z : Int} {r : Value} (hb : But b w w') (h : Chain B w [(t, n)] (.iface 51 (.int .i64 c)) r) (hrow : Row w b (.int .i64 z :: l) T) : Chain w'.heap.size w' [(t, n)] (.iface 51 (.int .i64 c)) r := by
  obtain ⟨q, u, h1, h2, h3, h4, h5, h6⟩ := h
  have hne : q ≠ b := fun e => by
    subst e
    have := hrow.cell (i := 0) rfl
    rw [h3] at this
    cases this
  exact ⟨q, u, h1, Nat.lt_of_lt_of_le (cell_lt h3) hb.size, (hb.cell (cell_lt h3) hne).trans h3, (hb.cell (cell_lt h4) hne).trans h4, (hb.cell (cell_lt h5) hne).trans h5, h6⟩
theorem put_ten {w : World} {b : Nat} {T : TypeId} (h : Row w b zeros T) (u0 u1 u2 u3 u4 u5 u6 u7 u8 u9 : Value) : Row ((((((((((w.setCell ⟨b, 0, none⟩ u0).setCell ⟨b, 1, none⟩ u1).setCell ⟨b, 2, none⟩ u2).setCell ⟨b, 3, none⟩ u3).setCell ⟨b, 4, none⟩ u4).setCell ⟨b, 5, none⟩ u5).setCell ⟨b, 6, none⟩ u6).setCell ⟨b, 7, none⟩ u7).setCell ⟨b, 8, none⟩ u8).setCell ⟨b, 9, none⟩ u9) b [u0, u1, u2, u3, u4, u5, u6, u7, u8, u9] T ∧ But b w ((((((((((w.setCell ⟨b, 0, none⟩ u0).setCell ⟨b, 1, none⟩ u1).setCell ⟨b, 2, none⟩ u2).setCell ⟨b, 3, none⟩ u3).setCell ⟨b, 4, none⟩ u4).setCell ⟨b, 5, none⟩ u5).setCell ⟨b, 6, none⟩ u6).setCell ⟨b, 7, none⟩ u7).setCell ⟨b, 8, none⟩ u8).setCell ⟨b, 9, none⟩ u9) :=
  ⟨((((((((((h.set 0 u0).set 1 u1).set 2 u2).set 3 u3).set 4 u4).set 5 u5).set 6 u6).set 7 u7).set 8 u8).set 9 u9), (((((((((But.set b 0 w u0).trans (But.set b 1 _ u1)).trans (But.set b 2 _ u2)).trans (But.set b 3 _ u3)).trans (But.set b 4 _ u4)).trans (But.set b 5 _ u5)).trans (But.set b 6 _ u6)).trans (But.set b 7 _ u7)).trans (But.set b 8 _ u8)).trans (But.set b 9 _ u9)⟩
theorem results_cell_tmp {P : Program} {fn : Func} {p t : Tmp} {ty : TypeId} (h : fn.results = #[.cell p ty, .tmp t]) (tmps : Array Value) (w : World) (g : Nat) (T : TypeId) (cs : Array Value) (fr : Nat × Nat) (d : TypeDesc)
    (hp : tmps.getD p undef = .pointer (some ⟨g, 0, none⟩)) (hg : w.heap[g]? = some (.cells cs T fr))
    (hu : P.underlying ty = some d) (hd : (match d with | .struct _ | .array _ _ => true | _ => false) = true) (hi : (P.info? ty).map (·.size) = some cs.size) :
    (results fn tmps).run P w = .ok (.tuple #[.agg cs, tmps.getD t undef]) w := by
  have hp' : tmps[p]?.getD undef = .pointer (some ⟨g, 0, none⟩) := by simpa using hp
  simp [results, h, hp', asAddr, run_loadVar_row w g T ty cs fr d hg hu hd hi]

/-- What DecodeWrite answers. -/
def DecIs (w : World) (l : List Nat) (e : Ending) : Prop :=
  match decW l with
  | some v => ∃ dp dc, e = .returned (.tuple #[(readV v dp dc).val, .nilIface]) ∧ Ints w dp (v.2.2.2.1.map Int.ofNat)
  | none => ∃ r k, e = .returned (.tuple #[zeroW, r]) ∧ Chain w.heap.size w [(⟨#[119, 105, 114, 101]⟩, k)] (.iface 51 (.int .i64 (2 : Int))) r

set_option maxRecDepth 100000 in
set_option maxHeartbeats 4000000 in
theorem decWrite_ok (s : ByteArray) (w : World) (hs : s.size ≤ 200000) :
    Calls Try.prog 23 #[.string s] w fun e w' => DecIs w' (nats s) e ∧ Below w.heap.size w w' := by
  have hl := nats_lt s
  obtain ⟨st0, hst0⟩ : ∃ st, st = WireMath.At.mk 0 none := ⟨_, rfl⟩
  have a0 : st0.at_ ≤ s.size := by rw [hst0]; exact Nat.zero_le _
  obtain ⟨v1, st1, h1⟩ : ∃ v st, WireMath.readNum (nats s) st0 16 = (v, st) := ⟨_, _, rfl⟩
  have a1 : st1.at_ ≤ s.size := by have := WireMath.readNum_le (nats s) st0 16 hl (by rw [nats_len]; exact a0); rw [h1, nats_len] at this; exact this
  have H1 := Lib.hid (show ∀ w1, InAt w1 (w.heap.size + 1) s st0 → Calls Try.prog 18 #[.pointer (some ⟨w.heap.size + 1, 0, none⟩), .int .i64 16] w1 fun e w' => e = .returned (.int .i64 (v1 : Int)) ∧ InAt w' (w.heap.size + 1) s st1 ∧ But (w.heap.size + 1) w1 w' from fun w1 hi => by have := inNum_ok (w.heap.size + 1) s st0 16 w1 hi hs a0; rw [h1] at this; exact this)
  obtain ⟨v2, st2, h2⟩ : ∃ v st, WireMath.readNum (nats s) st1 1099511627776 = (v, st) := ⟨_, _, rfl⟩
  have a2 : st2.at_ ≤ s.size := by have := WireMath.readNum_le (nats s) st1 1099511627776 hl (by rw [nats_len]; exact a1); rw [h2, nats_len] at this; exact this
  have H2 := Lib.hid (show ∀ w1, InAt w1 (w.heap.size + 1) s st1 → Calls Try.prog 18 #[.pointer (some ⟨w.heap.size + 1, 0, none⟩), .int .i64 1099511627776] w1 fun e w' => e = .returned (.int .i64 (v2 : Int)) ∧ InAt w' (w.heap.size + 1) s st2 ∧ But (w.heap.size + 1) w1 w' from fun w1 hi => by have := inNum_ok (w.heap.size + 1) s st1 1099511627776 w1 hi hs a1; rw [h2] at this; exact this)
  obtain ⟨v3, st3, h3⟩ : ∃ v st, WireMath.readNum (nats s) st2 1099511627776 = (v, st) := ⟨_, _, rfl⟩
  have a3 : st3.at_ ≤ s.size := by have := WireMath.readNum_le (nats s) st2 1099511627776 hl (by rw [nats_len]; exact a2); rw [h3, nats_len] at this; exact this
  have H3 := Lib.hid (show ∀ w1, InAt w1 (w.heap.size + 1) s st2 → Calls Try.prog 18 #[.pointer (some ⟨w.heap.size + 1, 0, none⟩), .int .i64 1099511627776] w1 fun e w' => e = .returned (.int .i64 (v3 : Int)) ∧ InAt w' (w.heap.size + 1) s st3 ∧ But (w.heap.size + 1) w1 w' from fun w1 hi => by have := inNum_ok (w.heap.size + 1) s st2 1099511627776 w1 hi hs a2; rw [h3] at this; exact this)
  obtain ⟨v4, st4, h4⟩ : ∃ v st, WireMath.readVec (nats s) st3 = (v, st) := ⟨_, _, rfl⟩
  have a4 : st4.at_ ≤ s.size := by have := readVec_le (nats s) st3 hl (by rw [nats_len]; exact a3); rw [h4, nats_len] at this; exact this
  have H4 := Lib.hid (show ∀ w1, InAt w1 (w.heap.size + 1) s st3 → Calls Try.prog 17 #[.pointer (some ⟨w.heap.size + 1, 0, none⟩)] w1 fun e w' => (∃ pp cap, e = .returned (.slice pp v4.length cap) ∧ Ints w' pp (v4.map Int.ofNat) ∧ ∀ a, pp = some a → w1.heap.size ≤ a.block) ∧ InAt w' (w.heap.size + 1) s st4 ∧ But (w.heap.size + 1) w1 w' from fun w1 hi => by have := inVec_ok (w.heap.size + 1) s st3 w1 hi hs a3; rw [h4] at this; exact this)
  obtain ⟨v5, st5, h5⟩ : ∃ v st, WireMath.readText (nats s) st4 64 = (v, st) := ⟨_, _, rfl⟩
  have a5 : st5.at_ ≤ s.size := by have := readText_le (nats s) st4 64 hl (by rw [nats_len]; exact a4); rw [h5, nats_len] at this; exact this
  have H5 := Lib.hid (show ∀ w1, InAt w1 (w.heap.size + 1) s st4 → Calls Try.prog 14 #[.pointer (some ⟨w.heap.size + 1, 0, none⟩), .int .i64 64] w1 fun e w' => e = .returned (.string (txt v5)) ∧ InAt w' (w.heap.size + 1) s st5 ∧ But (w.heap.size + 1) w1 w' from fun w1 hi => by have := inText_ok (w.heap.size + 1) s st4 64 w1 hi hs a4; rw [h5] at this; exact this)
  obtain ⟨v6, st6, h6⟩ : ∃ v st, WireMath.readText (nats s) st5 32 = (v, st) := ⟨_, _, rfl⟩
  have a6 : st6.at_ ≤ s.size := by have := readText_le (nats s) st5 32 hl (by rw [nats_len]; exact a5); rw [h6, nats_len] at this; exact this
  have H6 := Lib.hid (show ∀ w1, InAt w1 (w.heap.size + 1) s st5 → Calls Try.prog 14 #[.pointer (some ⟨w.heap.size + 1, 0, none⟩), .int .i64 32] w1 fun e w' => e = .returned (.string (txt v6)) ∧ InAt w' (w.heap.size + 1) s st6 ∧ But (w.heap.size + 1) w1 w' from fun w1 hi => by have := inText_ok (w.heap.size + 1) s st5 32 w1 hi hs a5; rw [h6] at this; exact this)
  obtain ⟨v7, st7, h7⟩ : ∃ v st, WireMath.readFlag (nats s) st6 = (v, st) := ⟨_, _, rfl⟩
  have a7 : st7.at_ ≤ s.size := by have := readFlag_le (nats s) st6 hl (by rw [nats_len]; exact a6); rw [h7, nats_len] at this; exact this
  have H7 := Lib.hid (show ∀ w1, InAt w1 (w.heap.size + 1) s st6 → Calls Try.prog 15 #[.pointer (some ⟨w.heap.size + 1, 0, none⟩)] w1 fun e w' => e = .returned (.bool v7) ∧ InAt w' (w.heap.size + 1) s st7 ∧ But (w.heap.size + 1) w1 w' from fun w1 hi => by have := inFlag_ok (w.heap.size + 1) s st6 w1 hi hs a6; rw [h7] at this; exact this)
  obtain ⟨v8, st8, h8⟩ : ∃ v st, WireMath.readText (nats s) st7 128 = (v, st) := ⟨_, _, rfl⟩
  have a8 : st8.at_ ≤ s.size := by have := readText_le (nats s) st7 128 hl (by rw [nats_len]; exact a7); rw [h8, nats_len] at this; exact this
  have H8 := Lib.hid (show ∀ w1, InAt w1 (w.heap.size + 1) s st7 → Calls Try.prog 14 #[.pointer (some ⟨w.heap.size + 1, 0, none⟩), .int .i64 128] w1 fun e w' => e = .returned (.string (txt v8)) ∧ InAt w' (w.heap.size + 1) s st8 ∧ But (w.heap.size + 1) w1 w' from fun w1 hi => by have := inText_ok (w.heap.size + 1) s st7 128 w1 hi hs a7; rw [h8] at this; exact this)
  obtain ⟨v9, st9, h9⟩ : ∃ v st, WireMath.readNum (nats s) st8 1099511627776 = (v, st) := ⟨_, _, rfl⟩
  have a9 : st9.at_ ≤ s.size := by have := WireMath.readNum_le (nats s) st8 1099511627776 hl (by rw [nats_len]; exact a8); rw [h9, nats_len] at this; exact this
  have H9 := Lib.hid (show ∀ w1, InAt w1 (w.heap.size + 1) s st8 → Calls Try.prog 18 #[.pointer (some ⟨w.heap.size + 1, 0, none⟩), .int .i64 1099511627776] w1 fun e w' => e = .returned (.int .i64 (v9 : Int)) ∧ InAt w' (w.heap.size + 1) s st9 ∧ But (w.heap.size + 1) w1 w' from fun w1 hi => by have := inNum_ok (w.heap.size + 1) s st8 1099511627776 w1 hi hs a8; rw [h9] at this; exact this)
  have hrun : WireMath.readWriteT (nats s) 16 1099511627776 1099511627776 64 32 128 1099511627776 ⟨0, none⟩ = ((v1, v2, v3, v4, v5, v6, v7, v8, v9), st9) := by
    unfold WireMath.readWriteT WireMath.seq
    simp only [← hst0, h1, h2, h3, h4, h5, h6, h7, h8, h9]
  have HEn := Lib.hid (fun w1 (hi : InAt w1 (w.heap.size + 1) s st9) => inEnd_ok (w.heap.size + 1) s st9 w1 hi)
  have HD := Lib.hid (show decW (nats s) = if WireMath.faultAt (nats s) st9 = none ∧ WireMath.rightWriteT (v1, v2, v3, v4, v5, v6, v7, v8, v9) = true then some (v1, v2, v3, v4, v5, v6, v7, v8, v9) else none by unfold decW WireMath.whole; rw [hrun])
  have HS0 := Lib.hid hst0
  have HL4 := Lib.hid (show v4.length ≤ 9223372036854775807 by have := readVec_len (nats s) st3; rw [h4] at this; exact Nat.le_trans this (by decide))
  clear hrun hl hst0 a0 a1 a2 a3 a4 a5 a6 a7 a8 a9 h1 h2 h3 h4 h5 h6 h7 h8 h9
  go_enter Try.func23, Try.ntmps23
  go_wp2_with fail
  obtain ⟨W, hW⟩ : ∃ W, W = w.alloc (.cells zeros.toArray 47) := ⟨_, rfl⟩
  have hWs : W.heap.size = w.heap.size + 1 := by rw [hW]; simp
  have hWb : Below w.heap.size w W := by rw [hW]; exact (Below.refl _ _).alloc (Nat.le_refl _) _
  have hRes : Row W w.heap.size zeros 47 := by rw [hW]; exact Row.new w zeros _
  change Calls _ _ _ (w.alloc (.cells zeros.toArray 47)) _
  rw [← hW]
  refine (inRead_ok s W).mono ?_
  rintro e w2 ⟨rfl, hi, hb, hsz⟩
  rw [hWs] at hi hsz
  rw [hWs]
  obtain ⟨W2, hW2⟩ : ∃ W2, W2 = w2.alloc (.cells zeros.toArray 47) := ⟨_, rfl⟩
  have hW2b : Below w2.heap.size w2 W2 := by rw [hW2]; exact (Below.refl _ _).alloc (Nat.le_refl _) _
  have hRow : Row W2 (w.heap.size + 1 + 1) zeros 47 := by rw [hW2, ← hsz]; exact Row.new w2 zeros _
  have HRow := Lib.hid hRow
  have HRes := Lib.hid ((hRes.below hb).below hW2b)
  have HB := Lib.hid ((hWb.trans (hb.mono (by omega))).trans (hW2b.mono (by omega)))
  have HI := Lib.hid (show InAt W2 (w.heap.size + 1) s st0 by rw [HS0.out]; exact hi.below hW2b)
  clear hi hb hRes hWb hW hRow
  go_wp2_with fail
  change Calls _ _ _ (w2.alloc (.cells zeros.toArray 47)) _
  rw [← hW2]
  clear hW2 hW2b
  refine (H1.out _ HI.out).mono ?_
  rintro e wa1 ⟨rfl, hi, hb⟩
  obtain ⟨k1, k2, k3, k4, k5⟩ := decode_step (i := 0) (.int .i64 (v1 : Int)) HRow.out HRes.out HB.out hi hb rfl rfl
  have cc := k1.cell (i := 0) rfl
  have ff := k1.free 0
  replace HRow := Lib.hid k2
  replace HRes := Lib.hid k3
  replace HB := Lib.hid k4
  replace HI := Lib.hid k5
  clear k1 k2 k3 k4 k5 hi hb
  go_wp2_with fail
  clear cc ff
  refine (H2.out _ HI.out).mono ?_
  rintro e wa2 ⟨rfl, hi, hb⟩
  obtain ⟨k1, k2, k3, k4, k5⟩ := decode_step (i := 1) (.int .i64 (v2 : Int)) HRow.out HRes.out HB.out hi hb rfl rfl
  have cc := k1.cell (i := 1) rfl
  have ff := k1.free 1
  replace HRow := Lib.hid k2
  replace HRes := Lib.hid k3
  replace HB := Lib.hid k4
  replace HI := Lib.hid k5
  clear k1 k2 k3 k4 k5 hi hb
  go_wp2_with fail
  clear cc ff
  obtain ⟨W3, hW3⟩ : ∃ W3, W3 = wa2.setCell ⟨w.heap.size + 1 + 1, 1, none⟩ (.int .i64 (v2 : Int)) := ⟨_, rfl⟩
  rw [← hW3] at HRow HRes HB HI ⊢
  clear hW3
  have c0 := HRow.out.cell (i := 0) rfl
  have HId := Lib.hid (show InAt W3.drew (w.heap.size + 1) s st2 from HI.out.below (Below.refl _ _).drew)
  go_region_with (go_at_call 18; refine (H3.out _ HId.out).mono ?_; rintro e wa3 ⟨rfl, hi, hb⟩; have hb3 : But (w.heap.size + 1) W3 wa3 := But.trans (But.refl _ _).drew hb; have HHi := Lib.hid hi; have HHb := Lib.hid hb3; have k1 := HRow.out.but hb3 (by omega); have c00 := k1.cell (i := 0) rfl; have cc := k1.cell (i := 2) rfl; have ff := k1.free 2; have cc3 := k1.cell (i := 3) rfl; have ff3 := k1.free 3; clear hi hb hb3)
  all_goals
    obtain ⟨k1', k2, k3, k4, k5⟩ := decode_step (i := 2) (.int .i64 (v3 : Int)) HRow.out HRes.out HB.out HHi.out HHb.out rfl rfl
    obtain ⟨_, j2, j3, j4, j5⟩ := decode_step (i := 3) (.int .i64 (v1 : Int)) k2 k3 k4 k5 (But.refl _ _) rfl rfl
    replace HRow := Lib.hid j2
    replace HRes := Lib.hid j3
    replace HB := Lib.hid j4
    replace HI := Lib.hid j5
    clear k1 k1' k2 k3 k4 k5 j2 j3 j4 j5 c00 cc ff cc3 ff3 c0 HId HHi HHb
    go_wp2_with fail
    refine (H4.out _ HI.out).mono ?_
    rintro e wa4 ⟨⟨dp, dc, rfl, hz, hbk⟩, hi, hb⟩
    have HLv := Lib.hid (show (v4.map Int.ofNat).length ≤ 9223372036854775807 by rw [List.length_map]; exact HL4.out)
    have HBk := Lib.hid (show ∀ a, dp = some a → w.heap.size + 1 + 1 < a.block from fun a ha => by have h1 := hbk a ha; have h2 := HRow.out.lt; omega)
    have HZ := Lib.hid (hz.but (But.set (w.heap.size + 1 + 1) 4 wa4 (.slice dp v4.length dc)) (fun a ha => by have := HBk.out a ha; omega))
    clear hz hbk
    obtain ⟨k1, k2, k3, k4, k5⟩ := decode_step (i := 4) (.slice dp v4.length dc) HRow.out HRes.out HB.out hi hb rfl rfl
    have cc := k1.cell (i := 4) rfl
    have ff := k1.free 4
    replace HRow := Lib.hid k2
    replace HRes := Lib.hid k3
    replace HB := Lib.hid k4
    replace HI := Lib.hid k5
    clear k1 k2 k3 k4 k5 hi hb
    go_wp2_with fail
    refine (H5.out _ HI.out).mono ?_
    rintro e wa5 ⟨rfl, hi, hb⟩
    replace HZ := Lib.hid ((HZ.out.but hb (fun a ha => by have := HBk.out a ha; omega)).but (But.set (w.heap.size + 1 + 1) 5 wa5 (.string (txt v5))) (fun a ha => by have := HBk.out a ha; omega))
    obtain ⟨k1, k2, k3, k4, k5⟩ := decode_step (i := 5) (.string (txt v5)) HRow.out HRes.out HB.out hi hb rfl rfl
    have cc := k1.cell (i := 5) rfl
    have ff := k1.free 5
    replace HRow := Lib.hid k2
    replace HRes := Lib.hid k3
    replace HB := Lib.hid k4
    replace HI := Lib.hid k5
    clear k1 k2 k3 k4 k5 hi hb
    go_wp2_with fail
    refine (H6.out _ HI.out).mono ?_
    rintro e wa6 ⟨rfl, hi, hb⟩
    replace HZ := Lib.hid ((HZ.out.but hb (fun a ha => by have := HBk.out a ha; omega)).but (But.set (w.heap.size + 1 + 1) 6 wa6 (.string (txt v6))) (fun a ha => by have := HBk.out a ha; omega))
    obtain ⟨k1, k2, k3, k4, k5⟩ := decode_step (i := 6) (.string (txt v6)) HRow.out HRes.out HB.out hi hb rfl rfl
    have cc := k1.cell (i := 6) rfl
    have ff := k1.free 6
    replace HRow := Lib.hid k2
    replace HRes := Lib.hid k3
    replace HB := Lib.hid k4
    replace HI := Lib.hid k5
    clear k1 k2 k3 k4 k5 hi hb
    go_wp2_with fail
    refine (H7.out _ HI.out).mono ?_
    rintro e wa7 ⟨rfl, hi, hb⟩
    replace HZ := Lib.hid ((HZ.out.but hb (fun a ha => by have := HBk.out a ha; omega)).but (But.set (w.heap.size + 1 + 1) 8 wa7 (.bool v7)) (fun a ha => by have := HBk.out a ha; omega))
    obtain ⟨k1, k2, k3, k4, k5⟩ := decode_step (i := 8) (.bool v7) HRow.out HRes.out HB.out hi hb rfl rfl
    have cc := k1.cell (i := 8) rfl
    have ff := k1.free 8
    replace HRow := Lib.hid k2
    replace HRes := Lib.hid k3
    replace HB := Lib.hid k4
    replace HI := Lib.hid k5
    clear k1 k2 k3 k4 k5 hi hb
    go_wp2_with fail
    refine (H8.out _ HI.out).mono ?_
    rintro e wa8 ⟨rfl, hi, hb⟩
    replace HZ := Lib.hid ((HZ.out.but hb (fun a ha => by have := HBk.out a ha; omega)).but (But.set (w.heap.size + 1 + 1) 7 wa8 (.string (txt v8))) (fun a ha => by have := HBk.out a ha; omega))
    obtain ⟨k1, k2, k3, k4, k5⟩ := decode_step (i := 7) (.string (txt v8)) HRow.out HRes.out HB.out hi hb rfl rfl
    have cc := k1.cell (i := 7) rfl
    have ff := k1.free 7
    replace HRow := Lib.hid k2
    replace HRes := Lib.hid k3
    replace HB := Lib.hid k4
    replace HI := Lib.hid k5
    clear k1 k2 k3 k4 k5 hi hb
    go_wp2_with fail
    refine (H9.out _ HI.out).mono ?_
    rintro e wa9 ⟨rfl, hi, hb⟩
    replace HZ := Lib.hid ((HZ.out.but hb (fun a ha => by have := HBk.out a ha; omega)).but (But.set (w.heap.size + 1 + 1) 9 wa9 (.int .i64 (v9 : Int))) (fun a ha => by have := HBk.out a ha; omega))
    obtain ⟨k1, k2, k3, k4, k5⟩ := decode_step (i := 9) (.int .i64 (v9 : Int)) HRow.out HRes.out HB.out hi hb rfl rfl
    have cc := k1.cell (i := 9) rfl
    have ff := k1.free 9
    replace HRow := Lib.hid k2
    replace HRes := Lib.hid k3
    replace HB := Lib.hid k4
    replace HI := Lib.hid k5
    clear k1 k2 k3 k4 k5 hi hb
    go_wp2_with fail
    refine (HEn.out _ HI.out).mono ?_
    rintro e we ⟨he, hb⟩
    unfold EndIs at he
    have HRow2 := Lib.hid (show Row we (w.heap.size + 1 + 1) [.int .i64 (v1 : Int), .int .i64 (v2 : Int), .int .i64 (v3 : Int), .int .i64 (v1 : Int), .slice dp v4.length dc, .string (txt v5), .string (txt v6), .string (txt v8), .bool v7, .int .i64 (v9 : Int)] 47 from HRow.out.below hb)
    have HRes2 := Lib.hid (show Row we w.heap.size zeros 47 from HRes.out.below hb)
    have HB2 := Lib.hid (HB.out.trans (hb.mono HB.out.size))
    have HZ2 := Lib.hid (HZ.out.grown hb)
    clear hb HRow HRes HB HI HZ
    cases hf : WireMath.faultAt (nats s) st9 with
    | some k =>
      rw [hf] at he
      obtain ⟨r, rfl, hc⟩ := he
      obtain ⟨T, x, rfl⟩ := hc.some
      have HDn := Lib.hid (show decW (nats s) = none by rw [HD.out, hf]; simp)
      have HC := Lib.hid hc
      clear hc hf
      have c0 := HRes2.out.cell (i := 0) rfl
      have g0 := HRes2.out.free 0
      have c1 := HRes2.out.cell (i := 1) rfl
      have g1 := HRes2.out.free 1
      have c2 := HRes2.out.cell (i := 2) rfl
      have g2 := HRes2.out.free 2
      have c3 := HRes2.out.cell (i := 3) rfl
      have g3 := HRes2.out.free 3
      have c4 := HRes2.out.cell (i := 4) rfl
      have g4 := HRes2.out.free 4
      have c5 := HRes2.out.cell (i := 5) rfl
      have g5 := HRes2.out.free 5
      have c6 := HRes2.out.cell (i := 6) rfl
      have g6 := HRes2.out.free 6
      have c7 := HRes2.out.cell (i := 7) rfl
      have g7 := HRes2.out.free 7
      have c8 := HRes2.out.cell (i := 8) rfl
      have g8 := HRes2.out.free 8
      have c9 := HRes2.out.cell (i := 9) rfl
      have g9 := HRes2.out.free 9
      go_wp2
      obtain ⟨q1, q2⟩ := put_ten HRes2.out (.int .i64 0) (.int .i64 0) (.int .i64 0) (.int .i64 0) (.slice none 0 0) (.string ⟨#[]⟩) (.string ⟨#[]⟩) (.string ⟨#[]⟩) (.bool false) (.int .i64 0)
      refine bodyPost_ret (results_cell_tmp Try.results23 _ _ w.heap.size 47 _ (0, 0) _ rfl q1 Try.underlying47 rfl (by kernel_rfl)) rfl ?_
      exact ⟨by unfold DecIs; rw [HDn.out]; exact ⟨_, _, rfl, chain_but q2 HC.out HRes2.out⟩, HB2.out.trans (q2.below HB2.out.size)⟩
    | none =>
      rw [hf] at he
      have he' : e = .returned .nilIface := he
      subst he'
      have hR := rightWrite_ok (readV (v1, v2, v3, v4, v5, v6, v7, v8, v9) dp dc) we HZ2.out (HLv.out)
      rw [readV_right] at hR
      have hDD := HD.out
      rw [hf] at hDD
      have HLn := Lib.hid (show (v4.map Int.ofNat).length = v4.length from List.length_map ..)
      simp only [readV, WriteV.val, HLn.out] at hR
      cases hrt : WireMath.rightWriteT (v1, v2, v3, v4, v5, v6, v7, v8, v9) with
      | true =>
        rw [hrt] at hR hDD
        have HRt := Lib.hid hR
        have HDs := Lib.hid (show decW (nats s) = some (v1, v2, v3, v4, v5, v6, v7, v8, v9) by rw [hDD]; simp)
        clear hR hDD hrt hf
        have b0 := HRow2.out.cell (i := 0) rfl
        have b1 := HRow2.out.cell (i := 1) rfl
        have b2 := HRow2.out.cell (i := 2) rfl
        have b3 := HRow2.out.cell (i := 3) rfl
        have b4 := HRow2.out.cell (i := 4) rfl
        have b5 := HRow2.out.cell (i := 5) rfl
        have b6 := HRow2.out.cell (i := 6) rfl
        have b7 := HRow2.out.cell (i := 7) rfl
        have b8 := HRow2.out.cell (i := 8) rfl
        have b9 := HRow2.out.cell (i := 9) rfl
        go_wp2_with (go_at_call 43; refine HRt.out.mono ?_; rintro e w3 ⟨rfl, hb⟩; have HRow3 := Lib.hid (HRow2.out.below hb); have HRes3 := Lib.hid (HRes2.out.below hb); have HB3 := Lib.hid (HB2.out.trans (hb.mono HB2.out.size)); have HZ3 := Lib.hid (HZ2.out.grown hb); clear hb b0 b1 b2 b3 b4 b5 b6 b7 b8 b9; have b0 := HRow3.out.cell (i := 0) rfl; have b1 := HRow3.out.cell (i := 1) rfl; have b2 := HRow3.out.cell (i := 2) rfl; have b3 := HRow3.out.cell (i := 3) rfl; have b4 := HRow3.out.cell (i := 4) rfl; have b5 := HRow3.out.cell (i := 5) rfl; have b6 := HRow3.out.cell (i := 6) rfl; have b7 := HRow3.out.cell (i := 7) rfl; have b8 := HRow3.out.cell (i := 8) rfl; have b9 := HRow3.out.cell (i := 9) rfl; have c0 := HRes3.out.cell (i := 0) rfl; have g0 := HRes3.out.free 0; have c1 := HRes3.out.cell (i := 1) rfl; have g1 := HRes3.out.free 1; have c2 := HRes3.out.cell (i := 2) rfl; have g2 := HRes3.out.free 2; have c3 := HRes3.out.cell (i := 3) rfl; have g3 := HRes3.out.free 3; have c4 := HRes3.out.cell (i := 4) rfl; have g4 := HRes3.out.free 4; have c5 := HRes3.out.cell (i := 5) rfl; have g5 := HRes3.out.free 5; have c6 := HRes3.out.cell (i := 6) rfl; have g6 := HRes3.out.free 6; have c7 := HRes3.out.cell (i := 7) rfl; have g7 := HRes3.out.free 7; have c8 := HRes3.out.cell (i := 8) rfl; have g8 := HRes3.out.free 8; have c9 := HRes3.out.cell (i := 9) rfl; have g9 := HRes3.out.free 9)
        obtain ⟨q1, q2⟩ := put_ten HRes3.out (.int .i64 (v1 : Int)) (.int .i64 (v2 : Int)) (.int .i64 (v3 : Int)) (.int .i64 (v1 : Int)) (.slice dp v4.length dc) (.string (txt v5)) (.string (txt v6)) (.string (txt v8)) (.bool v7) (.int .i64 (v9 : Int))
        refine bodyPost_ret (results_cell_tmp Try.results23 _ _ w.heap.size 47 _ (0, 0) _ rfl q1 Try.underlying47 rfl (by kernel_rfl)) rfl ?_
        refine ⟨?_, HB3.out.trans (q2.below HB3.out.size)⟩
        unfold DecIs
        rw [HDs.out]
        refine ⟨dp, dc, ?_, HZ3.out.but q2 (fun a ha => by have := HBk.out a ha; omega)⟩
        simp only [readV, WriteV.val, HLn.out]
        rfl
      | false =>
        rw [hrt] at hR hDD
        have HRt := Lib.hid hR
        have HDn := Lib.hid (show decW (nats s) = none by rw [hDD]; simp)
        have HA := Lib.hid (fun w1 => at_chain ⟨#[119, 105, 114, 101]⟩ (0 : Int) [] (2 : Int) (.iface 51 (.int .i64 (2 : Int))) w1 rfl)
        clear hR hDD hrt hf
        have b0 := HRow2.out.cell (i := 0) rfl
        have b1 := HRow2.out.cell (i := 1) rfl
        have b2 := HRow2.out.cell (i := 2) rfl
        have b3 := HRow2.out.cell (i := 3) rfl
        have b4 := HRow2.out.cell (i := 4) rfl
        have b5 := HRow2.out.cell (i := 5) rfl
        have b6 := HRow2.out.cell (i := 6) rfl
        have b7 := HRow2.out.cell (i := 7) rfl
        have b8 := HRow2.out.cell (i := 8) rfl
        have b9 := HRow2.out.cell (i := 9) rfl
        go_wp2_with (first
          | (go_at_call 43; refine HRt.out.mono ?_; rintro e w3 ⟨rfl, hb⟩; have HRes3 := Lib.hid (HRes2.out.below hb); have HB3 := Lib.hid (HB2.out.trans (hb.mono HB2.out.size)); clear hb b0 b1 b2 b3 b4 b5 b6 b7 b8 b9)
          | (go_at_call 37; refine (HA.out _).mono ?_; rintro e w4 ⟨r, rfl, hc, hb⟩; have HC := Lib.hid hc; have HRes4 := Lib.hid (HRes3.out.below hb); have HB4 := Lib.hid (HB3.out.trans (hb.mono HB3.out.size)); clear hc hb; have c0 := HRes4.out.cell (i := 0) rfl; have g0 := HRes4.out.free 0; have c1 := HRes4.out.cell (i := 1) rfl; have g1 := HRes4.out.free 1; have c2 := HRes4.out.cell (i := 2) rfl; have g2 := HRes4.out.free 2; have c3 := HRes4.out.cell (i := 3) rfl; have g3 := HRes4.out.free 3; have c4 := HRes4.out.cell (i := 4) rfl; have g4 := HRes4.out.free 4; have c5 := HRes4.out.cell (i := 5) rfl; have g5 := HRes4.out.free 5; have c6 := HRes4.out.cell (i := 6) rfl; have g6 := HRes4.out.free 6; have c7 := HRes4.out.cell (i := 7) rfl; have g7 := HRes4.out.free 7; have c8 := HRes4.out.cell (i := 8) rfl; have g8 := HRes4.out.free 8; have c9 := HRes4.out.cell (i := 9) rfl; have g9 := HRes4.out.free 9))
        obtain ⟨q1, q2⟩ := put_ten HRes4.out (.int .i64 0) (.int .i64 0) (.int .i64 0) (.int .i64 0) (.slice none 0 0) (.string ⟨#[]⟩) (.string ⟨#[]⟩) (.string ⟨#[]⟩) (.bool false) (.int .i64 0)
        refine bodyPost_ret (results_cell_tmp Try.results23 _ _ w.heap.size 47 _ (0, 0) _ rfl q1 Try.underlying47 rfl (by kernel_rfl)) rfl ?_
        exact ⟨by unfold DecIs; rw [HDn.out]; exact ⟨_, _, rfl, chain_but q2 HC.out HRes4.out⟩, HB4.out.trans (q2.below HB4.out.size)⟩
end Go.Proofs.Ytpmhfoleafjlbaa
