/-
  Texts of one claim, merged.
  WireDec: The contract of the program's DecodeWrite of chapter 5: the right write whose bytes these are, or an error. The condition: a text of at most 200,000 bytes.
  RingAwake: The example of chapter 11, as its laws ask it; the document's own two functions. The conditions: the program's contracts; mac's table.
-/
import Derived.Test.YtajhegjemhegiaaDoorPart18
import Derived.Test.YtajhegjemhegiaaDoorPart19
import Derived.Test.YtajhegjemhegiaaDoorWireInText
import Derived.Test.YtajhegjemhegiaaDoorPart17
import Derived.Test.YtajhegjemhegiaaDoorPart08
import Derived.OwnWalk
namespace Go.Proofs.YtajhegjemhegiaaDoor
open Go.RowKit TextNat

/-- A write that was read, as a value. -/
def readV (v : WireMath.WriteT) (dp : Option Addr) (dc : Nat) : WriteV := ⟨v.1, v.2.1, v.2.2.1, v.1, dp, v.2.2.2.1.map Int.ofNat, dc, txt v.2.2.2.2.1, txt v.2.2.2.2.2.1, txt v.2.2.2.2.2.2.2.1, v.2.2.2.2.2.2.1, v.2.2.2.2.2.2.2.2⟩
def zeroW : Value := .agg #[.int .i64 0, .int .i64 0, .int .i64 0, .int .i64 0, .slice none 0 0, .string ⟨#[]⟩, .string ⟨#[]⟩, .string ⟨#[]⟩, .bool false, .int .i64 0]
def decW (l : List Nat) : Option WireMath.WriteT := WireMath.whole l (WireMath.readWriteT l 16 1099511627776 1099511627776 64 32 128 1099511627776) WireMath.rightWriteT
theorem readV_right (v : WireMath.WriteT) (dp : Option Addr) (dc : Nat) : (readV v dp dc).right = WireMath.rightWriteT v := by
  rw [Bool.eq_iff_iff, right_iff]
  constructor
  · intro h
    have ht := right_t h
    obtain ⟨v1, v2, v3, v4, v5, v6, v7, v8, v9⟩ := v
    obtain ⟨h1, h2, h3, h4, h5, h6, h7, h8, h9, h10⟩ := h
    simp only [readV, txt_len] at h1 h2 h3 h5 h6 h7 h8 h9 h10
    unfold WireMath.rightWriteT
    simp only [Bool.and_eq_true, Bool.or_eq_true, decide_eq_true_eq, Bool.not_eq_true']
    unfold WireMath.big at *
    refine ⟨⟨⟨⟨⟨⟨⟨⟨⟨⟨⟨⟨?_, ?_⟩, ?_⟩, ?_⟩, ?_⟩, ?_⟩, h5⟩, ?_⟩, ?_⟩, ?_⟩, ?_⟩, ?_⟩, ?_⟩ <;> first | exact h9 | omega
  · intro h
    obtain ⟨v1, v2, v3, v4, v5, v6, v7, v8, v9⟩ := v
    unfold WireMath.rightWriteT at h
    simp only [Bool.and_eq_true, Bool.or_eq_true, decide_eq_true_eq, Bool.not_eq_true'] at h
    obtain ⟨⟨⟨⟨⟨⟨⟨⟨⟨⟨⟨⟨h1, h2⟩, h3⟩, h4⟩, h5⟩, h6⟩, h7⟩, h8⟩, h9⟩, h10⟩, h11⟩, h12⟩, h13⟩ := h
    unfold WireMath.big at *
    unfold readV
    refine ⟨?_, ?_, ?_, rfl, h7, ?_, ?_, ?_, ?_, ?_⟩ <;> simp only [txt_len] <;> first | exact h12 | omega
theorem readVec_len (l : List Nat) (st : WireMath.At) : (WireMath.readVec l st).1.length ≤ 16 := by
  obtain ⟨a, bad⟩ := st
  cases bad with
  | some b => exact Nat.zero_le _
  | none =>
    unfold WireMath.readVec
    simp only
    split
    · exact Nat.zero_le _
    · split
      · rename_i h
        exact (WireMath.trimmed_counts h).1
      · exact Nat.zero_le _
/-- A row of cells that lies in block b. -/
def Row (w : World) (b : Nat) (l : List Value) (T : TypeId) : Prop := w.heap[b]? = some (.cells l.toArray T (0, 0))
theorem Row.lt {w : World} {b : Nat} {l : List Value} {T : TypeId} (h : Row w b l T) : b < w.heap.size := (Array.getElem?_eq_some_iff.1 h).1
theorem Row.cell {w : World} {b i : Nat} {l : List Value} {T : TypeId} {v : Value} (h : Row w b l T) (hv : l[i]? = some v) : w.cell? ⟨b, i, none⟩ = some v := by
  rw [cell_of_row w b i _ T (0, 0) h]
  simp [hv]
theorem Row.free {w : World} {b : Nat} {l : List Value} {T : TypeId} (h : Row w b l T) (i : Nat) : w.frozen? ⟨b, i, none⟩ = false := frozen_of_row w b i _ T h
theorem Row.set {w : World} {b : Nat} {l : List Value} {T : TypeId} (h : Row w b l T) (i : Nat) (v : Value) : Row (w.setCell ⟨b, i, none⟩ v) b (l.set i v) T := by
  have := heap_setCell_same (i := i) w b _ T v h
  unfold Row
  rw [this]
  simp
theorem Row.but {w w' : World} {b pb : Nat} {l : List Value} {T : TypeId} (h : Row w b l T) (hb : But pb w w') (hn : b ≠ pb) : Row w' b l T := (hb.block b h.lt hn).trans h
theorem Row.below {w w' : World} {b : Nat} {l : List Value} {T : TypeId} (h : Row w b l T) (hb : Below w.heap.size w w') : Row w' b l T := (hb.block b h.lt).trans h
theorem Row.new (w : World) (l : List Value) (T : TypeId) : Row (w.alloc (.cells l.toArray T)) w.heap.size l T := heap_alloc_new w _
def zeros : List Value := [.int .i64 0, .int .i64 0, .int .i64 0, .int .i64 0, .slice none 0 0, .string ⟨#[]⟩, .string ⟨#[]⟩, .string ⟨#[]⟩, .bool false, .int .i64 0]
theorem decode_step {w w1 w2 : World} {pb b i : Nat} {s : ByteArray} {st : WireMath.At} {l lr : List Value} {T : TypeId} (v : Value) (hrow : Row w1 b l T) (hres : Row w1 w.heap.size lr T) (hbel : Below w.heap.size w w1) (hi : InAt w2 pb s st) (hb : But pb w1 w2) (h1 : pb = w.heap.size + 1) (h2 : b = w.heap.size + 1 + 1) :
    Row w2 b l T ∧ Row (w2.setCell ⟨b, i, none⟩ v) b (l.set i v) T ∧ Row (w2.setCell ⟨b, i, none⟩ v) w.heap.size lr T ∧ Below w.heap.size w (w2.setCell ⟨b, i, none⟩ v) ∧ InAt (w2.setCell ⟨b, i, none⟩ v) pb s st := by
  have k1 : Row w2 b l T := hrow.but hb (by omega)
  have k2 : Row w2 w.heap.size lr T := hres.but hb (by omega)
  have hbs := hbel.size
  have hpl := hrow.lt
  exact ⟨k1, k1.set i v, k2.but (But.set b i w2 v) (by omega), (hbel.trans ((hb.below (by omega)).mono (by omega))).trans ((But.set b i w2 v).below (by have := hb.size; omega) |>.mono (by omega)), hi.keep (But.set b i w2 v) (by omega)⟩

theorem Row.row {w : World} {b : Nat} {l : List Value} {T : TypeId} (h : Row w b l T) (l' : List Value) : Row (w.setRow b l'.toArray) b l' T := setRow_heap w b _ _ T _ h
theorem but_setRow (b : Nat) (w : World) (C : Array Value) : But b w (w.setRow b C) :=
  ⟨rfl, rfl, rfl, by simp, fun k _ hn => setRow_other w b k C hn⟩
theorem chain_but {w w' : World} {b B : Nat} {l : List Value} {T : TypeId} {t : ByteArray} {n c z : Int} {r : Value} (hb : But b w w') (h : Chain B w [(t, n)] (.iface 40 (.int .i64 c)) r) (hrow : Row w b (.int .i64 z :: l) T) : Chain w'.heap.size w' [(t, n)] (.iface 40 (.int .i64 c)) r := by
  obtain ⟨q, u, h1, h2, h3, h4, h5, h6⟩ := h
  have hne : q ≠ b := fun e => by
    subst e
    have := hrow.cell (i := 0) rfl
    rw [h3] at this
    cases this
  exact ⟨q, u, h1, Nat.lt_of_lt_of_le (cell_lt h3) hb.size, (hb.cell (cell_lt h3) hne).trans h3, (hb.cell (cell_lt h4) hne).trans h4, (hb.cell (cell_lt h5) hne).trans h5, h6⟩
theorem put_ten {w : World} {b : Nat} {T : TypeId} (h : Row w b zeros T) (u0 u1 u2 u3 u4 u5 u6 u7 u8 u9 : Value) : Row ((((((((((w.setCell ⟨b, 0, none⟩ u0).setCell ⟨b, 1, none⟩ u1).setCell ⟨b, 2, none⟩ u2).setCell ⟨b, 3, none⟩ u3).setCell ⟨b, 4, none⟩ u4).setCell ⟨b, 5, none⟩ u5).setCell ⟨b, 6, none⟩ u6).setCell ⟨b, 7, none⟩ u7).setCell ⟨b, 8, none⟩ u8).setCell ⟨b, 9, none⟩ u9) b [u0, u1, u2, u3, u4, u5, u6, u7, u8, u9] T ∧ But b w ((((((((((w.setCell ⟨b, 0, none⟩ u0).setCell ⟨b, 1, none⟩ u1).setCell ⟨b, 2, none⟩ u2).setCell ⟨b, 3, none⟩ u3).setCell ⟨b, 4, none⟩ u4).setCell ⟨b, 5, none⟩ u5).setCell ⟨b, 6, none⟩ u6).setCell ⟨b, 7, none⟩ u7).setCell ⟨b, 8, none⟩ u8).setCell ⟨b, 9, none⟩ u9) :=
  ⟨((((((((((h.set 0 u0).set 1 u1).set 2 u2).set 3 u3).set 4 u4).set 5 u5).set 6 u6).set 7 u7).set 8 u8).set 9 u9), (((((((((But.set b 0 w u0).trans (But.set b 1 _ u1)).trans (But.set b 2 _ u2)).trans (But.set b 3 _ u3)).trans (But.set b 4 _ u4)).trans (But.set b 5 _ u5)).trans (But.set b 6 _ u6)).trans (But.set b 7 _ u7)).trans (But.set b 8 _ u8)).trans (But.set b 9 _ u9)⟩

/-- What DecodeWrite answers. -/
def DecIs (w : World) (l : List Nat) (e : Ending) : Prop :=
  match decW l with
  | some v => ∃ dp dc, e = .returned (.tuple #[(readV v dp dc).val, .nilIface]) ∧ Ints w dp (v.2.2.2.1.map Int.ofNat)
  | none => ∃ r k, e = .returned (.tuple #[zeroW, r]) ∧ Chain w.heap.size w [(⟨#[119, 105, 114, 101]⟩, k)] (.iface 40 (.int .i64 (2 : Int))) r

end Go.Proofs.YtajhegjemhegiaaDoor
namespace Go.Proofs.YtajhegjemhegiaaDoor
open Go.RowKit TextNat

theorem key_size (m : ByteArray) (n : Int) : (keyOf m n).size = 32 := by
  unfold keyOf
  rw [txt_len]
  rfl
end Go.Proofs.YtajhegjemhegiaaDoor
