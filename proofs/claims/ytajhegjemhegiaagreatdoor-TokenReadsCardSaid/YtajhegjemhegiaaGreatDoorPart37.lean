/-
  Texts of one claim, merged.
  WireRefRead: The contract of the document's own ReadWrite of chapter 5: the right write whose bytes these are, or none. The condition: a text of at most 200,000 bytes.
  TokenOnly: TokenOnly's contract. The conditions: the program's contracts; mac's table.
-/
import Derived.Test.YtajhegjemhegiaaGreatDoorPart20
import Derived.Test.YtajhegjemhegiaaGreatDoorPart25
import Derived.Test.YtajhegjemhegiaaGreatDoorPart36
import Derived.Test.YtajhegjemhegiaaGreatDoorPart21
namespace Go.Proofs.YtajhegjemhegiaaGreatDoor
open Go.RowKit TextNat

theorem ref_step {w w1 w2 : World} {pb b i : Nat} {s : ByteArray} {st : WireMath.At} {l lr : List Value} {T : TypeId} (v : Value) (hrow : Row w1 b l T) (hres : Row w1 w.heap.size lr T) (hbel : Below w.heap.size w w1) (hi : RefAt w2 pb s st) (hb : But pb w1 w2) (h1 : pb = w.heap.size + 1) (h2 : b = w.heap.size + 1 + 1) :
    Row w2 b l T ∧ Row (w2.setCell ⟨b, i, none⟩ v) b (l.set i v) T ∧ Row (w2.setCell ⟨b, i, none⟩ v) w.heap.size lr T ∧ Below w.heap.size w (w2.setCell ⟨b, i, none⟩ v) ∧ RefAt (w2.setCell ⟨b, i, none⟩ v) pb s st := by
  have k1 : Row w2 b l T := hrow.but hb (by omega)
  have k2 : Row w2 w.heap.size lr T := hres.but hb (by omega)
  have hbs := hbel.size
  have hpl := hrow.lt
  exact ⟨k1, k1.set i v, k2.but (But.set b i w2 v) (by omega), (hbel.trans ((hb.below (by omega)).mono (by omega))).trans ((But.set b i w2 v).below (by have := hb.size; omega) |>.mono (by omega)), hi.keep (But.set b i w2 v) (by omega)⟩
def readW (l : List Nat) : Option WireMath.WriteT := WireMath.whole l (WireMath.readWriteT l 4611686018427387903 4611686018427387903 4611686018427387903 4611686018427387903 4611686018427387903 4611686018427387903 4611686018427387903) WireMath.rightWriteT
/-- What ReadWrite answers. -/
def ReadIs (w : World) (l : List Nat) (e : Ending) : Prop :=
  match readW l with
  | some v => ∃ dp dc, e = .returned (.tuple #[(readV v dp dc).val, .bool true]) ∧ Ints w dp (v.2.2.2.1.map Int.ofNat)
  | none => e = .returned (.tuple #[zeroW, .bool false])

end Go.Proofs.YtajhegjemhegiaaGreatDoor
namespace Go.Proofs.YtajhegjemhegiaaGreatDoor
open Go.RowKit TextNat TokenMath

/-- Right claims that were read are few. -/
theorem few_right {x : ClaimsV} (h : RightIsC x) : x.few := by
  obtain ⟨h1, h2, h3, h4, h5, h6⟩ := h
  rw [trimmed_whole] at h6
  simp only [Bool.and_eq_true, decide_eq_true_eq] at h6
  have := h6.1.1
  exact ⟨⟨by omega, by omega, by omega, by omega⟩, by omega⟩
theorem few_read {v : WireMath.ClaimsT} (h : WireMath.rightClaimsT v = true) (dp : Option Addr) (dc : Nat) : (readCV v dp dc).few :=
  few_right ((rightC_iff _).1 (by rw [readCV_right]; exact h))
theorem readCV_plain {v : WireMath.ClaimsT} (h : Octs v) (dp : Option Addr) (dc : Nat) : (readCV v dp dc).t = v := by
  obtain ⟨v1, v2, v3, v4, v5, v6⟩ := v
  have h6 : (v6.map Int.ofNat).map Int.toNat = v6 := by
    rw [List.map_map]
    conv => rhs; rw [← List.map_id v6]
    exact List.map_congr_left fun z _ => rfl
  simp only [readCV, ClaimsV.t, nats_txt _ h.session, nats_txt _ h.user, h6]
  rfl
theorem keyed_read (v : WireMath.ClaimsT) (dp : Option Addr) (dc : Nat) : (readCV v dp dc).keyed ((keyN v : Nat) : Int) = readCV v dp dc := rfl
theorem key_right {v : WireMath.ClaimsT} (h : WireMath.rightClaimsT v = true) : keyN v ≤ 1099511627776 := by
  unfold WireMath.rightClaimsT at h
  simp only [Bool.and_eq_true, decide_eq_true_eq] at h
  exact h.1.2
/-- What was read is minted again, byte by byte, by a ring of its key. -/
theorem mint_read {w : World} {m s : ByteArray} {alive : Nat → Bool} {v : WireMath.ClaimsT} {dp : Option Addr} {dc : Nat} {e : Ending} (h : readF alive (nats m) (nats s) = some v) (hM : MintIs w m ((keyN v : Nat) : Int) (readCV v dp dc) e) :
    e = .returned (.tuple #[.string s, .nilIface]) := by
  obtain ⟨h1, h2, _, h4⟩ := readF_iff.1 h
  unfold MintIs at hM
  rw [keyed_read, readCV_right, if_pos h1, readCV_plain h2, ← h4, txt_nats] at hM
  exact hM
end Go.Proofs.YtajhegjemhegiaaGreatDoor
