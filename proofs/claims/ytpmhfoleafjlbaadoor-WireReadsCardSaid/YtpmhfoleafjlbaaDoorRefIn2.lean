/-
  The contracts of the document's own reader of chapter 5: Text, Flag, Fault, Read. The conditions: the reader stands where it is said; texts of at most 200,000 bytes.
-/
import Derived.Test.YtpmhfoleafjlbaaDoorRefIn
import Derived.Lib.Strings
namespace Go.Proofs.YtpmhfoleafjlbaaDoor
open Go.RowKit TextNat

theorem extract_txt (s : ByteArray) (a n : Nat) : s.extract a (a + n) = txt (((nats s).drop a).take n) := by
  apply nats_inj
  have e : nats (s.extract a (a + n)) = ((nats s).drop a).take n := by
    unfold nats
    rw [Lib.extract_data]
    simp [List.map_drop, List.map_take]
  rw [e, nats_txt]
  intro b hb
  exact nats_lt s b (List.mem_of_mem_drop (List.mem_of_mem_take hb))

set_option maxRecDepth 100000 in
theorem refFlag (pb : Nat) (s : ByteArray) (st : WireMath.At) (w : World) (h : RefAt w pb s st) (hs : s.size ≤ 200000) (ha : st.at_ ≤ s.size) :
    Calls Tryd.prog 21 #[.pointer (some ⟨pb, 0, none⟩)] w fun e w' => e = .returned (.bool (WireMath.readFlag (nats s) st).1) ∧ RefAt w' pb s (WireMath.readFlag (nats s) st).2 ∧ But pb w w' := by
  have HN := Lib.hid (refNum pb s st 1 w h hs ha)
  unfold WireMath.readFlag
  obtain ⟨v, hv⟩ : ∃ v, v = (WireMath.readNum (nats s) st 1).1 := ⟨_, rfl⟩
  rw [← hv] at HN ⊢
  clear h hv
  go_enter Tryd.func21, Tryd.ntmps21
  go_wp2_with (go_at_call 26; refine HN.out.mono ?_; rintro e w2 ⟨rfl, hR, hb⟩)
  go_ret
  refine ⟨?_, hR, hb⟩
  show Ending.returned (Value.bool _) = Ending.returned (Value.bool _)
  congr 2
  rw [Bool.eq_iff_iff]
  simp
  omega

def faultI : Option Nat → Int
  | none => -1
  | some b => (b : Int)
set_option maxRecDepth 100000 in
theorem refFault (pb : Nat) (s : ByteArray) (st : WireMath.At) (w : World) (h : RefAt w pb s st) :
    Calls Tryd.prog 27 #[.pointer (some ⟨pb, 0, none⟩)] w fun e w' => e = .returned (.int .i64 (faultI (WireMath.faultAt (nats s) st))) ∧ ∃ n, w' = w.drewN n := by
  obtain ⟨at_, bad⟩ := st
  have c0 := h.text
  have c1 : w.cell? ⟨pb, 1, none⟩ = some (.int .i64 (at_ : Int)) := h.at_
  have c2 := h.bad
  cases bad with
  | some b =>
    have t1 : decide ((0 : Int) ≤ (b : Int)) = true := decide_eq_true (by omega)
    have c2' : w.cell? ⟨pb, 2, none⟩ = some (.int .i64 (b : Int)) := c2
    clear h c2
    go_enter Tryd.func27, Tryd.ntmps27
    go_wp2
    go_ret
    exact ⟨rfl, 0, rfl⟩
  | none =>
    have c2' : w.cell? ⟨pb, 2, none⟩ = some (.int .i64 (-1)) := c2
    have HF : WireMath.faultAt (nats s) ⟨at_, none⟩ = if at_ < s.size then some at_ else none := by unfold WireMath.faultAt; rw [nats_len]
    rw [HF]
    clear h c2 HF
    by_cases hlt : at_ < s.size
    · have t2 : decide ((at_ : Int) < (s.size : Int)) = true := decide_eq_true (by omega)
      rw [if_pos hlt]
      go_enter Tryd.func27, Tryd.ntmps27
      go_wp2
      go_quiet (fail)
      go_wp2
      go_ret
      exact ⟨rfl, _, rfl⟩
    · have t2 : decide ((at_ : Int) < (s.size : Int)) = false := decide_eq_false (by omega)
      rw [if_neg hlt]
      go_enter Tryd.func27, Tryd.ntmps27
      go_wp2
      go_quiet (fail)
      go_wp2
      go_ret
      exact ⟨rfl, _, rfl⟩

set_option maxRecDepth 100000 in
theorem refRead (s : ByteArray) (w : World) :
    Calls Tryd.prog 17 #[.string s] w fun e w' => e = .returned (.pointer (some ⟨w.heap.size, 0, none⟩)) ∧ RefAt w' w.heap.size s ⟨0, none⟩ ∧ Below w.heap.size w w' ∧ w'.heap.size = w.heap.size + 1 := by
  go_enter Tryd.func17, Tryd.ntmps17
  go_wp2
  go_ret
  refine ⟨rfl, ⟨by simp, by simp, by simp [badI], by simp, by simp⟩, (Below.refl _ _).alloc (Nat.le_refl _) _, by simp⟩
end Go.Proofs.YtpmhfoleafjlbaaDoor
