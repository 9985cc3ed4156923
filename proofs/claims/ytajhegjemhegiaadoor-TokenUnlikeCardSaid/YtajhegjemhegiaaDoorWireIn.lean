/-
  The contracts of the program's In of chapter 5: refuse, Num, Flag, Left, Read. The conditions: the reader stands where it is said; texts of at most 200,000 bytes.
-/
import Derived.Test.YtajhegjemhegiaaDoorWireNumber
namespace Go.Proofs.YtajhegjemhegiaaDoor
open Go.RowKit TextNat

/-- The program's reader stands in block pb. -/
structure InAt (w : World) (pb : Nat) (s : ByteArray) (st : WireMath.At) : Prop where
  text : w.cell? ⟨pb, 0, none⟩ = some (.string s)
  at_ : w.cell? ⟨pb, 1, none⟩ = some (.int .i64 (st.at_ : Int))
  fault : w.cell? ⟨pb, 2, none⟩ = some (.bool st.bad.isSome)
  free1 : w.frozen? ⟨pb, 1, none⟩ = false
  free2 : w.frozen? ⟨pb, 2, none⟩ = false
  wf : ∀ b, st.bad = some b → b = st.at_
theorem InAt.lt {w : World} {pb : Nat} {s : ByteArray} {st : WireMath.At} (h : InAt w pb s st) : pb < w.heap.size := cell_lt h.text
theorem InAt.below {w w' : World} {pb : Nat} {s : ByteArray} {st : WireMath.At} (h : InAt w pb s st) (hb : Below w.heap.size w w') : InAt w' pb s st :=
  ⟨(hb.cell (p := ⟨pb, 0, none⟩) h.lt).trans h.text, (hb.cell (p := ⟨pb, 1, none⟩) h.lt).trans h.at_, (hb.cell (p := ⟨pb, 2, none⟩) h.lt).trans h.fault, (hb.frozen (p := ⟨pb, 1, none⟩) h.lt).trans h.free1, (hb.frozen (p := ⟨pb, 2, none⟩) h.lt).trans h.free2, h.wf⟩
theorem InAt.keep {w w' : World} {pb qb : Nat} {s : ByteArray} {st : WireMath.At} (h : InAt w pb s st) (hb : But qb w w') (hq : pb ≠ qb) : InAt w' pb s st :=
  ⟨(hb.cell h.lt hq).trans h.text, (hb.cell h.lt hq).trans h.at_, (hb.cell h.lt hq).trans h.fault, (hb.frozen h.lt hq).trans h.free1, (hb.frozen h.lt hq).trans h.free2, h.wf⟩
theorem InAt.drewN {w : World} {pb : Nat} {s : ByteArray} {st : WireMath.At} (n : Nat) (h : InAt w pb s st) : InAt (w.drewN n) pb s st := ⟨h.text, h.at_, h.fault, h.free1, h.free2, h.wf⟩
theorem InAt.setAt {w : World} {pb n : Nat} {s : ByteArray} {a : Nat} (h : InAt w pb s ⟨a, none⟩) : InAt (w.setCell ⟨pb, 1, none⟩ (.int .i64 (n : Int))) pb s ⟨n, none⟩ :=
  ⟨(World.cell?_setCell_other _ ⟨pb, 1, none⟩ ⟨pb, 0, none⟩ _ (by simp)).trans h.text, World.cell?_setCell_same _ _ _ h.at_, (World.cell?_setCell_other _ ⟨pb, 1, none⟩ ⟨pb, 2, none⟩ _ (by simp)).trans h.fault, by rw [World.frozen?_setCell]; exact h.free1, by rw [World.frozen?_setCell]; exact h.free2, fun b hb => by cases hb⟩
theorem InAt.setBad {w : World} {pb n : Nat} {s : ByteArray} {st : WireMath.At} (h : InAt w pb s st) : InAt ((w.setCell ⟨pb, 2, none⟩ (.bool true)).setCell ⟨pb, 1, none⟩ (.int .i64 (n : Int))) pb s ⟨n, some n⟩ :=
  ⟨(World.cell?_setCell_other _ ⟨pb, 1, none⟩ ⟨pb, 0, none⟩ _ (by simp)).trans ((World.cell?_setCell_other _ ⟨pb, 2, none⟩ ⟨pb, 0, none⟩ _ (by simp)).trans h.text), World.cell?_setCell_same _ _ _ ((World.cell?_setCell_other _ ⟨pb, 2, none⟩ ⟨pb, 1, none⟩ _ (by simp)).trans h.at_), (World.cell?_setCell_other _ ⟨pb, 1, none⟩ ⟨pb, 2, none⟩ _ (by simp)).trans (World.cell?_setCell_same _ _ _ h.fault), by rw [World.frozen?_setCell, World.frozen?_setCell]; exact h.free1, by rw [World.frozen?_setCell, World.frozen?_setCell]; exact h.free2, fun b hb => by cases hb; rfl⟩

set_option maxRecDepth 100000 in
theorem inRefuse_ok (pb n : Nat) (s : ByteArray) (st : WireMath.At) (w : World) (h : InAt w pb s st) :
    Calls Tryd.prog 75 #[.pointer (some ⟨pb, 0, none⟩), .int .i64 (n : Int)] w fun e w' => e = .returned (.tuple #[]) ∧ InAt w' pb s ⟨n, some n⟩ ∧ But pb w w' := by
  have c1 := h.at_
  have c2 := h.fault
  have g1 := h.free1
  have g2 := h.free2
  have HR := Lib.hid (h.setBad (n := n))
  clear h
  go_enter Tryd.func75, Tryd.ntmps75
  go_wp2
  go_end0
  exact ⟨rfl, HR.out, (But.set pb 2 w _).trans (But.set pb 1 _ _)⟩

theorem number_some (s : ByteArray) (at_ v k : Nat) (w : World) (hs : s.size ≤ 140737488355328) (ha : at_ ≤ s.size) (h : WireMath.rawF 9 ((nats s).drop at_) = some (v, k)) (hv : v ≤ WireMath.top) :
    Calls Tryd.prog 76 #[.string s, .int .i64 (at_ : Int)] w fun e w' => e = .returned (.tuple #[.int .i64 (v : Int), .int .i64 ((at_ + k : Nat) : Int), .bool true]) ∧ Below w.heap.size w w' := by
  refine (number_ok s at_ w hs ha).mono ?_
  rintro e w' ⟨hn, hb⟩
  rcases hn with ⟨v', k', h1, _, h2⟩ | ⟨h1, _⟩
  · rw [h] at h1
    obtain ⟨rfl, rfl⟩ := Prod.mk.inj (Option.some.inj h1)
    exact ⟨h2, hb⟩
  · have := h1 v k h
    omega
theorem number_none (s : ByteArray) (at_ : Nat) (w : World) (hs : s.size ≤ 140737488355328) (ha : at_ ≤ s.size) (h : ∀ v k, WireMath.rawF 9 ((nats s).drop at_) = some (v, k) → WireMath.top < v) :
    Calls Tryd.prog 76 #[.string s, .int .i64 (at_ : Int)] w fun e w' => ∃ a b : Int, e = .returned (.tuple #[.int .i64 a, .int .i64 b, .bool false]) ∧ Below w.heap.size w w' := by
  refine (number_ok s at_ w hs ha).mono ?_
  rintro e w' ⟨hn, hb⟩
  rcases hn with ⟨v', k', h1, h3, _⟩ | ⟨_, a, b, h2⟩
  · have := h v' k' h1
    omega
  · exact ⟨a, b, h2, hb⟩

set_option maxRecDepth 100000 in
set_option maxHeartbeats 4000000 in
theorem inNum_ok (pb : Nat) (s : ByteArray) (st : WireMath.At) (most : Int) (w : World) (h : InAt w pb s st) (hs : s.size ≤ 140737488355328) (ha : st.at_ ≤ s.size) :
    Calls Tryd.prog 55 #[.pointer (some ⟨pb, 0, none⟩), .int .i64 most] w fun e w' => e = .returned (.int .i64 ((WireMath.readNum (nats s) st most).1 : Nat)) ∧ InAt w' pb s (WireMath.readNum (nats s) st most).2 ∧ But pb w w' := by
  obtain ⟨at_, bad⟩ := st
  have c0 := h.text
  have c1 := h.at_
  have c2 := h.fault
  cases bad with
  | some b =>
    have HR := Lib.hid h
    have c2' : w.cell? ⟨pb, 2, none⟩ = some (.bool true) := c2
    clear h c2
    go_enter Tryd.func55, Tryd.ntmps55
    go_wp2
    go_ret
    exact ⟨rfl, HR.out, But.refl _ _⟩
  | none =>
    have c2' : w.cell? ⟨pb, 2, none⟩ = some (.bool false) := c2
    simp only at c1 ha
    have hcase : (∃ v k, WireMath.rawF 9 ((nats s).drop at_) = some (v, k) ∧ v ≤ WireMath.top) ∨ (∀ v k, WireMath.rawF 9 ((nats s).drop at_) = some (v, k) → WireMath.top < v) := by
      cases hr : WireMath.rawF 9 ((nats s).drop at_) with
      | none => exact .inr (fun v k h => by cases h)
      | some q =>
        obtain ⟨v, k⟩ := q
        by_cases hv : v ≤ WireMath.top
        · exact .inl ⟨v, k, rfl, hv⟩
        · refine .inr (fun v' k' h => ?_)
          obtain ⟨rfl, rfl⟩ := Prod.mk.inj (Option.some.inj h)
          omega
    have HRf := Lib.hid (fun w1 (h1 : InAt w1 pb s ⟨at_, none⟩) => inRefuse_ok pb at_ s ⟨at_, none⟩ w1 h1)
    rcases hcase with ⟨v, k, hr, hv⟩ | hno
    · have HN := Lib.hid (fun w1 => number_some s at_ v k w1 hs ha hr hv)
      have HR := Lib.hid h
      obtain ⟨en, hen⟩ : ∃ en, en = at_ + k := ⟨_, rfl⟩
      rw [← hen] at HN
      by_cases hm : (v : Int) ≤ most
      · have HF := Lib.hid (WireMath.readNum_ok hr hm hv)
        have t1 : decide (most < (v : Int)) = false := decide_eq_false (by omega)
        rw [← hen] at HF
        clear h c2 hr hen
        go_enter Tryd.func55, Tryd.ntmps55
        go_wp2
        go_region_with (go_at_call 76; refine (HN.out _).mono ?_; rintro e w2 ⟨rfl, hb⟩; have HB2 := Lib.hid (Below.trans (Below.refl w.heap.size w).drew hb); have HR2 := Lib.hid (HR.out.below HB2.out); have x1 := HR2.out.at_; have y1 := HR2.out.free1; clear hb)
        all_goals
          go_wp2
          go_ret
          rw [HF.out]
          exact ⟨rfl, HR2.out.setAt, (But.of HB2.out).trans (But.set pb 1 _ _)⟩
      · have HF := Lib.hid (WireMath.readNum_big hr (fun h => hm h.1))
        have t1 : decide (most < (v : Int)) = true := decide_eq_true (by omega)
        clear h c2 hr hen
        go_enter Tryd.func55, Tryd.ntmps55
        go_wp2
        go_region_with (go_at_call 76; refine (HN.out _).mono ?_; rintro e w2 ⟨rfl, hb⟩; have HB2 := Lib.hid (Below.trans (Below.refl w.heap.size w).drew hb); have HR2 := Lib.hid (HR.out.below HB2.out); have x1 := HR2.out.at_; clear hb)
        all_goals
          go_wp2_with (go_at_call 75; refine (HRf.out _ HR2.out).mono ?_; rintro e w3 ⟨rfl, hi, hb⟩)
          go_ret
          rw [HF.out]
          exact ⟨rfl, hi, (But.of HB2.out).trans hb⟩
    · have HN := Lib.hid (fun w1 => number_none s at_ w1 hs ha hno)
      have HR := Lib.hid h
      have HF := Lib.hid (show WireMath.readNum (nats s) ⟨at_, none⟩ most = (0, ⟨at_, some at_⟩) by
        cases hr : WireMath.rawF 9 ((nats s).drop at_) with
        | none => exact WireMath.readNum_none hr
        | some q =>
          obtain ⟨v, k⟩ := q
          exact WireMath.readNum_big hr (fun h => by have := hno v k hr; omega))
      clear h c2 hno
      go_enter Tryd.func55, Tryd.ntmps55
      go_wp2
      go_region_with (go_at_call 76; refine (HN.out _).mono ?_; rintro e w2 ⟨a, b, rfl, hb⟩; have HB2 := Lib.hid (Below.trans (Below.refl w.heap.size w).drew hb); have HR2 := Lib.hid (HR.out.below HB2.out); have x1 := HR2.out.at_; clear hb)
      all_goals
        go_wp2_with (go_at_call 75; refine (HRf.out _ HR2.out).mono ?_; rintro e w3 ⟨rfl, hi, hb⟩)
        go_ret
        rw [HF.out]
        exact ⟨rfl, hi, (But.of HB2.out).trans hb⟩

/-- How much is left. -/
def leftOf (s : ByteArray) (st : WireMath.At) : Nat := if st.bad.isSome then 0 else s.size - st.at_
set_option maxRecDepth 100000 in
theorem inLeft_ok (pb : Nat) (s : ByteArray) (st : WireMath.At) (w : World) (h : InAt w pb s st) (hs : s.size ≤ 140737488355328) (ha : st.at_ ≤ s.size) :
    Calls Tryd.prog 74 #[.pointer (some ⟨pb, 0, none⟩)] w fun e w' => e = .returned (.int .i64 (leftOf s st : Int)) ∧ ∃ n, w' = w.drewN n := by
  obtain ⟨at_, bad⟩ := st
  have c0 := h.text
  have c1 := h.at_
  have c2 := h.fault
  simp only at c1 ha
  cases bad with
  | some b =>
    have c2' : w.cell? ⟨pb, 2, none⟩ = some (.bool true) := c2
    clear h c2
    go_enter Tryd.func74, Tryd.ntmps74
    go_wp2
    go_ret
    exact ⟨rfl, 0, rfl⟩
  | none =>
    have c2' : w.cell? ⟨pb, 2, none⟩ = some (.bool false) := c2
    have HF := Lib.hid (show ((leftOf s ⟨at_, none⟩ : Nat) : Int) = (s.size : Int) - (at_ : Int) by unfold leftOf; simp; omega)
    clear h c2
    go_enter Tryd.func74, Tryd.ntmps74
    go_wp2
    go_quiet (fail)
    go_wp2
    go_ret
    rw [HF.out]
    exact ⟨rfl, _, rfl⟩
set_option maxRecDepth 100000 in
theorem inRead_ok (s : ByteArray) (w : World) :
    Calls Tryd.prog 53 #[.string s] w fun e w' => e = .returned (.pointer (some ⟨w.heap.size, 0, none⟩)) ∧ InAt w' w.heap.size s ⟨0, none⟩ ∧ Below w.heap.size w w' ∧ w'.heap.size = w.heap.size + 1 := by
  go_enter Tryd.func53, Tryd.ntmps53
  go_wp2
  go_ret
  refine ⟨rfl, ⟨by simp, by simp, by simp, by simp, by simp, fun b hb => by cases hb⟩, (Below.refl _ _).alloc (Nat.le_refl _) _, by simp⟩
end Go.Proofs.YtajhegjemhegiaaDoor
