/-
  Texts of one claim, merged.
  WireIn: The contracts of the program's In of chapter 5: refuse, Num, Flag, Left, Read. The conditions: the reader stands where it is said; texts of at most 200,000 bytes.
  Clone: The library's own contract for stringslite.Clone (what strings.Clone calls) at this program's numbers. The condition: a text of at most 2^48 bytes.
  WireInEnd: The contract of the program's In of chapter 5: End. The conditions: what came in lies in memory.
  FrameP5: The program's own reading of spelt bytes of chapter 9: gathered. No conditions but those typed.
  TextFrom: Bytes of a row from a place on, as a text. No conditions but those typed.
  FrameP6: What stands at the beginning of a text, of chapter 9: bytes.Equal, first. No conditions but those typed.
  IndexByte: The library's own contract for strings.IndexByte at this program's numbers. No conditions.
-/
import Derived.Test.YtajkldmpllphjaaDoorWireNumber
import Derived.Shelf.LaysM
import Derived.Shelf.Strconv.Clone
import Derived.Test.YtajkldmpllphjaaDoorProg
import Derived.Test.YtajkldmpllphjaaDoorPart01
import Derived.Test.YtajkldmpllphjaaDoorFrameP4
import Derived.Test.YtajkldmpllphjaaDoorPart06
import Derived.Shelf.Small.Strs
namespace Go.Proofs.YtajkldmpllphjaaDoor
open Go.RowKit TextNat

/-- The program's reader stands in block pb. -/
structure InAt (w : World) (pb : Nat) (s : ByteArray) (st : WireMath.At) : Prop where
  text : w.cell? ⟨pb, 0, none⟩ = some (.string s)
  at_ : w.cell? ⟨pb, 1, none⟩ = some (.int .i64 (st.at_ : Int))
  fault : w.cell? ⟨pb, 2, none⟩ = some (.bool st.bad.isSome)
  free1 : w.frozen? ⟨pb, 1, none⟩ = false
  free2 : w.frozen? ⟨pb, 2, none⟩ = false
  wf : ∀ b, st.bad = some b → b = st.at_
theorem InAt.lt {w : World} {pb : Nat} {s : ByteArray} {st : WireMath.At} (h : InAt w pb s st) : pb < w.heap.size := cell_lt h.text
theorem InAt.below {w w' : World} {pb : Nat} {s : ByteArray} {st : WireMath.At} (h : InAt w pb s st) (hb : Below w.heap.size w w') : InAt w' pb s st :=
  ⟨(hb.cell (p := ⟨pb, 0, none⟩) h.lt).trans h.text, (hb.cell (p := ⟨pb, 1, none⟩) h.lt).trans h.at_, (hb.cell (p := ⟨pb, 2, none⟩) h.lt).trans h.fault, (hb.frozen (p := ⟨pb, 1, none⟩) h.lt).trans h.free1, (hb.frozen (p := ⟨pb, 2, none⟩) h.lt).trans h.free2, h.wf⟩
theorem InAt.keep {w w' : World} {pb qb : Nat} {s : ByteArray} {st : WireMath.At} (h : InAt w pb s st) (hb : But qb w w') (hq : pb ≠ qb) : InAt w' pb s st :=
  ⟨(hb.cell h.lt hq).trans h.text, (hb.cell h.lt hq).trans h.at_, (hb.cell h.lt hq).trans h.fault, (hb.frozen h.lt hq).trans h.free1, (hb.frozen h.lt hq).trans h.free2, h.wf⟩
theorem InAt.drewN {w : World} {pb : Nat} {s : ByteArray} {st : WireMath.At} (n : Nat) (h : InAt w pb s st) : InAt (w.drewN n) pb s st := ⟨h.text, h.at_, h.fault, h.free1, h.free2, h.wf⟩
theorem InAt.setAt {w : World} {pb n : Nat} {s : ByteArray} {a : Nat} (h : InAt w pb s ⟨a, none⟩) : InAt (w.setCell ⟨pb, 1, none⟩ (.int .i64 (n : Int))) pb s ⟨n, none⟩ :=
  ⟨(World.cell?_setCell_other _ ⟨pb, 1, none⟩ ⟨pb, 0, none⟩ _ (by simp)).trans h.text, World.cell?_setCell_same _ _ _ h.at_, (World.cell?_setCell_other _ ⟨pb, 1, none⟩ ⟨pb, 2, none⟩ _ (by simp)).trans h.fault, by rw [World.frozen?_setCell]; exact h.free1, by rw [World.frozen?_setCell]; exact h.free2, fun b hb => by cases hb⟩
theorem InAt.setBad {w : World} {pb n : Nat} {s : ByteArray} {st : WireMath.At} (h : InAt w pb s st) : InAt ((w.setCell ⟨pb, 2, none⟩ (.bool true)).setCell ⟨pb, 1, none⟩ (.int .i64 (n : Int))) pb s ⟨n, some n⟩ :=
  ⟨(World.cell?_setCell_other _ ⟨pb, 1, none⟩ ⟨pb, 0, none⟩ _ (by simp)).trans ((World.cell?_setCell_other _ ⟨pb, 2, none⟩ ⟨pb, 0, none⟩ _ (by simp)).trans h.text), World.cell?_setCell_same _ _ _ ((World.cell?_setCell_other _ ⟨pb, 2, none⟩ ⟨pb, 1, none⟩ _ (by simp)).trans h.at_), (World.cell?_setCell_other _ ⟨pb, 1, none⟩ ⟨pb, 2, none⟩ _ (by simp)).trans (World.cell?_setCell_same _ _ _ h.fault), by rw [World.frozen?_setCell, World.frozen?_setCell]; exact h.free1, by rw [World.frozen?_setCell, World.frozen?_setCell]; exact h.free2, fun b hb => by cases hb; rfl⟩

set_option maxRecDepth 100000 in
theorem inRefuse_ok (pb n : Nat) (s : ByteArray) (st : WireMath.At) (w : World) (h : InAt w pb s st) :
    Calls Tryd.prog 69 #[.pointer (some ⟨pb, 0, none⟩), .int .i64 (n : Int)] w fun e w' => e = .returned (.tuple #[]) ∧ InAt w' pb s ⟨n, some n⟩ ∧ But pb w w' := by
  have c1 := h.at_
  have c2 := h.fault
  have g1 := h.free1
  have g2 := h.free2
  have HR := Lib.hid (h.setBad (n := n))
  clear h
  go_enter Tryd.func69, Tryd.ntmps69
  go_wp2
  go_end0
  exact ⟨rfl, HR.out, (But.set pb 2 w _).trans (But.set pb 1 _ _)⟩

theorem number_some (s : ByteArray) (at_ v k : Nat) (w : World) (hs : s.size ≤ 200000) (ha : at_ ≤ s.size) (h : WireMath.rawF 9 ((nats s).drop at_) = some (v, k)) (hv : v ≤ WireMath.top) :
    Calls Tryd.prog 68 #[.string s, .int .i64 (at_ : Int)] w fun e w' => e = .returned (.tuple #[.int .i64 (v : Int), .int .i64 ((at_ + k : Nat) : Int), .bool true]) ∧ Below w.heap.size w w' := by
  refine (number_ok s at_ w hs ha).mono ?_
  rintro e w' ⟨hn, hb⟩
  rcases hn with ⟨v', k', h1, _, h2⟩ | ⟨h1, _⟩
  · rw [h] at h1
    obtain ⟨rfl, rfl⟩ := Prod.mk.inj (Option.some.inj h1)
    exact ⟨h2, hb⟩
  · have := h1 v k h
    omega
theorem number_none (s : ByteArray) (at_ : Nat) (w : World) (hs : s.size ≤ 200000) (ha : at_ ≤ s.size) (h : ∀ v k, WireMath.rawF 9 ((nats s).drop at_) = some (v, k) → WireMath.top < v) :
    Calls Tryd.prog 68 #[.string s, .int .i64 (at_ : Int)] w fun e w' => ∃ a b : Int, e = .returned (.tuple #[.int .i64 a, .int .i64 b, .bool false]) ∧ Below w.heap.size w w' := by
  refine (number_ok s at_ w hs ha).mono ?_
  rintro e w' ⟨hn, hb⟩
  rcases hn with ⟨v', k', h1, h3, _⟩ | ⟨_, a, b, h2⟩
  · have := h v' k' h1
    omega
  · exact ⟨a, b, h2, hb⟩

set_option maxRecDepth 100000 in
set_option maxHeartbeats 4000000 in
theorem inNum_ok (pb : Nat) (s : ByteArray) (st : WireMath.At) (most : Int) (w : World) (h : InAt w pb s st) (hs : s.size ≤ 200000) (ha : st.at_ ≤ s.size) :
    Calls Tryd.prog 59 #[.pointer (some ⟨pb, 0, none⟩), .int .i64 most] w fun e w' => e = .returned (.int .i64 ((WireMath.readNum (nats s) st most).1 : Nat)) ∧ InAt w' pb s (WireMath.readNum (nats s) st most).2 ∧ But pb w w' := by
  obtain ⟨at_, bad⟩ := st
  have c0 := h.text
  have c1 := h.at_
  have c2 := h.fault
  cases bad with
  | some b =>
    have HR := Lib.hid h
    have c2' : w.cell? ⟨pb, 2, none⟩ = some (.bool true) := c2
    clear h c2
    go_enter Tryd.func59, Tryd.ntmps59
    go_wp2
    go_ret
    exact ⟨rfl, HR.out, But.refl _ _⟩
  | none =>
    have c2' : w.cell? ⟨pb, 2, none⟩ = some (.bool false) := c2
    simp only at c1 ha
    have hcase : (∃ v k, WireMath.rawF 9 ((nats s).drop at_) = some (v, k) ∧ v ≤ WireMath.top) ∨ (∀ v k, WireMath.rawF 9 ((nats s).drop at_) = some (v, k) → WireMath.top < v) := by
      cases hr : WireMath.rawF 9 ((nats s).drop at_) with
      | none => exact .inr (fun v k h => by cases h)
      | some q =>
        obtain ⟨v, k⟩ := q
        by_cases hv : v ≤ WireMath.top
        · exact .inl ⟨v, k, rfl, hv⟩
        · refine .inr (fun v' k' h => ?_)
          obtain ⟨rfl, rfl⟩ := Prod.mk.inj (Option.some.inj h)
          omega
    have HRf := Lib.hid (fun w1 (h1 : InAt w1 pb s ⟨at_, none⟩) => inRefuse_ok pb at_ s ⟨at_, none⟩ w1 h1)
    rcases hcase with ⟨v, k, hr, hv⟩ | hno
    · have HN := Lib.hid (fun w1 => number_some s at_ v k w1 hs ha hr hv)
      have HR := Lib.hid h
      obtain ⟨en, hen⟩ : ∃ en, en = at_ + k := ⟨_, rfl⟩
      rw [← hen] at HN
      by_cases hm : (v : Int) ≤ most
      · have HF := Lib.hid (WireMath.readNum_ok hr hm hv)
        have t1 : decide (most < (v : Int)) = false := decide_eq_false (by omega)
        rw [← hen] at HF
        clear h c2 hr hen
        go_enter Tryd.func59, Tryd.ntmps59
        go_wp2
        go_region_with (go_at_call 68; refine (HN.out _).mono ?_; rintro e w2 ⟨rfl, hb⟩; have HB2 := Lib.hid (Below.trans (Below.refl w.heap.size w).drew hb); have HR2 := Lib.hid (HR.out.below HB2.out); have x1 := HR2.out.at_; have y1 := HR2.out.free1; clear hb)
        all_goals
          go_wp2
          go_ret
          rw [HF.out]
          exact ⟨rfl, HR2.out.setAt, (But.of HB2.out).trans (But.set pb 1 _ _)⟩
      · have HF := Lib.hid (WireMath.readNum_big hr (fun h => hm h.1))
        have t1 : decide (most < (v : Int)) = true := decide_eq_true (by omega)
        clear h c2 hr hen
        go_enter Tryd.func59, Tryd.ntmps59
        go_wp2
        go_region_with (go_at_call 68; refine (HN.out _).mono ?_; rintro e w2 ⟨rfl, hb⟩; have HB2 := Lib.hid (Below.trans (Below.refl w.heap.size w).drew hb); have HR2 := Lib.hid (HR.out.below HB2.out); have x1 := HR2.out.at_; clear hb)
        all_goals
          go_wp2_with (go_at_call 69; refine (HRf.out _ HR2.out).mono ?_; rintro e w3 ⟨rfl, hi, hb⟩)
          go_ret
          rw [HF.out]
          exact ⟨rfl, hi, (But.of HB2.out).trans hb⟩
    · have HN := Lib.hid (fun w1 => number_none s at_ w1 hs ha hno)
      have HR := Lib.hid h
      have HF := Lib.hid (show WireMath.readNum (nats s) ⟨at_, none⟩ most = (0, ⟨at_, some at_⟩) by
        cases hr : WireMath.rawF 9 ((nats s).drop at_) with
        | none => exact WireMath.readNum_none hr
        | some q =>
          obtain ⟨v, k⟩ := q
          exact WireMath.readNum_big hr (fun h => by have := hno v k hr; omega))
      clear h c2 hno
      go_enter Tryd.func59, Tryd.ntmps59
      go_wp2
      go_region_with (go_at_call 68; refine (HN.out _).mono ?_; rintro e w2 ⟨a, b, rfl, hb⟩; have HB2 := Lib.hid (Below.trans (Below.refl w.heap.size w).drew hb); have HR2 := Lib.hid (HR.out.below HB2.out); have x1 := HR2.out.at_; clear hb)
      all_goals
        go_wp2_with (go_at_call 69; refine (HRf.out _ HR2.out).mono ?_; rintro e w3 ⟨rfl, hi, hb⟩)
        go_ret
        rw [HF.out]
        exact ⟨rfl, hi, (But.of HB2.out).trans hb⟩

/-- How much is left. -/
def leftOf (s : ByteArray) (st : WireMath.At) : Nat := if st.bad.isSome then 0 else s.size - st.at_
set_option maxRecDepth 100000 in
theorem inLeft_ok (pb : Nat) (s : ByteArray) (st : WireMath.At) (w : World) (h : InAt w pb s st) (hs : s.size ≤ 200000) (ha : st.at_ ≤ s.size) :
    Calls Tryd.prog 70 #[.pointer (some ⟨pb, 0, none⟩)] w fun e w' => e = .returned (.int .i64 (leftOf s st : Int)) ∧ ∃ n, w' = w.drewN n := by
  obtain ⟨at_, bad⟩ := st
  have c0 := h.text
  have c1 := h.at_
  have c2 := h.fault
  simp only at c1 ha
  cases bad with
  | some b =>
    have c2' : w.cell? ⟨pb, 2, none⟩ = some (.bool true) := c2
    clear h c2
    go_enter Tryd.func70, Tryd.ntmps70
    go_wp2
    go_ret
    exact ⟨rfl, 0, rfl⟩
  | none =>
    have c2' : w.cell? ⟨pb, 2, none⟩ = some (.bool false) := c2
    have HF := Lib.hid (show ((leftOf s ⟨at_, none⟩ : Nat) : Int) = (s.size : Int) - (at_ : Int) by unfold leftOf; simp; omega)
    clear h c2
    go_enter Tryd.func70, Tryd.ntmps70
    go_wp2
    go_quiet (fail)
    go_wp2
    go_ret
    rw [HF.out]
    exact ⟨rfl, _, rfl⟩
set_option maxRecDepth 100000 in
theorem inRead_ok (s : ByteArray) (w : World) :
    Calls Tryd.prog 58 #[.string s] w fun e w' => e = .returned (.pointer (some ⟨w.heap.size, 0, none⟩)) ∧ InAt w' w.heap.size s ⟨0, none⟩ ∧ Below w.heap.size w w' ∧ w'.heap.size = w.heap.size + 1 := by
  go_enter Tryd.func58, Tryd.ntmps58
  go_wp2
  go_ret
  refine ⟨rfl, ⟨by simp, by simp, by simp, by simp, by simp, fun b hb => by cases hb⟩, (Below.refl _ _).alloc (Nat.le_refl _) _, by simp⟩
end Go.Proofs.YtajkldmpllphjaaDoor
namespace Go.Proofs.YtajkldmpllphjaaDoor
open Go.Shelf
def Tryd.laysM316_ren : Go.Shelf.Ren := ⟨fun | 316 => 78 | n => n, fun | 9 => 9 | 3 => 3 | 4 => 4 | 37 => 54 | 0 => 0 | 127 => 104 | 5 => 5 | n => n, fun | n => n⟩
theorem Tryd.laysM316 : Go.Proofs.LaysM.n316 Tryd.prog Tryd.laysM316_ren := {
  mixed := by kernel_rfl
  f316 := Tryd.func78.trans (congrArg some (by kernel_rfl))
  t0 := Tryd.underlying0
  a0 := Tryd.isAgg0
  z0 := Tryd.sizeOf0
  v0 := Tryd.zeroValue0
  t3 := Tryd.underlying3
  a3 := Tryd.isAgg3
  z3 := Tryd.sizeOf3
  v3 := Tryd.zeroValue3
  t4 := Tryd.underlying4
  a4 := Tryd.isAgg4
  z4 := Tryd.sizeOf4
  v4 := Tryd.zeroValue4
  t9 := Tryd.underlying9
  a9 := Tryd.isAgg9
  z9 := Tryd.sizeOf9
  v9 := Tryd.zeroValue9
  t37 := Tryd.underlying54
  a37 := Tryd.isAgg54
  z37 := Tryd.sizeOf54
  v37 := Tryd.zeroValue54
  t127 := Tryd.underlying104
  a127 := Tryd.isAgg104
  z127 := Tryd.sizeOf104
  v127 := Tryd.zeroValue104
  t5 := Tryd.underlying5
  a5 := Tryd.isAgg5
  z5 := Tryd.sizeOf5
  v5 := Tryd.zeroValue5
  i0 := by kernel_rfl
  i3 := by kernel_rfl
  i4 := by kernel_rfl
  i5 := by kernel_rfl
  i9 := by kernel_rfl
  i37 := by kernel_rfl
  i127 := by kernel_rfl }
open Go.RowKit in
theorem Tryd.stringslite_Clone (s : ByteArray) (w : World) (hlim : s.size ≤ 281474976710656) :
    Calls Tryd.prog 78 #[.string s] w fun e w' => e = .returned (.string s) ∧ Below w.heap.size w w' := Any.stringslite_Clone Tryd.laysM316 s w hlim
end Go.Proofs.YtajkldmpllphjaaDoor
namespace Go.Proofs.YtajkldmpllphjaaDoor
open Go.RowKit TextNat

theorem below_drew_n (B : Nat) (w : World) (n : Nat) : Below B w (w.drewN n) := ⟨rfl, rfl, rfl, Nat.le_refl _, fun _ _ => rfl⟩
theorem readText_le (l : List Nat) (st : WireMath.At) (most : Int) (_hl : ∀ b ∈ l, b < 256) (ha : st.at_ ≤ l.length) : (WireMath.readText l st most).2.at_ ≤ l.length := by
  obtain ⟨a, bad⟩ := st
  cases bad with
  | some b => exact ha
  | none =>
    unfold WireMath.readText
    simp only
    cases hb : (WireMath.readNum l ⟨a, none⟩ most).2.bad with
    | some b => exact ha
    | none =>
      simp only
      split
      · exact ha
      · simp only; omega
/-- What End answers. -/
def EndIs (w : World) (s : ByteArray) (st : WireMath.At) (e : Ending) : Prop :=
  match WireMath.faultAt (nats s) st with
  | none => e = .returned .nilIface
  | some k => ∃ r, e = .returned r ∧ Chain w.heap.size w [(⟨#[119, 105, 114, 101]⟩, (k : Int))] (.iface 33 (.int .i64 (2 : Int))) r
set_option maxRecDepth 100000 in
set_option maxHeartbeats 4000000 in
theorem inEnd_ok (pb : Nat) (s : ByteArray) (st : WireMath.At) (w : World) (h : InAt w pb s st) :
    Calls Tryd.prog 61 #[.pointer (some ⟨pb, 0, none⟩)] w fun e w' => EndIs w' s st e ∧ Below w.heap.size w w' := by
  obtain ⟨at_, bad⟩ := st
  have c0 := h.text
  have c1 : w.cell? ⟨pb, 1, none⟩ = some (.int .i64 (at_ : Int)) := h.at_
  have c2 := h.fault
  have HA := Lib.hid (fun w1 => at_chain ⟨#[119, 105, 114, 101]⟩ (at_ : Int) [] (2 : Int) (.iface 33 (.int .i64 (2 : Int))) w1 rfl)
  cases bad with
  | some b =>
    have hba : b = at_ := h.wf b rfl
    have c2' : w.cell? ⟨pb, 2, none⟩ = some (.bool true) := c2
    have HF := Lib.hid (show WireMath.faultAt (nats s) ⟨at_, some b⟩ = some at_ by unfold WireMath.faultAt; rw [hba])
    clear h c2 hba
    go_enter Tryd.func61, Tryd.ntmps61
    go_wp2
    go_quiet (fail)
    obtain ⟨wa, hwa⟩ : ∃ wa, wa = w.drewN nq := ⟨_, rfl⟩
    have hBa : Below w.heap.size w wa := by rw [hwa]; exact below_drew_n _ _ _
    have x1 : wa.cell? ⟨pb, 1, none⟩ = some (.int .i64 (at_ : Int)) := by rw [hwa]; exact c1
    rw [← hwa]
    have HBa := Lib.hid hBa
    clear hwa hBa
    go_wp2_with (go_at_call 15; refine (HA.out _).mono ?_; rintro e w2 ⟨r, rfl, hc, hb⟩)
    go_ret
    exact ⟨by unfold EndIs; rw [HF.out]; exact ⟨r, rfl, hc⟩, HBa.out.trans (hb.mono HBa.out.size)⟩
  | none =>
    have c2' : w.cell? ⟨pb, 2, none⟩ = some (.bool false) := c2
    by_cases hlt : at_ < s.size
    · have HF := Lib.hid (show WireMath.faultAt (nats s) ⟨at_, none⟩ = some at_ by unfold WireMath.faultAt; simp only [nats_len]; rw [if_pos hlt])
      have t1 : decide ((at_ : Int) < (s.size : Int)) = true := decide_eq_true (by omega)
      have t1' : decide (at_ < s.size) = true := decide_eq_true hlt
      clear h c2
      go_enter Tryd.func61, Tryd.ntmps61
      go_wp2
      go_quiet (fail)
      obtain ⟨wa, hwa⟩ : ∃ wa, wa = w.drewN nq := ⟨_, rfl⟩
      have hBa : Below w.heap.size w wa := by rw [hwa]; exact below_drew_n _ _ _
      have x1 : wa.cell? ⟨pb, 1, none⟩ = some (.int .i64 (at_ : Int)) := by rw [hwa]; exact c1
      rw [← hwa]
      have HBa := Lib.hid hBa
      clear hwa hBa
      go_wp2_with (go_at_call 15; refine (HA.out _).mono ?_; rintro e w2 ⟨r, rfl, hc, hb⟩)
      go_ret
      exact ⟨by unfold EndIs; rw [HF.out]; exact ⟨r, rfl, hc⟩, HBa.out.trans (hb.mono HBa.out.size)⟩
    · have HF := Lib.hid (show WireMath.faultAt (nats s) ⟨at_, none⟩ = none by unfold WireMath.faultAt; simp only [nats_len]; rw [if_neg hlt])
      have t1 : decide ((at_ : Int) < (s.size : Int)) = false := decide_eq_false (by omega)
      have t1' : decide (at_ < s.size) = false := decide_eq_false hlt
      clear h c2
      go_enter Tryd.func61, Tryd.ntmps61
      go_wp2
      go_quiet (fail)
      go_wp2
      go_ret
      exact ⟨by unfold EndIs; rw [HF.out]; rfl, below_drew_n _ _ _⟩
end Go.Proofs.YtajkldmpllphjaaDoor
namespace Go.Proofs.YtajkldmpllphjaaDoor
open Go.RowKit FrameMath TextNat CrcMath

set_option maxRecDepth 100000 in
theorem half (x : Nat) (h : x < 256) : x ^^^ 64 < 256 ∧ (x ^^^ 64 < 16 ↔ 64 ≤ x ∧ x < 80) ∧ (x ^^^ 64 < 16 → x ^^^ 64 = x - 64) := by
  have : ∀ x : Fin 256, x.val ^^^ 64 < 256 ∧ (x.val ^^^ 64 < 16 ↔ 64 ≤ x.val ∧ x.val < 80) ∧ (x.val ^^^ 64 < 16 → x.val ^^^ 64 = x.val - 64) := by decide
  exact this ⟨x, h⟩
set_option maxRecDepth 100000 in
theorem halves (u v : Nat) (hu : u < 16) (hv : v < 16) : bits .or .u8 ((16 * u : Nat) : Int) (v : Int) = ((16 * u + v : Nat) : Int) := by
  have : ∀ u v : Fin 16, bits .or .u8 ((16 * u.val : Nat) : Int) (v.val : Int) = ((16 * u.val + v.val : Nat) : Int) := by decide
  exact this ⟨u, hu⟩ ⟨v, hv⟩
/-- What gathered answers. -/
def GatherIs (B : Nat) (r : List Nat) (n : Nat) (e : Ending) (w' : World) : Prop :=
  if n ≤ (bytesOf r).length then ∃ g, e = .returned (.tuple #[.slice (some ⟨g, 0, none⟩) n n, .bool true]) ∧ Own8 w' B (.slice (some ⟨g, 0, none⟩) n n) ((bytesOf r).take n) else e = .returned (.tuple #[.slice none 0 0, .bool false])
theorem GatherIs.not {B : Nat} {r : List Nat} {n : Nat} {e : Ending} {w' : World} (h : ¬ n ≤ (bytesOf r).length) (he : e = .returned (.tuple #[.slice none 0 0, .bool false])) : GatherIs B r n e w' := by
  unfold GatherIs
  rw [if_neg h]
  exact he
theorem GatherIs.is {B : Nat} {r D : List Nat} {n g : Nat} {e : Ending} {w' : World} (hr : ReadTo r D) (hD : D.length = n) (ho : Own8 w' B (.slice (some ⟨g, 0, none⟩) n n) D) (he : e = .returned (.tuple #[.slice (some ⟨g, 0, none⟩) n n, .bool true])) : GatherIs B r n e w' := by
  unfold GatherIs
  unfold ReadTo at hr
  have h1 : n ≤ (bytesOf r).length := by rw [← hr, List.length_append]; omega
  have h2 : (bytesOf r).take n = D := by rw [← hr, ← hD, List.take_left' rfl]
  rw [if_pos h1, h2]
  exact ⟨g, he, ho⟩
set_option maxRecDepth 100000 in
set_option maxHeartbeats 8000000 in
theorem gathered_ok (s : ByteArray) (n : Nat) (w : World) (hs : s.size ≤ 16777216) (hn : n ≤ 100000) :
    Calls Tryd.prog 76 #[.string s, .int .i64 (n : Int)] w fun e w' => GatherIs w.heap.size (nats s) n e w' ∧ Below w.heap.size w w' := by
  obtain ⟨z, hz⟩ : ∃ z, z = s.size := ⟨_, rfl⟩
  have e1 : (s.size : Int) = (z : Int) := by omega
  have HZ := Lib.hid hz
  obtain ⟨m, hm⟩ : ∃ m, m = 2 * n := ⟨_, rfl⟩
  have n1 : IntKind.i64.wrap (2 * (n : Int)) = (m : Int) := by rw [IntKind.wrap_i64]; omega
  obtain ⟨r, hr⟩ : ∃ r, r = nats s := ⟨_, rfl⟩
  have HRS := Lib.hid (show r.length = s.size by rw [hr, nats_len])
  have HAT := Lib.hid (show ∀ (q : Nat) (h : q < s.size), r[q]? = some (s[q]'h).toNat by intro q h; rw [hr]; exact nats_at s q h)
  have HBB := Lib.hid (bytesOf_len r)
  have HM := Lib.hid hm
  rw [← hr]
  have HB0 := Lib.hid (Below.refl w.heap.size w)
  clear hr
  by_cases h0 : z < m
  · have t1 : decide ((z : Int) < (m : Int)) = true := decide_eq_true (by omega)
    have t1' : decide (z < m) = true := decide_eq_true h0
    have HX := Lib.hid (show ¬ n ≤ (bytesOf r).length by have := HBB.out; have := HRS.out; omega)
    clear hz hm h0
    go_enter Tryd.func76, Tryd.ntmps76
    go_wp2
    go_ret2
    exact ⟨GatherIs.not HX.out rfl, HB0.out⟩
  · have t1 : decide ((z : Int) < (m : Int)) = false := decide_eq_false (by omega)
    have t1' : decide (z < m) = false := decide_eq_false h0
    have HMZ := Lib.hid (show m ≤ z by omega)
    have hmk := made8 n n (by omega) (Nat.le_refl _)
    obtain ⟨Z, hZ⟩ : ∃ Z, Z = (List.replicate n (Value.int .u8 0)).toArray := ⟨_, rfl⟩
    have O1 := Lib.hid (show Own8 (w.alloc (.cells Z 5)) w.heap.size (.slice (some ⟨w.heap.size, 0, none⟩) n n) (List.replicate n 0) by rw [hZ]; exact own_made8 n n (by omega) (Nat.le_refl _) w)
    have B1 := Lib.hid (show Below w.heap.size w (w.alloc (.cells Z 5)) from (Below.refl _ _).alloc (Nat.le_refl _) _)
    rw [← hZ] at hmk
    clear hz hm h0 hZ
    go_enter Tryd.func76, Tryd.ntmps76
    go_wp2_with fail
    obtain ⟨g, hg⟩ : ∃ g, g = w.heap.size := ⟨_, rfl⟩
    replace O1 := Lib.hid (show Own8 (w.alloc (.cells Z 5)) w.heap.size (.slice (some ⟨g, 0, none⟩) n n) ([] ++ List.replicate n 0) by rw [hg]; exact O1.out)
    rw [← hg]
    clear hg hmk HB0 t1 t1'
    go_loopg [19] n (fun gh s19 wx => ∃ (i k : Nat) (D : List Nat), k = gh ∧ D.length = i ∧ i + k = n ∧ s19 = .int .i64 (i : Int) ∧ ReadTo r D ∧ Own8 wx w.heap.size (.slice (some ⟨g, 0, none⟩) n n) (D ++ List.replicate k 0) ∧ Below w.heap.size w wx)
    case atStart => exact ⟨0, n, [], rfl, rfl, by omega, by go_num, ReadTo.start r, O1.out, B1.out⟩
    case round =>
      obtain ⟨i, kk, D, hkk, hD, hi, rfl, hread, hown, hb⟩ := hrel
      clear O1 B1
      rename World => W
      by_cases hin : i < n
      case neg =>
        have u1 : decide ((i : Int) < (n : Int)) = false := decide_eq_false (by omega)
        have u1' : decide (i < n) = false := decide_eq_false hin
        have HRD := Lib.hid hread
        have HOW := Lib.hid (show Own8 W w.heap.size (.slice (some ⟨g, 0, none⟩) n n) D by
          have h0 : kk = 0 := by omega
          rw [h0, List.replicate_zero, List.append_nil] at hown
          exact hown)
        have HDL := Lib.hid (show D.length = n by omega)
        have HB := Lib.hid hb
        clear hread hown hb hD hi hin
        go_wp2_with fail
        go_ret2
        exact ⟨GatherIs.is HRD.out HDL.out HOW.out rfl, HB.out⟩
      case pos =>
        obtain ⟨k, rfl⟩ : ∃ k, kk = k + 1 := ⟨kk - 1, by omega⟩
        have u1 : decide ((i : Int) < (n : Int)) = true := decide_eq_true (by omega)
        have u1' : decide (i < n) = true := decide_eq_true hin
        obtain ⟨q, hq⟩ : ∃ q, q = 2 * i := ⟨_, rfl⟩
        have hq1 : q + 1 < s.size := by have := HMZ.out; have := HM.out; have := HZ.out; omega
        have hq0 : q < s.size := by omega
        have k0 : IntKind.i64.wrap (2 * (i : Int)) = (q : Int) := by rw [IntKind.wrap_i64]; omega
        have k1 : IntKind.i64.wrap ((q : Int) + 1) = ((q + 1 : Nat) : Int) := by rw [IntKind.wrap_i64]; omega
        obtain ⟨x, hx⟩ : ∃ x, x = (s[q]'hq0).toNat := ⟨_, rfl⟩
        obtain ⟨y, hy⟩ : ∃ y, y = (s[q + 1]'hq1).toNat := ⟨_, rfl⟩
        have hxx : ((s[q]'hq0).toNat : Int) = (x : Int) := by rw [hx]
        have hyy : ((s[q + 1]'hq1).toNat : Int) = (y : Int) := by rw [hy]
        have hx256 : x < 256 := by rw [hx]; exact UInt8.toNat_lt _
        have hy256 : y < 256 := by rw [hy]; exact UInt8.toNat_lt _
        have hrx : r[2 * D.length]? = some x := by rw [hD, ← hq, hx]; exact HAT.out q hq0
        have hry : r[2 * D.length + 1]? = some y := by rw [hD, ← hq, hy]; exact HAT.out (q + 1) hq1
        obtain ⟨a, ha⟩ : ∃ a, a = x ^^^ 64 := ⟨_, rfl⟩
        obtain ⟨b, hbb⟩ : ∃ b, b = y ^^^ 64 := ⟨_, rfl⟩
        obtain ⟨ha256, ha1, ha2⟩ := half x hx256
        obtain ⟨hb256, hb1, hb2⟩ := half y hy256
        rw [← ha] at ha256 ha1 ha2
        rw [← hbb] at hb256 hb1 hb2
        have k2 : bits .xor .u8 (x : Int) 64 = (a : Int) := by rw [ha]; exact u8_xor_nat x 64 hx256 (by decide)
        have k3 : bits .xor .u8 (y : Int) 64 = (b : Int) := by rw [hbb]; exact u8_xor_nat y 64 hy256 (by decide)
        have HW := Lib.hid hown
        have HB := Lib.hid hb
        have HDD := Lib.hid hD
        by_cases hv : a < 16 ∧ b < 16
        case neg =>
          have HX := Lib.hid (show ¬ n ≤ (bytesOf r).length by
            rw [← hread.wrong hrx hry (by omega)]
            omega)
          by_cases hA : 15 < a
          case pos =>
            have u2 : decide ((15 : Int) < (a : Int)) = true := decide_eq_true (by omega)
            have u2' : decide (15 < a) = true := decide_eq_true hA
            clear hread hown hb hD hi hin ha hbb ha1 ha2 hb1 hb2 hrx hry hx hy hv hq hA
            go_wp2_with fail
            go_region
            go_wp2
            go_ret2
            exact ⟨GatherIs.not HX.out rfl, HB.out.drew⟩
          case neg =>
            have u2 : decide ((15 : Int) < (a : Int)) = false := decide_eq_false (by omega)
            have u2' : decide (15 < a) = false := decide_eq_false hA
            have u3 : decide ((15 : Int) < (b : Int)) = true := decide_eq_true (by omega)
            have u3' : decide (15 < b) = true := decide_eq_true (by omega)
            clear hread hown hb hD hi hin ha hbb ha1 ha2 hb1 hb2 hrx hry hx hy hv hq hA
            go_wp2_with fail
            go_region
            go_wp2
            go_ret2
            exact ⟨GatherIs.not HX.out rfl, HB.out.drew⟩
        case pos =>
          have u2 : decide ((15 : Int) < (a : Int)) = false := decide_eq_false (by omega)
          have u2' : decide (15 < a) = false := decide_eq_false (by omega)
          have u3 : decide ((15 : Int) < (b : Int)) = false := decide_eq_false (by omega)
          have u3' : decide (15 < b) = false := decide_eq_false (by omega)
          have HRN := Lib.hid (hread.next hrx hry (by omega))
          have hxa : 16 * (x - 64) = 16 * a := by have := ha2 (by omega); omega
          have hyb : y - 64 = b := by have := hb2 (by omega); omega
          rw [hxa, hyb] at HRN
          obtain ⟨c, hc⟩ : ∃ c, c = 16 * a := ⟨_, rfl⟩
          obtain ⟨d, hd⟩ : ∃ d, d = c + b := ⟨_, rfl⟩
          have k4 : IntKind.u8.wrap ((a : Int) * 16) = (c : Int) := by rw [IntKind.wrap_u8]; omega
          have k5 : bits .or .u8 (c : Int) (b : Int) = (d : Int) := by rw [hd, hc]; exact halves a b (by omega) (by omega)
          have HRD := Lib.hid (show ReadTo r (D ++ [d]) by rw [hd, hc]; exact HRN.out)
          obtain ⟨w2, hw2⟩ : ∃ w2, w2 = W.drew := ⟨_, rfl⟩
          have O2 := Lib.hid (show Own8 w2 w.heap.size (.slice (some ⟨g, 0, none⟩) n n) (D ++ List.replicate (k + 1) 0) by rw [hw2]; exact hown)
          have B2 := Lib.hid (show Below w.heap.size w w2 by rw [hw2]; exact hb.drew)
          have HW2 := Lib.hid hw2
          have HL := Lib.hid (show (D ++ List.replicate (k + 1) 0).set i d = (D ++ [d]) ++ List.replicate k 0 by
            rw [List.set_append_right _ _ (by omega), hD, Nat.sub_self, List.replicate_succ, List.set_cons_zero, List.append_assoc]
            rfl)
          have HKI := Lib.hid (show (D ++ [d]).length = i + 1 ∧ i + 1 + k = n by rw [List.length_append]; exact ⟨by simp; omega, by omega⟩)
          have HKG := Lib.hid hkk
          clear hread hown hb hD hi ha hbb ha1 ha2 hb1 hb2 hrx hry hx hy hv hq hc hd hxa hyb HRN hw2 hkk
          go_wp2_with fail
          go_region
          rw [← HW2.out]
          clear HW2 HW HB
          obtain ⟨-, hBg, hgl, hcl, hfr⟩ := O2.out.block
          have HBg := Lib.hid hBg
          have ci := hcl i 0 (by rw [List.getElem?_append_right (by have := HDD.out; omega), HDD.out, Nat.sub_self]; rfl)
          have fi := hfr i
          clear hcl hfr hBg
          have O3 := Lib.hid (show Own8 (w2.setCell ⟨g, i, none⟩ (.int .u8 (d : Int))) w.heap.size (.slice (some ⟨g, 0, none⟩) n n) ((D ++ [d]) ++ List.replicate k 0) by rw [← HL.out]; exact O2.out.set i d)
          have B3 := Lib.hid (own_store B2.out (g := g) (j := i) (v := .int .u8 (d : Int)) HBg.out)
          go_wp2_with fail
          go_roundg k
          case measure => have := HKG.out; omega
          case rel => exact ⟨i + 1, k, D ++ [d], rfl, HKI.out.1, HKI.out.2, by go_num, HRD.out, O3.out, B3.out⟩
end Go.Proofs.YtajkldmpllphjaaDoor
namespace Go.Proofs.YtajkldmpllphjaaDoor
open Go.RowKit FrameMath TextNat

/-- Bytes of a row from a place on, as a text. -/
theorem text_from (w : World) (g a cap : Nat) (D : List Nat) (hD : ∀ b ∈ D, b < 256) (hc : ∀ (j z : Nat), D[j]? = some z → w.cell? ⟨g, a + j, none⟩ = some (.int .u8 (z : Int))) :
    (convert 54 9 (.slice (some ⟨g, a, none⟩) D.length cap)).run Tryd.prog w = .ok (.string (txt D)) w := by
  have h := run_convert_bytes_back (P := Tryd.prog) w 54 9 5 ⟨g, a, none⟩ cap (D.map UInt8.ofNat) Tryd.underlying54 Tryd.underlying5 Tryd.underlying9 (fun j hj => by
    have hj' : j < D.length := by simpa using hj
    rw [WideShapes.add_plain, hc j _ (List.getElem?_eq_getElem hj')]
    have hb := hD D[j] (List.getElem_mem hj')
    simp [Nat.mod_eq_of_lt hb])
  rw [List.length_map] at h
  exact h
end Go.Proofs.YtajkldmpllphjaaDoor
namespace FrameMath
theorem stands_not {z : Nat} {r : List Nat} (h : z ≠ 1) : stands (z :: r) = none := by
  unfold stands
  split
  · rename_i r' h'
    exact absurd (List.cons.inj h').1 h
  · rfl
/-- What stands behind the byte at a frame's beginning. -/
theorem stands_one {r D : List Nat} (hD : D = bytesOf r) {n : Nat} (hn : n = D.getD 0 0 * 256 + D.getD 1 0) :
    stands (1 :: r) = if D.length < 10 then none else if 8192 < n ∨ D.length - 10 < n then none else if rawF ((D.drop 6).take n) = D.take (10 + n) then some ((D.drop 6).take n) else none := by
  unfold stands
  simp only []
  rw [← hD, ← hn]
end FrameMath
namespace Go.Proofs.YtajkldmpllphjaaDoor
open Go.RowKit FrameMath TextNat CrcMath

theorem txt_beq (xs ys : List Nat) (hx : Oct xs) (hy : Oct ys) : ((txt xs).toList == (txt ys).toList) = decide (xs = ys) := by
  rw [Bool.eq_iff_iff, beq_iff_eq, decide_eq_true_eq, ByteArray.toList_eq, ByteArray.toList_eq]
  constructor
  · intro he
    have he2 : txt xs = txt ys := by
      apply ByteArray.ext
      exact Array.toList_inj.1 he
    have := congrArg nats he2
    rwa [nats_txt xs hx, nats_txt ys hy] at this
  · intro h
    rw [h]
set_option maxRecDepth 100000 in
set_option maxHeartbeats 4000000 in
theorem equal_ok (xs ys : List Nat) (g h cx cy n m : Nat) (w : World) (hn : n = xs.length) (hm : m = ys.length) (hx : Oct xs) (hy : Oct ys) (gx : ∀ i z : Nat, xs[i]? = some z → w.cell? ⟨g, i, none⟩ = some (.int .u8 (z : Int))) (gy : ∀ i z : Nat, ys[i]? = some z → w.cell? ⟨h, i, none⟩ = some (.int .u8 (z : Int))) :
    Calls Tryd.prog 77 #[.slice (some ⟨g, 0, none⟩) n cx, .slice (some ⟨h, 0, none⟩) m cy] w fun e w' => e = .returned (.bool (decide (xs = ys))) ∧ w' = w := by
  have k1 := text_from w g 0 cx xs hx (fun j z hz => by rw [Nat.zero_add]; exact gx j z hz)
  have k2 := text_from w h 0 cy ys hy (fun j z hz => by rw [Nat.zero_add]; exact gy j z hz)
  have HT := Lib.hid (txt_beq xs ys hx hy)
  rw [← hn] at k1
  rw [← hm] at k2
  clear gx gy hx hy hn hm
  obtain ⟨X, hX⟩ : ∃ X, X = txt xs := ⟨_, rfl⟩
  obtain ⟨Y, hY⟩ : ∃ Y, Y = txt ys := ⟨_, rfl⟩
  rw [← hX] at k1 HT
  rw [← hY] at k2 HT
  clear hX hY
  go_enter Tryd.func77, Tryd.ntmps77
  go_wp2
  go_ret
  exact ⟨by rw [← HT.out]; rfl, rfl⟩
/-- What stands at the beginning, as first answers it. -/
def FirstIs (l : List Nat) (e : Ending) : Prop := match stands l with
  | some p => e = .returned (.tuple #[.string (txt p), .bool true])
  | none => e = .returned (.tuple #[.string ⟨#[]⟩, .bool false])
theorem FirstIs.not {l : List Nat} {e : Ending} (h : stands l = Option.none) (he : e = .returned (.tuple #[.string ⟨#[]⟩, .bool false])) : FirstIs l e := by
  unfold FirstIs
  rw [h]
  exact he
theorem FirstIs.is {l p : List Nat} {P : ByteArray} {e : Ending} (h : stands l = Option.some p) (hP : P = txt p) (he : e = .returned (.tuple #[.string P, .bool true])) : FirstIs l e := by
  unfold FirstIs
  rw [h]
  rw [hP] at he
  exact he
theorem gathered_no {B : Nat} {r : List Nat} {n : Nat} {e : Ending} {w' : World} (h : GatherIs B r n e w') (hn : ¬ n ≤ (bytesOf r).length) : e = .returned (.tuple #[.slice none 0 0, .bool false]) := by
  unfold GatherIs at h
  rwa [if_neg hn] at h
theorem gathered_yes {B : Nat} {r : List Nat} {n : Nat} {e : Ending} {w' : World} (h : GatherIs B r n e w') (hn : n ≤ (bytesOf r).length) : ∃ g, e = .returned (.tuple #[.slice (some ⟨g, 0, none⟩) n n, .bool true]) ∧ Own8 w' B (.slice (some ⟨g, 0, none⟩) n n) ((bytesOf r).take n) := by
  unfold GatherIs at h
  rwa [if_pos hn] at h
theorem nats_from (s : ByteArray) : nats (s.extract 1 s.size) = (nats s).drop 1 := by
  unfold nats
  rw [ByteArray.data_extract]
  simp [Array.toList_extract, List.extract]
  rw [List.take_of_length_le (by simp)]
theorem ofInt_i64w (a : Nat) (ha : a < 9223372036854775808) : (BitVec.ofInt 64 (a : Int)).toNat = a := by
  rw [BitVec.ofInt_natCast, BitVec.toNat_ofNat]; exact Nat.mod_eq_of_lt (by omega)
theorem i64_or_two (a b : Nat) (ha : a < 9223372036854775808) (hb : b < 9223372036854775808) : bits .or .i64 (a : Int) (b : Int) = ((a ||| b : Nat) : Int) := by
  have hx : a ||| b < 2 ^ 63 := Nat.or_lt_two_pow (by omega) (by omega)
  show IntKind.i64.wrap ((BitVec.ofInt 64 (a : Int) ||| BitVec.ofInt 64 (b : Int)).toNat : Int) = _
  rw [BitVec.toNat_or, ofInt_i64w a ha, ofInt_i64w b hb, IntKind.wrap_i64]
  omega
theorem length_bits (x y : Nat) (hy : y < 256) (hx : x < 256) : bits .or .i64 ((x * 256 : Nat) : Int) (y : Int) = ((x * 256 + y : Nat) : Int) := by
  have h1 := i64_or_two (x * 256) y (by omega) (by omega)
  have h2 := Nat.two_pow_add_eq_or_of_lt (show y < 2 ^ 8 from hy) x
  rw [show 2 ^ 8 * x = x * 256 by omega] at h2
  rw [h1, ← h2]
set_option maxRecDepth 100000 in
set_option maxHeartbeats 8000000 in
theorem first_ok (s : ByteArray) (w : World) (hT : Tables w) (hs : s.size ≤ 16777216) (h0 : 0 < s.size) :
    Calls Tryd.prog 67 #[.string s] w fun e w' => FirstIs (nats s) e ∧ Below w.heap.size w w' := by
  obtain ⟨m, hm⟩ : ∃ m, m = s.size := ⟨_, rfl⟩
  have e1 : (s.size : Int) = (m : Int) := by omega
  have HM := Lib.hid hm
  have HT := Lib.hid hT
  have HB0 := Lib.hid (Below.refl w.heap.size w)
  obtain ⟨z, hz⟩ : ∃ z, z = (s[0]'h0).toNat := ⟨_, rfl⟩
  have hzx : ((s[0]'h0).toNat : Int) = (z : Int) := by rw [hz]
  obtain ⟨r, hr⟩ : ∃ r, r = nats (s.extract 1 s.size) := ⟨_, rfl⟩
  have hcons : nats s = z :: r := by
    rw [hr, nats_from s]
    have h1 : 0 < (nats s).length := by rw [nats_len]; exact h0
    have h2 := nats_at s 0 h0
    rw [← hz] at h2
    have h3 := List.drop_eq_getElem_cons h1
    rw [List.drop_zero] at h3
    rw [(List.getElem?_eq_some_iff.1 h2).2] at h3
    exact h3
  rw [hcons]
  obtain ⟨S, hS⟩ : ∃ S, S = s.extract 1 s.size := ⟨_, rfl⟩
  have HS := Lib.hid hS
  have HSz := Lib.hid (show S.size ≤ 16777216 by rw [hS, ByteArray.size_extract]; omega)
  rw [← hS] at hr
  have HR := Lib.hid hr
  have h1m : 1 ≤ s.size := h0
  have h1m' : 1 ≤ m := by omega
  clear hT hz hcons hr hS hm
  by_cases hz1 : z = 1
  case neg =>
    have t2 : ((z : Int) == 1) = false := by rw [beq_eq_false_iff_ne]; omega
    have t2' : ((z : Int) != 1) = true := by rw [bne, t2]; rfl
    have HX := Lib.hid (stands_not (r := r) hz1)
    clear hz1
    go_enter Tryd.func67, Tryd.ntmps67
    go_wp2
    go_ret2
    exact ⟨FirstIs.not HX.out rfl, HB0.out⟩
  case pos =>
    subst hz1
    go_enter Tryd.func67, Tryd.ntmps67
    go_wp2_with fail
    rw [← HS.out]
    refine (gathered_ok S 2 w HSz.out (by omega)).mono ?_
    rintro e w1 ⟨h1, b1⟩
    rw [← HR.out] at h1
    by_cases h2 : 2 ≤ (bytesOf r).length
    case neg =>
      obtain rfl := gathered_no h1 h2
      have HX := Lib.hid (show stands (1 :: r) = none by rw [stands_one rfl rfl, if_pos (by omega)])
      have HB := Lib.hid b1
      clear h1 b1 h2
      go_wp2
      go_ret2
      exact ⟨FirstIs.not HX.out rfl, HB.out⟩
    case pos =>
      obtain ⟨g, rfl, o1⟩ := gathered_yes h1 h2
      obtain ⟨-, -, hgl, hcl, -⟩ := o1.block
      obtain ⟨x, hx⟩ : ∃ x, (bytesOf r)[0]? = some x := ⟨_, List.getElem?_eq_getElem (by omega)⟩
      obtain ⟨y, hy⟩ : ∃ y, (bytesOf r)[1]? = some y := ⟨_, List.getElem?_eq_getElem (by omega)⟩
      have hx256 := bytesOf_lt r x (List.mem_of_getElem? hx)
      have hy256 := bytesOf_lt r y (List.mem_of_getElem? hy)
      obtain ⟨W, hW⟩ : ∃ W, W = w1.drew := ⟨_, rfl⟩
      have c0 : w1.cell? ⟨g, 0, none⟩ = some (.int .u8 (x : Int)) := hcl 0 x (by rw [List.getElem?_take, if_pos (by omega)]; exact hx)
      have c1 : w1.cell? ⟨g, 1, none⟩ = some (.int .u8 (y : Int)) := hcl 1 y (by rw [List.getElem?_take, if_pos (by omega)]; exact hy)
      obtain ⟨n, hn⟩ : ∃ n, n = x * 256 + y := ⟨_, rfl⟩
      obtain ⟨X, hX⟩ : ∃ X, X = x * 256 := ⟨_, rfl⟩
      have k1 : IntKind.i64.wrap (x : Int) = (x : Int) := by rw [IntKind.wrap_i64]; omega
      have k2 : IntKind.i64.wrap (y : Int) = (y : Int) := by rw [IntKind.wrap_i64]; omega
      have k3 : IntKind.i64.wrap ((x : Int) * 256) = (X : Int) := by rw [IntKind.wrap_i64]; omega
      have k4 : bits .or .i64 (X : Int) (y : Int) = (n : Int) := by rw [hX, hn]; exact length_bits x y hy256 hx256
      have HN := Lib.hid (show n = (bytesOf r).getD 0 0 * 256 + (bytesOf r).getD 1 0 by rw [hn, List.getD_eq_getElem?_getD, List.getD_eq_getElem?_getD, hx, hy]; rfl)
      have HN6 := Lib.hid (show n < 65536 by omega)
      have HW := Lib.hid hW
      have HB := Lib.hid (show Below w.heap.size w W by rw [hW]; exact b1.drew)
      have H2 := Lib.hid h2
      clear h1 b1 h2 o1 hcl hx hy hn hX hW
      go_wp2_with fail
      go_region
      rw [← HW.out]
      clear HW c0 c1 hgl
      by_cases h8 : 8192 < n
      case pos =>
        have u1 : decide ((8192 : Int) < (n : Int)) = true := decide_eq_true (by omega)
        have u1' : decide (8192 < n) = true := decide_eq_true h8
        have HX := Lib.hid (show stands (1 :: r) = none by
          rw [stands_one rfl HN.out]
          split
          · rfl
          · rw [if_pos (Or.inl h8)])
        clear h8
        go_wp2_with fail
        go_ret2
        exact ⟨FirstIs.not HX.out rfl, HB.out⟩
      case neg =>
        have u1 : decide ((8192 : Int) < (n : Int)) = false := decide_eq_false (by omega)
        have u1' : decide (8192 < n) = false := decide_eq_false h8
        obtain ⟨M, hM⟩ : ∃ M, M = 10 + n := ⟨_, rfl⟩
        have k5 : IntKind.i64.wrap (10 + (n : Int)) = (M : Int) := by rw [IntKind.wrap_i64]; omega
        have HM2 := Lib.hid hM
        have H8 := Lib.hid h8
        clear hM h8
        go_wp2_with fail
        rw [← HS.out]
        refine (gathered_ok S M W HSz.out (by have := HM2.out; have := HN6.out; omega)).mono ?_
        rintro e w2 ⟨h1, b1⟩
        rw [← HR.out] at h1
        have HB2 := Lib.hid (HB.out.trans (b1.mono HB.out.size))
        clear b1
        by_cases h2 : M ≤ (bytesOf r).length
        case neg =>
          obtain rfl := gathered_no h1 h2
          have HX := Lib.hid (show stands (1 :: r) = none by
            rw [stands_one rfl HN.out]
            split
            · rfl
            · rw [if_pos (Or.inr (by have := HM2.out; omega))])
          clear h1 h2
          go_wp2
          go_ret2
          exact ⟨FirstIs.not HX.out rfl, HB2.out⟩
        case pos =>
          obtain ⟨g2, rfl, o2⟩ := gathered_yes h1 h2
          obtain ⟨-, -, hgl, hcl, -⟩ := o2.block
          obtain ⟨P, hP⟩ : ∃ P, P = ((bytesOf r).drop 6).take n := ⟨_, rfl⟩
          have hPl : P.length = n := by rw [hP, List.length_take, List.length_drop]; have := HM2.out; omega
          have hPo : Oct P := fun b hb => bytesOf_lt r b (by rw [hP] at hb; exact List.mem_of_mem_drop (List.mem_of_mem_take hb))
          have hPc : ∀ (j z : Nat), P[j]? = some z → w2.cell? ⟨g2, 6 + j, none⟩ = some (.int .u8 (z : Int)) := fun j z hj => hcl (6 + j) z (by
            rw [hP, List.getElem?_take] at hj
            split at hj
            · rename_i hjn
              rw [List.getElem?_drop] at hj
              rw [List.getElem?_take, if_pos (by have := HM2.out; omega)]
              exact hj
            · cases hj)
          have HPT := Lib.hid (fun cap => text_from w2 g2 6 cap P hPo hPc)
          rw [hPl] at HPT
          have HP := Lib.hid hP
          have HPL := Lib.hid hPl
          have HPO := Lib.hid hPo
          have HC := Lib.hid hcl
          have HGL := Lib.hid hgl
          have HO2 := Lib.hid o2
          have HH2 := Lib.hid h2
          obtain ⟨N6, hN6⟩ : ∃ N6, N6 = 6 + n := ⟨_, rfl⟩
          have k6 : IntKind.i64.wrap (6 + (n : Int)) = (N6 : Int) := by rw [IntKind.wrap_i64]; have := HN6.out; omega
          have l1 : 6 ≤ N6 := by omega
          have l2 : N6 ≤ M := by have := HM2.out; omega
          have l3 : N6 - 6 = n := by omega
          have l4 : (6 : Int) ≤ (N6 : Int) := by omega
          have l5 : (N6 : Int) ≤ (M : Int) := by omega
          have l6 : ((N6 : Int) - 6).toNat = n := by omega
          have l7 : 6 < M := by have := HM2.out; omega
          have l8 : ¬ 6 = M := by omega
          have l9 : ¬ M = 6 := by omega
          obtain ⟨C6, hC6⟩ : ∃ C6, C6 = M - 6 := ⟨_, rfl⟩
          have l10 : M - 6 = C6 := by omega
          have kc := HPT.out C6
          obtain ⟨PT, hPT⟩ : ∃ PT, PT = txt P := ⟨_, rfl⟩
          rw [← hPT] at kc
          have HPP := Lib.hid hPT
          have HPS := Lib.hid (show PT.size = n by rw [hPT, txt_len, hPl])
          have HPN := Lib.hid (show nats PT = P by rw [hPT]; exact nats_txt P hPo)
          clear h1 hP hPl hPo hPc hcl hgl o2 h2 hN6 hC6 hPT HPT
          go_wp2_with fail
          refine (raw_ok PT w2 (HT.out.grown HB2.out) (by have := HPS.out; have := H8.out; omega)).mono ?_
          rintro e w3 ⟨⟨v3, rfl, o3⟩, b3⟩
          rw [HPN.out] at o3
          obtain ⟨R3, hR3⟩ : ∃ R3, R3 = rawF P := ⟨_, rfl⟩
          rw [← hR3] at o3
          obtain ⟨g3, cap3, rfl, -, hc3⟩ := o3.cells (by rw [hR3, rawF_len]; omega)
          obtain ⟨N3, hN3⟩ : ∃ N3, N3 = R3.length := ⟨_, rfl⟩
          rw [← hN3]
          have HE := Lib.hid (equal_ok ((bytesOf r).take M) R3 g2 g3 M cap3 M N3 w3 (by rw [List.length_take]; have := HH2.out; omega) hN3 (fun b hb => bytesOf_lt r b (List.mem_of_mem_take hb)) (by rw [hR3]; exact rawF_bytes (by rw [HPL.out]; have := H8.out; omega) HPO.out)
            (fun i z hz => (b3.cell (p := ⟨g2, i, none⟩) HGL.out).trans (HC.out i z hz)) hc3)
          have HR3 := Lib.hid hR3
          have HB3 := Lib.hid (HB2.out.trans (b3.mono HB2.out.size))
          clear o3 b3 hc3 hR3 hN3 l1 l2 l3 l4 l5 l6 l7 l8 l9 l10 kc k6
          go_wp2_with fail
          refine HE.out.mono ?_
          rintro e w4 ⟨rfl, rfl⟩
          by_cases hq : (bytesOf r).take M = R3
          case pos =>
            rw [decide_eq_true hq]
            have HX := Lib.hid (show stands (1 :: r) = some P by
              rw [stands_one rfl HN.out, if_neg (by have := HM2.out; have := HH2.out; omega), if_neg (by have := HM2.out; have := HH2.out; have := H8.out; omega), ← HP.out, ← HR3.out, ← hq, HM2.out, if_pos rfl])
            clear hq
            go_wp2
            go_ret2
            exact ⟨FirstIs.is HX.out HPP.out rfl, HB3.out⟩
          case neg =>
            rw [decide_eq_false hq]
            have HX := Lib.hid (show stands (1 :: r) = none by
              rw [stands_one rfl HN.out, if_neg (by have := HM2.out; have := HH2.out; omega), if_neg (by have := HM2.out; have := HH2.out; have := H8.out; omega), ← HP.out, ← HR3.out, ← HM2.out, if_neg (fun h => hq h.symm)])
            clear hq
            go_wp2
            go_ret2
            exact ⟨FirstIs.not HX.out rfl, HB3.out⟩
end Go.Proofs.YtajkldmpllphjaaDoor
namespace Go.Proofs.YtajkldmpllphjaaDoor
open Go.Shelf
def Tryd.lays137_ren : Go.Shelf.Ren := ⟨fun | 137 => 72 | 217 => 79 | 266 => 82 | n => n, fun | 9 => 9 | 5 => 5 | 3 => 3 | n => n, fun | n => n⟩
theorem Tryd.lays137 : Go.Proofs.Lays.n137 Tryd.prog Tryd.lays137_ren := {
  mixed := by kernel_rfl
  f137 := Tryd.func72.trans (congrArg some (by kernel_rfl))
  f217 := Tryd.func79.trans (congrArg some (by kernel_rfl))
  f266 := Tryd.func82.trans (congrArg some (by kernel_rfl))
  t3 := Tryd.underlying3
  a3 := Tryd.isAgg3
  z3 := Tryd.sizeOf3
  v3 := Tryd.zeroValue3
  t5 := Tryd.underlying5
  a5 := Tryd.isAgg5
  z5 := Tryd.sizeOf5
  v5 := Tryd.zeroValue5
  t9 := Tryd.underlying9
  a9 := Tryd.isAgg9
  z9 := Tryd.sizeOf9
  v9 := Tryd.zeroValue9 }
open Go.RowKit in
theorem Tryd.strings_IndexByte (s : ByteArray) (c : Int) (w : World) :
    Calls Tryd.prog 72 #[.string s, .int .u8 c] w fun e w' => e = .returned (.int .i64 (Lib.indexByte s.data.toList c.toNat.toUInt8)) ∧ w' = w := Any.strings_IndexByte Tryd.lays137 s c w
end Go.Proofs.YtajkldmpllphjaaDoor
