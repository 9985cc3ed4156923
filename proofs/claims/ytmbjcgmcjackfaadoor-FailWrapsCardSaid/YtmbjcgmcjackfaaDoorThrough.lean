/-
  The contract of through, over chains of wraps, with isCode as the function that stops it.
-/
import Derived.Test.YtmbjcgmcjackfaaDoorInner
import Derived.Test.YtmbjcgmcjackfaaDoorChain
import Derived.Deep.LoopGhost
namespace Go.Proofs.YtmbjcgmcjackfaaDoor
open Go.RowKit Go.Extern.Stop Go.Stop Go.Extern

/-- Where the walk has come to, and what it has left behind. -/
def Thru (pb f : Nat) (w : World) (e : Ending) (b : Bool) (w' : World) : Prop := e = .returned (.bool b) ∧ (∃ n, Walk pb f n w') ∧ But pb w w'

theorem inner_place (b : Nat) (u : Value) (hu : u = .nilIface ∨ ∃ T x, u = .iface T x) (w : World) (hb : w.cell? ⟨b, 2, none⟩ = some u) :
    Calls Tryd.prog 31 #[.iface 42 (.pointer (some ⟨b, 0, none⟩))] w fun e w' => e = .returned (.slice (some ⟨w.heap.size + 1, 0, none⟩) 1 1) ∧ w'.cell? ⟨w.heap.size + 1, 0, none⟩ = some u ∧ w'.heap.size = w.heap.size + 2 ∧ Below w.heap.size w w' := by
  rcases hu with rfl | ⟨T, x, rfl⟩
  · exact inner_place_none b w hb
  · exact inner_place_some b T x w hb

set_option maxHeartbeats 1000000 in
theorem through_code (pb : Nat) (l : List Wrap) (c : Int) (v : Value) (level left : Int) (w : World) (hch : Chain pb w l (.iface 35 (.int .i64 c)) v) (hw : Walk pb 20 left w)
    (h0 : 0 ≤ level) (hl : level + l.length ≤ 1048576) (hf : l.length < left) (hm : left ≤ 2147483647) :
    Calls Tryd.prog 27 #[.pointer (some ⟨pb, 0, none⟩), v, .int .i64 level] w fun e w' => Thru pb 20 w e false w' := by
  go_enter Tryd.func27, Tryd.ntmps27
  go_wp2
  go_loopg [1, 2] l.length (fun k s1 s2 wx => ∃ (r : List Wrap) (n m : Int), r.length = k ∧ Chain pb wx r (.iface 35 (.int .i64 c)) s1 ∧ s2 = .int .i64 n ∧ 0 ≤ n ∧ n + r.length ≤ 1048576 ∧ r.length < m ∧ m ≤ 2147483647 ∧ Walk pb 20 m wx ∧ But pb w wx)
  case atStart => exact ⟨l, level, left, rfl, hch, rfl, h0, hl, hf, hm, hw, But.refl _ _⟩
  case round =>
    obtain ⟨r, n, m, hr, hc, rfl, hn0, hn, hm0, hm1, hW, hB⟩ := hrel
    have c0 := hW.stop
    have c1 := hW.left
    have f1 := hW.free
    have d1 : decide (1048576 < n) = false := by simp; omega
    have d2 : ((m : Int) == 0) = false := by simp; omega
    cases r with
    | nil =>
      have hc' : u1 = .iface 35 (.int .i64 c) := hc
      subst hc'
      clear hc hch
      go_wp2_with (go_at_call 20; refine (isCode_code c _).mono ?_; rintro e w' ⟨rfl, rfl⟩)
      go_ret
      exact ⟨rfl, ⟨_, hW.set⟩, hB.trans (But.set pb 1 wr _)⟩
    | cons x r =>
      obtain ⟨b, u, hu1, hb, hx0, hx1, hx2, hcr⟩ := hc
      subst hu1
      clear hch
      have hpb := hW.lt
      have hW2 : Walk pb 20 (m - 1) (wr.setCell ⟨pb, 1, none⟩ (.int .i64 (m - 1))) := hW.set
      have hx2' : (wr.setCell ⟨pb, 1, none⟩ (.int .i64 (m - 1))).cell? ⟨b, 2, none⟩ = some u := (World.cell?_setCell_other _ ⟨pb, 1, none⟩ ⟨b, 2, none⟩ _ (by simp)).trans hx2
      go_wp2_with (first | (go_at_call 20; refine (isCode_place _ _).mono ?_; rintro e w' ⟨rfl, rfl⟩) | (go_at_call 31; refine (inner_place b u (hcr.head (.inr ⟨c, rfl⟩)) _ hx2').mono ?_; rintro e w1 ⟨rfl, hk, hs, hb1⟩; simp only [World.size_setCell] at hk hs hb1))
      go_rounds 1
      go_roundg r.length
      case measure => simp at hr; omega
      case rel =>
        have hB1 : But pb wr w1 := (But.set pb 1 wr _).trans (But.of (by simpa using hb1))
        exact ⟨r, n + 1, m - 1, rfl, hcr.mono (hB1.below (by omega)) (Nat.le_refl _), rfl, by omega, by simp at hn; omega, by simp at hm0; omega, by omega, hW2.below (by simpa using hb1), hB.trans hB1⟩
set_option maxHeartbeats 1000000 in
theorem through_nil (pb : Nat) (l : List Wrap) (v : Value) (level left : Int) (w : World) (hch : Chain pb w l .nilIface v) (hw : Walk pb 20 left w)
    (h0 : 0 ≤ level) (hl : level + l.length ≤ 1048576) (hf : l.length < left) (hm : left ≤ 2147483647) :
    Calls Tryd.prog 27 #[.pointer (some ⟨pb, 0, none⟩), v, .int .i64 level] w fun e w' => Thru pb 20 w e true w' := by
  go_enter Tryd.func27, Tryd.ntmps27
  go_wp2
  go_loopg [1, 2] l.length (fun k s1 s2 wx => ∃ (r : List Wrap) (n m : Int), r.length = k ∧ Chain pb wx r .nilIface s1 ∧ s2 = .int .i64 n ∧ 0 ≤ n ∧ n + r.length ≤ 1048576 ∧ r.length < m ∧ m ≤ 2147483647 ∧ Walk pb 20 m wx ∧ But pb w wx)
  case atStart => exact ⟨l, level, left, rfl, hch, rfl, h0, hl, hf, hm, hw, But.refl _ _⟩
  case round =>
    obtain ⟨r, n, m, hr, hc, rfl, hn0, hn, hm0, hm1, hW, hB⟩ := hrel
    have c0 := hW.stop
    have c1 := hW.left
    have f1 := hW.free
    have d1 : decide (1048576 < n) = false := by simp; omega
    have d2 : ((m : Int) == 0) = false := by simp; omega
    cases r with
    | nil =>
      have hc' : u1 = .nilIface := hc
      subst hc'
      clear hc hch
      go_wp2_with fail
      go_ret
      exact ⟨rfl, ⟨_, hW⟩, hB⟩
    | cons x r =>
      obtain ⟨b, u, hu1, hb, hx0, hx1, hx2, hcr⟩ := hc
      subst hu1
      clear hch
      have hpb := hW.lt
      have hW2 : Walk pb 20 (m - 1) (wr.setCell ⟨pb, 1, none⟩ (.int .i64 (m - 1))) := hW.set
      have hx2' : (wr.setCell ⟨pb, 1, none⟩ (.int .i64 (m - 1))).cell? ⟨b, 2, none⟩ = some u := (World.cell?_setCell_other _ ⟨pb, 1, none⟩ ⟨b, 2, none⟩ _ (by simp)).trans hx2
      go_wp2_with (first | (go_at_call 20; refine (isCode_place _ _).mono ?_; rintro e w' ⟨rfl, rfl⟩) | (go_at_call 31; refine (inner_place b u (hcr.head (.inl rfl)) _ hx2').mono ?_; rintro e w1 ⟨rfl, hk, hs, hb1⟩; simp only [World.size_setCell] at hk hs hb1))
      go_rounds 1
      go_roundg r.length
      case measure => simp at hr; omega
      case rel =>
        have hB1 : But pb wr w1 := (But.set pb 1 wr _).trans (But.of (by simpa using hb1))
        exact ⟨r, n + 1, m - 1, rfl, hcr.mono (hB1.below (by omega)) (Nat.le_refl _), rfl, by omega, by simp at hn; omega, by simp at hm0; omega, by omega, hW2.below (by simpa using hb1), hB.trans hB1⟩

set_option maxHeartbeats 1000000 in
theorem through_place (pb : Nat) (x : Value) (left : Int) (w : World) (hw : Walk pb 30 left w) (hf : 0 < left) (hm : left ≤ 2147483647) :
    Calls Tryd.prog 27 #[.pointer (some ⟨pb, 0, none⟩), .iface 42 x, .int .i64 0] w fun e w' => Thru pb 30 w e false w' := by
  have c0 := hw.stop
  have c1 := hw.left
  have f1 := hw.free
  have d2 : ((left : Int) == 0) = false := by simp; omega
  go_enter Tryd.func27, Tryd.ntmps27
  go_wp2
  refine wp_loop_rounds 1 ?_
  rw [rounds_succ]
  go_wp2_with (go_at_call 30; refine (isPlace_place _ _).mono ?_; rintro e w' ⟨rfl, rfl⟩)
  go_ret
  exact ⟨rfl, ⟨_, hw.set⟩, But.set pb 1 w _⟩

set_option maxHeartbeats 1000000 in
theorem through_bare (pb : Nat) (c : Int) (left : Int) (w : World) (hw : Walk pb 30 left w) (hf : 0 < left) (hm : left ≤ 2147483647) :
    Calls Tryd.prog 27 #[.pointer (some ⟨pb, 0, none⟩), .iface 35 (.int .i64 c), .int .i64 0] w fun e w' => Thru pb 30 w e true w' := by
  have c0 := hw.stop
  have c1 := hw.left
  have f1 := hw.free
  have hW2 : Walk pb 30 (left - 1) (w.setCell ⟨pb, 1, none⟩ (.int .i64 (left - 1))) := hw.set
  have d2 : ((left : Int) == 0) = false := by simp; omega
  go_enter Tryd.func27, Tryd.ntmps27
  go_wp2
  refine wp_loop_rounds 1 ?_
  rw [rounds_succ]
  go_wp2_with (first | (go_at_call 30; refine (isPlace_code _ _).mono ?_; rintro e w' ⟨rfl, rfl⟩) | (go_at_call 31; refine (inner_code c _).mono ?_; rintro e w1 ⟨rfl, hb1⟩; simp only [World.size_setCell] at hb1))
  go_ret
  exact ⟨rfl, ⟨_, hW2.below (by simpa using hb1)⟩, (But.set pb 1 w _).trans (But.of (by simpa using hb1))⟩

set_option maxHeartbeats 1000000 in
theorem through_pair (pb b : Nat) (l : List Wrap) (c : Int) (T U : TypeId) (x y : Value) (left : Int) (w : World) (hch : Chain pb w l (.iface 35 (.int .i64 c)) (.iface T x)) (hw : Walk pb 20 left w)
    (hb : b < pb) (h0 : w.cell? ⟨b, 0, none⟩ = some (.iface T x)) (h1 : w.cell? ⟨b, 1, none⟩ = some (.iface U y))
    (hl : l.length ≤ 1048575) (hm : left = 2147483647) :
    Calls Tryd.prog 27 #[.pointer (some ⟨pb, 0, none⟩), .iface 60 (.pointer (some ⟨b, 0, none⟩)), .int .i64 0] w fun e w' => Thru pb 20 w e false w' := by
  subst hm
  have c0 := hw.stop
  have c1 := hw.left
  have f1 := hw.free
  have hpb := hw.lt
  have hW2 : Walk pb 20 2147483646 (w.setCell ⟨pb, 1, none⟩ (.int .i64 2147483646)) := hw.set
  have h0' : (w.setCell ⟨pb, 1, none⟩ (.int .i64 2147483646)).cell? ⟨b, 0, none⟩ = some (.iface T x) := (World.cell?_setCell_other _ ⟨pb, 1, none⟩ ⟨b, 0, none⟩ _ (by simp)).trans h0
  have h1' : (w.setCell ⟨pb, 1, none⟩ (.int .i64 2147483646)).cell? ⟨b, 1, none⟩ = some (.iface U y) := (World.cell?_setCell_other _ ⟨pb, 1, none⟩ ⟨b, 1, none⟩ _ (by simp)).trans h1
  go_enter Tryd.func27, Tryd.ntmps27
  go_wp2
  refine wp_loop_rounds 1 ?_
  rw [rounds_succ]
  go_wp2_with (first | (go_at_call 20; refine (isCode_pair _ _).mono ?_; rintro e w' ⟨rfl, rfl⟩) | (go_at_call 31; refine (inner_pair b T U x y _ h0' h1').mono ?_; rintro e w1 ⟨rfl, hk0, hk1, hs, hb1⟩; simp only [World.size_setCell] at hk0 hk1 hs hb1))
  have hB1 : But pb w w1 := (But.set pb 1 w _).trans (But.of (by simpa using hb1))
  have hW1 : Walk pb 20 2147483646 w1 := hW2.below (by simpa using hb1)
  refine wp_loop_rounds 1 ?_
  rw [rounds_succ]
  go_wp2_with (go_at_call 27; refine (through_code pb l c _ 1 2147483646 w1 (hch.mono (hB1.below (by omega)) (Nat.le_refl _)) hW1 (by omega) (by omega) (by omega) (by omega)).mono ?_; rintro e w2 ⟨rfl, hW3, hB2⟩)
  go_ret
  exact ⟨rfl, hW3, hB1.trans hB2⟩
end Go.Proofs.YtmbjcgmcjackfaaDoor
