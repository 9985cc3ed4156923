/-
  The contracts of errors.as, at the two targets that package fail asks for: a pointer to an api.Code, and a pointer to a pointer to a fail.Error; over chains of wraps.
-/
import Derived.Test.YtmbjcgmcjackfaaDoorRefl
namespace Go.Proofs.YtmbjcgmcjackfaaDoor
open Go.RowKit Go.Extern.Stop Go.Stop Go.Extern

/-- errors.As has found something: the target, at block tb, holds u. -/
def Hit (tb : Nat) (w : World) (u : Value) (e : Ending) (w' : World) : Prop := e = .returned (.bool true) ∧ w'.cell? ⟨tb, 0, none⟩ = some u ∧ But tb w w'

theorem But.alloc {pb : Nat} {w w' : World} (h : But pb w w') (o : Obj) : But pb w (w'.alloc o) :=
  h.trans ⟨rfl, rfl, rfl, by simp, fun k hk _ => Below.heap_alloc _ _ _ hk⟩

theorem hit_world {tb : Nat} {w : World} {u old : Value} (ht : w.cell? ⟨tb, 0, none⟩ = some old) (o p : Obj) :
    (((w.setCell ⟨tb, 0, none⟩ u).alloc o).alloc p).cell? ⟨tb, 0, none⟩ = some u ∧ But tb w (((w.setCell ⟨tb, 0, none⟩ u).alloc o).alloc p) := by
  have htl := cell_lt ht
  refine ⟨?_, ((But.set tb 0 w u).alloc o).alloc p⟩
  rw [World.cell?_alloc_lt _ _ ⟨tb, 0, none⟩ (by simp; omega), World.cell?_alloc_lt _ _ ⟨tb, 0, none⟩ (by simpa using htl)]
  exact World.cell?_setCell_same _ _ _ ht

/-- A chain around a code is an interface value that isn't nil. -/
theorem Chain.some {B : Nat} {w : World} {l : List Wrap} {c : Int} {v : Value} (h : Chain B w l (.iface 35 (.int .i64 c)) v) : ∃ T x, v = .iface T x := by
  cases l with
  | nil => exact ⟨_, _, h⟩
  | cons x r =>
    obtain ⟨b, u, h1, _⟩ := h
    exact ⟨_, _, h1⟩

set_option maxHeartbeats 4000000 in
theorem as_code (tb vb : Nat) (l : List Wrap) (c : Int) (v old : Value) (w : World) (hch : Chain tb w l (.iface 35 (.int .i64 c)) v)
    (hv : w.cell? ⟨vb, 0, none⟩ = some (.pointer (some ⟨tb, 0, none⟩))) (ht : w.cell? ⟨tb, 0, none⟩ = some old) (hf : w.frozen? ⟨tb, 0, none⟩ = false) :
    Calls Tryd.prog 35 #[v, .iface 51 (.pointer (some ⟨tb, 0, none⟩)), .agg #[.pointer (some ⟨1, 51, none⟩), .pointer (some ⟨vb, 0, none⟩), .int .u64 150], .iface 69 (.agg #[.pointer (some ⟨1, 35, none⟩)])] w
      fun e w' => Hit tb w (.int .i64 c) e w' := by
  have htl : tb < w.heap.size := cell_lt ht
  have hvl : vb < w.heap.size := cell_lt hv
  have k25 := call25
  have k32 := call32
  have k37 := call37
  have k38 := call38
  have k61 := call61
  have mA := methodAssignableTo
  have el := elemV51 ⟨vb, 0, none⟩ ⟨tb, 0, none⟩ (w.alloc (.cells #[.pointer (some ⟨1, 51, none⟩), .pointer (some ⟨vb, 0, none⟩), .int .u64 150] 82)) (by rw [World.cell?_alloc_lt _ _ ⟨vb, 0, none⟩ hvl]; exact hv)
  have st := set35 ⟨tb, 0, none⟩ ⟨w.heap.size + 1, 0, none⟩ c old ((w.alloc (.cells #[.pointer (some ⟨1, 51, none⟩), .pointer (some ⟨vb, 0, none⟩), .int .u64 150] 82)).alloc (.cells #[.int .i64 c] 35))
    (by rw [World.cell?_alloc_at _ _ _ _ (by simp)]; rfl)
    (by rw [World.cell?_alloc_lt _ _ ⟨tb, 0, none⟩ (by simp; omega), World.cell?_alloc_lt _ _ ⟨tb, 0, none⟩ htl]; exact ht)
    (by rw [World.frozen?_alloc_old _ _ ⟨tb, 0, none⟩ (by simp; omega), World.frozen?_alloc_old _ _ ⟨tb, 0, none⟩ (Nat.ne_of_lt htl)]; exact hf)
  have HT := Lib.hid ht
  have HC := Lib.hid hch
  clear hch hv ht hf
  go_enter Tryd.func35, Tryd.ntmps35
  go_wp2
  go_loopg [0] l.length (fun k s0 wx => ∃ r : List Wrap, r.length = k ∧ Hid (Chain tb w r (.iface 35 (.int .i64 c)) s0) ∧ wx = w.alloc (.cells #[.pointer (some ⟨1, 51, none⟩), .pointer (some ⟨vb, 0, none⟩), .int .u64 150] 82))
  case atStart => exact ⟨l, rfl, HC, rfl⟩
  case round =>
    obtain ⟨r, hr, hc, rfl⟩ := hrel
    clear HC
    cases r with
    | nil =>
      have hc' : u0 = .iface 35 (.int .i64 c) := hc.out
      subst hc'
      clear hc
      have t1 := typeOf35
      have t2 := asg35_35
      have t3 := valueOf35
      go_wp2
      go_ret
      exact ⟨rfl, hit_world HT.out _ _⟩
    | cons x r =>
      obtain ⟨b, u, hu1, hb, hx0, hx1, hx2, hcr⟩ := hc.out
      clear hc
      subst hu1
      obtain ⟨T, y, rfl⟩ := hcr.some
      have hx2' : (w.alloc (.cells #[.pointer (some ⟨1, 51, none⟩), .pointer (some ⟨vb, 0, none⟩), .int .u64 150] 82)).cell? ⟨b, 2, none⟩ = some (.iface T y) := by
        rw [World.cell?_alloc_lt _ _ ⟨b, 2, none⟩ (by simp; omega)]; exact hx2
      have HR := Lib.hid hcr
      clear hcr hx0 hx1 hx2
      have t1 := typeOf42
      have t2 := asg42_35
      have t3 := ta42_91
      have t4 := ta42_73
      go_wp2_with (go_at_call 18; refine (unwrap_some b _ _ hx2').mono ?_; rintro e w' ⟨rfl, rfl⟩)
      go_roundg r.length
      case measure => simp at hr; omega
      case rel => exact ⟨r, rfl, HR, rfl⟩

set_option maxHeartbeats 4000000 in
theorem as_nil (tb vb : Nat) (l : List Wrap) (v : Value) (w : World) (hne : l ≠ []) (hch : Chain tb w l .nilIface v) (htl : tb < w.heap.size) :
    Calls Tryd.prog 35 #[v, .iface 51 (.pointer (some ⟨tb, 0, none⟩)), .agg #[.pointer (some ⟨1, 51, none⟩), .pointer (some ⟨vb, 0, none⟩), .int .u64 150], .iface 69 (.agg #[.pointer (some ⟨1, 35, none⟩)])] w
      fun e w' => e = .returned (.bool false) ∧ Below w.heap.size w w' := by
  have k25 := call25
  have k61 := call61
  have mA := methodAssignableTo
  have t1 := typeOf42
  have t2 := asg42_35
  have t3 := ta42_91
  have t4 := ta42_73
  have HC := Lib.hid hch
  have HN := Lib.hid hne
  clear hch hne
  go_enter Tryd.func35, Tryd.ntmps35
  go_wp2
  go_loopg [0] l.length (fun k s0 wx => ∃ r : List Wrap, r.length = k ∧ Hid (r ≠ []) ∧ Hid (Chain tb w r .nilIface s0) ∧ wx = w.alloc (.cells #[.pointer (some ⟨1, 51, none⟩), .pointer (some ⟨vb, 0, none⟩), .int .u64 150] 82))
  case atStart => exact ⟨l, rfl, HN, HC, rfl⟩
  case round =>
    obtain ⟨r, hr, hn, hc, rfl⟩ := hrel
    clear HC HN
    cases r with
    | nil => exact absurd rfl hn.out
    | cons x r =>
      obtain ⟨b, u, hu1, hb, hx0, hx1, hx2, hcr⟩ := hc.out
      clear hc hn
      subst hu1
      have hx2' : (w.alloc (.cells #[.pointer (some ⟨1, 51, none⟩), .pointer (some ⟨vb, 0, none⟩), .int .u64 150] 82)).cell? ⟨b, 2, none⟩ = some u := by
        rw [World.cell?_alloc_lt _ _ ⟨b, 2, none⟩ (by simp; omega)]; exact hx2
      cases r with
      | nil =>
        have hu : u = .nilIface := hcr
        subst hu
        clear hcr hx0 hx1 hx2
        go_wp2_with (go_at_call 18; refine (unwrap_some b _ _ hx2').mono ?_; rintro e w' ⟨rfl, rfl⟩)
        go_ret
        exact ⟨rfl, (Below.refl _ _).alloc (Nat.le_refl _) _⟩
      | cons y q =>
        have HR := Lib.hid hcr
        have hy : ∃ T z, u = .iface T z := by
          obtain ⟨b2, u2, h1, _⟩ := hcr
          exact ⟨_, _, h1⟩
        obtain ⟨T, z, rfl⟩ := hy
        clear hcr hx0 hx1 hx2
        go_wp2_with (go_at_call 18; refine (unwrap_some b _ _ hx2').mono ?_; rintro e w' ⟨rfl, rfl⟩)
        go_roundg (y :: q).length
        case measure => simp at hr ⊢; omega
        case rel => exact ⟨y :: q, rfl, Lib.hid (by simp), HR, rfl⟩

set_option maxHeartbeats 4000000 in
theorem as_place (tb vb : Nat) (p : Addr) (old : Value) (w : World)
    (hv : w.cell? ⟨vb, 0, none⟩ = some (.pointer (some ⟨tb, 0, none⟩))) (ht : w.cell? ⟨tb, 0, none⟩ = some old) (hf : w.frozen? ⟨tb, 0, none⟩ = false) :
    Calls Tryd.prog 35 #[.iface 42 (.pointer (some p)), .iface 67 (.pointer (some ⟨tb, 0, none⟩)), .agg #[.pointer (some ⟨1, 67, none⟩), .pointer (some ⟨vb, 0, none⟩), .int .u64 150], .iface 69 (.agg #[.pointer (some ⟨1, 42, none⟩)])] w
      fun e w' => Hit tb w (.pointer (some p)) e w' := by
  have htl : tb < w.heap.size := cell_lt ht
  have hvl : vb < w.heap.size := cell_lt hv
  have k25 := call25
  have k32 := call32
  have k37 := call37
  have k38 := call38
  have k61 := call61
  have mA := methodAssignableTo
  have el := elemV67 ⟨vb, 0, none⟩ ⟨tb, 0, none⟩ (w.alloc (.cells #[.pointer (some ⟨1, 67, none⟩), .pointer (some ⟨vb, 0, none⟩), .int .u64 150] 82)) (by rw [World.cell?_alloc_lt _ _ ⟨vb, 0, none⟩ hvl]; exact hv)
  have st := set42 ⟨tb, 0, none⟩ ⟨w.heap.size + 1, 0, none⟩ p old ((w.alloc (.cells #[.pointer (some ⟨1, 67, none⟩), .pointer (some ⟨vb, 0, none⟩), .int .u64 150] 82)).alloc (.cells #[.pointer (some p)] 42))
    (by rw [World.cell?_alloc_at _ _ _ _ (by simp)]; rfl)
    (by rw [World.cell?_alloc_lt _ _ ⟨tb, 0, none⟩ (by simp; omega), World.cell?_alloc_lt _ _ ⟨tb, 0, none⟩ htl]; exact ht)
    (by rw [World.frozen?_alloc_old _ _ ⟨tb, 0, none⟩ (by simp; omega), World.frozen?_alloc_old _ _ ⟨tb, 0, none⟩ (Nat.ne_of_lt htl)]; exact hf)
  have t1 := typeOf42
  have t2 := asg42_42
  have t3 := valueOf42
  have HT := Lib.hid ht
  clear hv ht hf
  go_enter Tryd.func35, Tryd.ntmps35
  go_wp2
  refine wp_loop_rounds 1 ?_
  rw [rounds_succ]
  go_wp2
  go_ret
  exact ⟨rfl, hit_world HT.out _ _⟩

set_option maxHeartbeats 4000000 in
theorem as_bare (tb vb : Nat) (c : Value) (w : World) :
    Calls Tryd.prog 35 #[.iface 35 c, .iface 67 (.pointer (some ⟨tb, 0, none⟩)), .agg #[.pointer (some ⟨1, 67, none⟩), .pointer (some ⟨vb, 0, none⟩), .int .u64 150], .iface 69 (.agg #[.pointer (some ⟨1, 42, none⟩)])] w
      fun e w' => e = .returned (.bool false) ∧ Below w.heap.size w w' := by
  have k25 := call25
  have k61 := call61
  have mA := methodAssignableTo
  have t1 := typeOf35
  have t2 := asg35_42
  have t3 := ta35_91
  have t4 := ta35_73
  have t5 := ta35_74
  go_enter Tryd.func35, Tryd.ntmps35
  go_wp2
  refine wp_loop_rounds 1 ?_
  rw [rounds_succ]
  go_wp2
  go_ret
  exact ⟨rfl, (Below.refl _ _).alloc (Nat.le_refl _) _⟩

set_option maxHeartbeats 4000000 in
theorem as_pair (tb vb b : Nat) (l : List Wrap) (c : Int) (T U : TypeId) (x y old : Value) (w : World) (hch : Chain tb w l (.iface 35 (.int .i64 c)) (.iface T x))
    (h0 : w.cell? ⟨b, 0, none⟩ = some (.iface T x)) (h1 : w.cell? ⟨b, 1, none⟩ = some (.iface U y))
    (hv : w.cell? ⟨vb, 0, none⟩ = some (.pointer (some ⟨tb, 0, none⟩))) (ht : w.cell? ⟨tb, 0, none⟩ = some old) (hf : w.frozen? ⟨tb, 0, none⟩ = false) :
    Calls Tryd.prog 35 #[.iface 60 (.pointer (some ⟨b, 0, none⟩)), .iface 51 (.pointer (some ⟨tb, 0, none⟩)), .agg #[.pointer (some ⟨1, 51, none⟩), .pointer (some ⟨vb, 0, none⟩), .int .u64 150], .iface 69 (.agg #[.pointer (some ⟨1, 35, none⟩)])] w
      fun e w' => Hit tb w (.int .i64 c) e w' := by
  have htl : tb < w.heap.size := cell_lt ht
  have hvl : vb < w.heap.size := cell_lt hv
  have hbl : b < w.heap.size := cell_lt h0
  have k25 := call25
  have k61 := call61
  have mA := methodAssignableTo
  have t1 := typeOf60
  have t2 := asg60_35
  have t3 := ta60_91
  have t4 := ta60_73
  have t5 := ta60_74
  have g0 : (w.alloc (.cells #[.pointer (some ⟨1, 51, none⟩), .pointer (some ⟨vb, 0, none⟩), .int .u64 150] 82)).cell? ⟨b, 0, none⟩ = some (.iface T x) := by rw [World.cell?_alloc_lt _ _ ⟨b, 0, none⟩ hbl]; exact h0
  have g1 : (w.alloc (.cells #[.pointer (some ⟨1, 51, none⟩), .pointer (some ⟨vb, 0, none⟩), .int .u64 150] 82)).cell? ⟨b, 1, none⟩ = some (.iface U y) := by rw [World.cell?_alloc_lt _ _ ⟨b, 1, none⟩ hbl]; exact h1
  have HB : Below w.heap.size w (((w.alloc (.cells #[.pointer (some ⟨1, 51, none⟩), .pointer (some ⟨vb, 0, none⟩), .int .u64 150] 82)).alloc (.cells #[.iface T x, .iface U y] 25)).drew) := (((Below.refl _ _).alloc (Nat.le_refl _) _).alloc (by simp) _).drew
  have HA := Lib.hid (as_code tb vb l c (.iface T x) old (((w.alloc (.cells #[.pointer (some ⟨1, 51, none⟩), .pointer (some ⟨vb, 0, none⟩), .int .u64 150] 82)).alloc (.cells #[.iface T x, .iface U y] 25)).drew)
    (hch.mono (HB.mono (Nat.le_of_lt htl)) (Nat.le_refl _)) ((HB.cell (p := ⟨vb, 0, none⟩) hvl).trans hv) ((HB.cell (p := ⟨tb, 0, none⟩) htl).trans ht) ((HB.frozen (p := ⟨tb, 0, none⟩) htl).trans hf))
  clear hch hv ht hf h0 h1
  go_enter Tryd.func35, Tryd.ntmps35
  go_wp2
  refine wp_loop_rounds 1 ?_
  rw [rounds_succ]
  go_wp2_with (go_at_call 59; refine (pair_unwrap b T U x y _ g0 g1).mono ?_; rintro e w' ⟨rfl, rfl⟩)
  refine wp_loop_rounds 1 ?_
  rw [rounds_succ]
  go_wp2_with (go_at_call 35; refine HA.out.mono ?_; rintro e w3 ⟨rfl, hh, hB2⟩)
  go_ret
  exact ⟨rfl, hh, (But.of HB).trans hB2⟩
end Go.Proofs.YtmbjcgmcjackfaaDoor
