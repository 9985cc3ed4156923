/-
  Texts of one claim, merged.
  Place: The contract of fail.Place at an *Error. The condition: the variable errors.errorType reads as the type error's own handle.
  CookieTold: The contract of chapter 13's helper told. The conditions: the variable errors.errorType reads as the type error's own handle; the error is the one typed.
-/
import Derived.Test.YtaniekpkcihpiaaDoorPart09
import Derived.Test.YtaniekpkcihpiaaDoorPart03
import Derived.Deep.LoopGhost
import Derived.Test.YtaniekpkcihpiaaDoorPart08
namespace Go.Proofs.YtaniekpkcihpiaaDoor
open Go.RowKit Go.Extern.Stop Go.Stop Go.Extern

/-- The struct that through goes on with: at block pb; the function is 'f'. -/
structure Walk (pb f : Nat) (left : Int) (w : World) : Prop where
  stop : w.cell? ⟨pb, 0, none⟩ = some (.func (.func f) #[] #[])
  left : w.cell? ⟨pb, 1, none⟩ = some (.int .i64 left)
  endless : w.cell? ⟨pb, 2, none⟩ = some (.bool false)
  free : w.frozen? ⟨pb, 1, none⟩ = false

theorem Walk.set {pb f : Nat} {n m : Int} {w : World} (h : Walk pb f n w) : Walk pb f m (w.setCell ⟨pb, 1, none⟩ (.int .i64 m)) :=
  ⟨(World.cell?_setCell_other _ ⟨pb, 1, none⟩ ⟨pb, 0, none⟩ _ (by simp)).trans h.stop, World.cell?_setCell_same _ _ _ h.left, (World.cell?_setCell_other _ ⟨pb, 1, none⟩ ⟨pb, 2, none⟩ _ (by simp)).trans h.endless, by rw [World.frozen?_setCell]; exact h.free⟩

theorem Walk.below {pb f : Nat} {n : Int} {w w' : World} (h : Walk pb f n w) (hb : Below w.heap.size w w') : Walk pb f n w' :=
  have hp : pb < w.heap.size := cell_lt h.stop
  ⟨(hb.cell (p := ⟨pb, 0, none⟩) hp).trans h.stop, (hb.cell (p := ⟨pb, 1, none⟩) hp).trans h.left, (hb.cell (p := ⟨pb, 2, none⟩) hp).trans h.endless, (hb.frozen (p := ⟨pb, 1, none⟩) hp).trans h.free⟩

theorem Walk.lt {pb f : Nat} {n : Int} {w : World} (h : Walk pb f n w) : pb < w.heap.size := cell_lt h.stop

/-- Where the walk has come to, and what it has left behind. -/
def Thru (pb f : Nat) (w : World) (e : Ending) (b : Bool) (w' : World) : Prop := e = .returned (.bool b) ∧ (∃ n, Walk pb f n w') ∧ But pb w w'

set_option maxHeartbeats 1000000 in
theorem through_place (pb : Nat) (x : Value) (left : Int) (w : World) (hw : Walk pb 43 left w) (hf : 0 < left) (hm : left ≤ 2147483647) :
    Calls Tryd.prog 47 #[.pointer (some ⟨pb, 0, none⟩), .iface 60 x, .int .i64 0] w fun e w' => Thru pb 43 w e false w' := by
  have c0 := hw.stop
  have c1 := hw.left
  have f1 := hw.free
  have d2 : ((left : Int) == 0) = false := by simp; omega
  go_enter Tryd.func47, Tryd.ntmps47
  go_wp2
  refine wp_loop_rounds 1 ?_
  rw [rounds_succ]
  go_wp2_with (go_at_call 43; refine (isPlace_place _ _).mono ?_; rintro e w' ⟨rfl, rfl⟩)
  go_ret
  exact ⟨rfl, ⟨_, hw.set⟩, But.set pb 1 w _⟩

theorem ends_any (f : Nat) (b : Bool) (v : Value) (w : World)
    (h27 : ∀ w0 : World, Below w.heap.size w w0 → Walk w.heap.size f 2147483647 w0 → Calls Tryd.prog 47 #[.pointer (some ⟨w.heap.size, 0, none⟩), v, .int .i64 0] w0 fun e w' => Thru w.heap.size f w0 e b w') :
    Calls Tryd.prog 42 #[v, .func (.func f) #[] #[]] w fun e w' => e = .returned (.bool true) ∧ Below w.heap.size w w' := by
  have hb : Below w.heap.size w (w.alloc (.cells #[.func (.func f) #[] #[], .int .i64 2147483647, .bool false] 92)) := (Below.refl _ _).alloc (Nat.le_refl _) _
  have H := Lib.hid (h27 _ hb ⟨by simp, by simp, by simp, by simp⟩)
  clear h27
  go_enter Tryd.func42, Tryd.ntmps42
  go_wp2_with (go_at_call 47; refine H.out.mono ?_; rintro e w2 ⟨rfl, ⟨n, hW⟩, hB⟩; have hE := hW.endless)
  go_ret
  exact ⟨rfl, hb.trans (hB.below (by simp))⟩

theorem ends_place (x : Value) (w : World) :
    Calls Tryd.prog 42 #[.iface 60 x, .func (.func 43) #[] #[]] w fun e w' => e = .returned (.bool true) ∧ Below w.heap.size w w' :=
  ends_any 43 false (.iface 60 x) w fun w0 _ hW => through_place w.heap.size x 2147483647 w0 hW (by omega) (by omega)

/-- errors.As has found something: the target, at block tb, holds u. -/
def Hit (tb : Nat) (w : World) (u : Value) (e : Ending) (w' : World) : Prop := e = .returned (.bool true) ∧ w'.cell? ⟨tb, 0, none⟩ = some u ∧ But tb w w'

theorem hit_world {tb : Nat} {w : World} {u old : Value} (ht : w.cell? ⟨tb, 0, none⟩ = some old) (o p : Obj) :
    (((w.setCell ⟨tb, 0, none⟩ u).alloc o).alloc p).cell? ⟨tb, 0, none⟩ = some u ∧ But tb w (((w.setCell ⟨tb, 0, none⟩ u).alloc o).alloc p) := by
  have htl := cell_lt ht
  refine ⟨?_, ((But.set tb 0 w u).alloc o).alloc p⟩
  rw [World.cell?_alloc_lt _ _ ⟨tb, 0, none⟩ (by simp; omega), World.cell?_alloc_lt _ _ ⟨tb, 0, none⟩ (by simpa using htl)]
  exact World.cell?_setCell_same _ _ _ ht

set_option maxHeartbeats 4000000 in
theorem as_place (tb vb : Nat) (p : Addr) (old : Value) (w : World)
    (hv : w.cell? ⟨vb, 0, none⟩ = some (.pointer (some ⟨tb, 0, none⟩))) (ht : w.cell? ⟨tb, 0, none⟩ = some old) (hf : w.frozen? ⟨tb, 0, none⟩ = false) :
    Calls Tryd.prog 54 #[.iface 60 (.pointer (some p)), .iface 78 (.pointer (some ⟨tb, 0, none⟩)), .agg #[.pointer (some ⟨2, 78, none⟩), .pointer (some ⟨vb, 0, none⟩), .int .u64 150], .iface 80 (.agg #[.pointer (some ⟨2, 60, none⟩)])] w
      fun e w' => Hit tb w (.pointer (some p)) e w' := by
  have htl : tb < w.heap.size := cell_lt ht
  have hvl : vb < w.heap.size := cell_lt hv
  have k25 := call25
  have k32 := call32
  have k37 := call37
  have k38 := call38
  have k61 := call61
  have mA := methodAssignableTo
  have el := elemV67 ⟨vb, 0, none⟩ ⟨tb, 0, none⟩ (w.alloc (.cells #[.pointer (some ⟨2, 78, none⟩), .pointer (some ⟨vb, 0, none⟩), .int .u64 150] 98)) (by rw [World.cell?_alloc_lt _ _ ⟨vb, 0, none⟩ hvl]; exact hv)
  have st := set42 ⟨tb, 0, none⟩ ⟨w.heap.size + 1, 0, none⟩ p old ((w.alloc (.cells #[.pointer (some ⟨2, 78, none⟩), .pointer (some ⟨vb, 0, none⟩), .int .u64 150] 98)).alloc (.cells #[.pointer (some p)] 60))
    (by rw [World.cell?_alloc_at _ _ _ _ (by simp)]; rfl)
    (by rw [World.cell?_alloc_lt _ _ ⟨tb, 0, none⟩ (by simp; omega), World.cell?_alloc_lt _ _ ⟨tb, 0, none⟩ htl]; exact ht)
    (by rw [World.frozen?_alloc_old _ _ ⟨tb, 0, none⟩ (by simp; omega), World.frozen?_alloc_old _ _ ⟨tb, 0, none⟩ (Nat.ne_of_lt htl)]; exact hf)
  have t1 := typeOf42
  have t2 := asg42_42
  have t3 := valueOf42
  have HT := Lib.hid ht
  clear hv ht hf
  go_enter Tryd.func54, Tryd.ntmps54
  go_wp2
  refine wp_loop_rounds 1 ?_
  rw [rounds_succ]
  go_wp2
  go_ret
  exact ⟨rfl, hit_world HT.out _ _⟩

/-- What the variable errors.errorType holds. -/
def Handle (w : World) : Prop := w.cell? ⟨1, 0, none⟩ = some (.iface 80 (.agg #[.pointer (some ⟨2, 25, none⟩)]))

theorem Handle.below {B : Nat} {w w' : World} (h : Handle w) (hb : Below B w w') (hB : 1 < B) : Handle w' := (hb.cell (p := ⟨1, 0, none⟩) hB).trans h

theorem Handle.lt {w : World} (h : Handle w) : 1 < w.heap.size := cell_lt h

set_option maxHeartbeats 4000000 in
theorem As67 (b : Bool) (Q : World → Prop) (T : TypeId) (x : Value) (tb : Nat) (w : World) (hg : Handle w)
    (h35 : ∀ (w0 : World) (vb : Nat), Below w.heap.size w w0 → w0.cell? ⟨vb, 0, none⟩ = some (.pointer (some ⟨tb, 0, none⟩)) →
      Calls Tryd.prog 54 #[.iface T x, .iface 78 (.pointer (some ⟨tb, 0, none⟩)), .agg #[.pointer (some ⟨2, 78, none⟩), .pointer (some ⟨vb, 0, none⟩), .int .u64 150], .iface 80 (.agg #[.pointer (some ⟨2, 60, none⟩)])] w0 fun e w' => e = .returned (.bool b) ∧ Q w') :
    Calls Tryd.prog 49 #[.iface T x, .iface 78 (.pointer (some ⟨tb, 0, none⟩))] w fun e w' => e = .returned (.bool b) ∧ Q w' := by
  have HB : Below w.heap.size w ((w.alloc (.cells #[.pointer (some ⟨tb, 0, none⟩)] 78)).alloc (.cells #[.pointer (some ⟨2, 78, none⟩), .pointer (some ⟨w.heap.size, 0, none⟩), .int .u64 150] 98)) := ((Below.refl _ _).alloc (Nat.le_refl _) _).alloc (by simp) _
  have HA := Lib.hid (h35 _ w.heap.size HB (by rw [World.cell?_alloc_lt _ _ ⟨w.heap.size, 0, none⟩ (by simp)]; simp))
  have k32 := call32
  have k33 := call33
  have k34 := call34
  have k53 := call53
  have k63 := call63
  have k64 := call64
  have f1 := valueOf67
  have f2 := type67
  have f3 := methodKind
  have f4 := kind67
  have f5 := methodElem
  have f6 := elem67
  have f7 := kind42
  have f8 := methodImplements
  have f9 := implements42
  have n8 := isNil67 ⟨w.heap.size, 0, none⟩ ⟨tb, 0, none⟩ ((w.alloc (.cells #[.pointer (some ⟨tb, 0, none⟩)] 78)).alloc (.cells #[.pointer (some ⟨2, 78, none⟩), .pointer (some ⟨w.heap.size, 0, none⟩), .int .u64 150] 98)) (by simp)
  have g0 : ((w.alloc (.cells #[.pointer (some ⟨tb, 0, none⟩)] 78)).alloc (.cells #[.pointer (some ⟨2, 78, none⟩), .pointer (some ⟨w.heap.size, 0, none⟩), .int .u64 150] 98)).cell? ⟨1, 0, none⟩ = some (.iface 80 (.agg #[.pointer (some ⟨2, 25, none⟩)])) := hg.below HB hg.lt
  clear h35 HB hg
  go_enter Tryd.func49, Tryd.ntmps49
  go_wp2_with (first | (go_at_call 54; refine HA.out.mono ?_; rintro e w3 ⟨rfl, hq⟩))
  go_ret
  exact ⟨rfl, hq⟩

set_option maxHeartbeats 1000000 in
/-- fail's as, where errors.As doesn't panic. -/
theorem as21 (b : Bool) (Q : World → Prop) (T : TypeId) (x t : Value) (w : World)
    (h29 : Calls Tryd.prog 49 #[.iface T x, t] (w.alloc (.cells #[.bool false] 4)) fun e w' => e = .returned (.bool b) ∧ Q w')
    (hQ : ∀ w', Q w' → w'.cell? ⟨w.heap.size, 0, none⟩ = some (.bool false) ∧ w'.frozen? ⟨w.heap.size, 0, none⟩ = false) :
    Calls Tryd.prog 44 #[.iface T x, t] w fun e w' => e = .returned (.bool b) ∧ ∃ w2, Q w2 ∧ w' = w2.setCell ⟨w.heap.size, 0, none⟩ (.bool b) := by
  have HA := Lib.hid h29
  have HQ := Lib.hid hQ
  clear h29 hQ
  have h3 := hmf
  go_enter_defers Tryd.func44, Tryd.ntmps44
  go_wp2_with (go_at_call 49; refine HA.out.mono ?_; rintro e w3 ⟨rfl, hq⟩; obtain ⟨hc, hf⟩ := HQ.out _ hq)
  have hc2 : (w3.setCell ⟨w.heap.size, 0, none⟩ (.bool b)).cell? ⟨w.heap.size, 0, none⟩ = some (.bool b) := World.cell?_setCell_same _ _ _ hc
  refine leaves_cons (f := 48) (args := #[.pointer (some ⟨w.heap.size, 0, none⟩)]) (by simp) (by simp [go_sem]) ?_
  refine (idle28 ⟨w.heap.size, 0, none⟩ _).mono ?_
  rintro e u' w'' ⟨rfl, rfl, rfl⟩
  simp [Leaves, settle, results, Tryd.results44, go_sem, hc2]
  exact ⟨_, hq, rfl⟩

theorem okCell {tb : Nat} {w w2 : World} (htl : tb < w.heap.size) (h : But tb (w.alloc (.cells #[.bool false] 4)) w2) : w2.cell? ⟨w.heap.size, 0, none⟩ = some (.bool false) ∧ w2.frozen? ⟨w.heap.size, 0, none⟩ = false := by
  have hk := h.block w.heap.size (by simp) (by omega)
  refine ⟨?_, ?_⟩
  · rw [World.cell?_of_block (w := w.alloc (.cells #[.bool false] 4)) (a := ⟨w.heap.size, 0, none⟩) hk]; simp
  · rw [World.frozen?_of_block (w := w.alloc (.cells #[.bool false] 4)) (a := ⟨w.heap.size, 0, none⟩) hk]; simp

theorem sealed {tb : Nat} {w w2 : World} {u v : Value} (htl : tb < w.heap.size) (h : But tb (w.alloc (.cells #[.bool false] 4)) w2) (hu : w2.cell? ⟨tb, 0, none⟩ = some u) :
    (w2.setCell ⟨w.heap.size, 0, none⟩ v).cell? ⟨tb, 0, none⟩ = some u ∧ But tb w (w2.setCell ⟨w.heap.size, 0, none⟩ v) := by
  refine ⟨(World.cell?_setCell_other _ ⟨w.heap.size, 0, none⟩ ⟨tb, 0, none⟩ _ (by simp)).trans hu, h.os, h.tape, h.output, ?_, ?_⟩
  · have := h.size
    simp [World.setCell] at this ⊢
    omega
  · intro k hk hn
    rw [Below.heap_setCell _ _ _ _ (by show k ≠ w.heap.size; omega), h.block k (by simp; omega) hn, Below.heap_alloc _ _ _ hk]

theorem fas_place (tb : Nat) (p : Addr) (old : Value) (w : World) (hg : Handle w)
    (ht : w.cell? ⟨tb, 0, none⟩ = some old) (hf : w.frozen? ⟨tb, 0, none⟩ = false) :
    Calls Tryd.prog 44 #[.iface 60 (.pointer (some p)), .iface 78 (.pointer (some ⟨tb, 0, none⟩))] w fun e w' => Hit tb w (.pointer (some p)) e w' := by
  have htl := cell_lt ht
  have hB : Below w.heap.size w (w.alloc (.cells #[.bool false] 4)) := (Below.refl _ _).alloc (Nat.le_refl _) _
  refine (as21 true (fun w' => w'.cell? ⟨tb, 0, none⟩ = some (.pointer (some p)) ∧ But tb (w.alloc (.cells #[.bool false] 4)) w') 60 _ _ w ?_ (fun w' h => okCell htl h.2)).mono ?_
  · refine As67 true _ 60 _ tb _ (hg.below hB hg.lt) ?_
    intro w0 vb hB0 hv
    have hB1 : Below w.heap.size w w0 := hB.trans (hB0.mono (by simp))
    refine (as_place tb vb p old w0 hv ((hB1.cell (p := ⟨tb, 0, none⟩) htl).trans ht) ((hB1.frozen (p := ⟨tb, 0, none⟩) htl).trans hf)).mono ?_
    rintro e w' ⟨rfl, hh, hb⟩
    exact ⟨rfl, hh, (But.of hB0).trans hb⟩
  · rintro e w' ⟨rfl, w2, ⟨hh, hb⟩, rfl⟩
    exact ⟨rfl, sealed htl hb hh⟩

/-- first of an *Error. -/
theorem first_place (p : Addr) (w : World) (hg : Handle w) :
    Calls Tryd.prog 34 #[.iface 60 (.pointer (some p))] w fun e w' => e = .returned (.tuple #[.pointer (some p), .bool true]) ∧ Below w.heap.size w w' := by
  have hB : Below w.heap.size w (w.alloc (.cells #[.pointer none] 60)) := (Below.refl _ _).alloc (Nat.le_refl _) _
  have HG := Lib.hid hg
  clear hg
  go_enter Tryd.func34, Tryd.ntmps34
  go_wp2_with (go_at_call 42; refine (ends_place _ _).mono ?_; rintro e w1 ⟨rfl, hb1⟩)
  have hB1 : Below w.heap.size w w1 := hB.trans (hb1.mono (by simp))
  have HC := Lib.hid (fas_place w.heap.size p (.pointer none) w1 (HG.out.below hB1 HG.out.lt) ((hb1.cell (p := ⟨w.heap.size, 0, none⟩) (by simp)).trans (by simp)) ((hb1.frozen (p := ⟨w.heap.size, 0, none⟩) (by simp)).trans (by simp)))
  go_wp2_with (go_at_call 44; refine HC.out.mono ?_; rintro e w2 ⟨rfl, hh, hb2⟩)
  have hs := hb1.size
  simp only [World.size_alloc] at hs
  have hB2 : Below w.heap.size w w2 := hB1.trans (hb2.below (by omega))
  go_ret2
  exact ⟨rfl, hB2⟩

theorem place_some (b : Nat) (s n : Value) (w : World) (hg : Handle w) (h0 : w.cell? ⟨b, 0, none⟩ = some s) (h1 : w.cell? ⟨b, 1, none⟩ = some n) :
    Calls Tryd.prog 24 #[.iface 60 (.pointer (some ⟨b, 0, none⟩))] w fun e w' => e = .returned (.tuple #[s, n, .bool true]) ∧ Below w.heap.size w w' := by
  have hb := cell_lt h0
  have HC := Lib.hid (first_place ⟨b, 0, none⟩ w hg)
  have H0 := Lib.hid h0
  have H1 := Lib.hid h1
  clear hg h0 h1
  go_enter Tryd.func24, Tryd.ntmps24
  go_wp2_with (go_at_call 34; refine HC.out.mono ?_; rintro e w2 ⟨rfl, hb2⟩)
  have g0 : w2.cell? ⟨b, 0, none⟩ = some s := (hb2.cell (p := ⟨b, 0, none⟩) hb).trans H0.out
  have g1 : w2.cell? ⟨b, 1, none⟩ = some n := (hb2.cell (p := ⟨b, 1, none⟩) hb).trans H1.out
  go_wp2_with (first | (go_at_call 35; refine (where_some b s _ g0).mono ?_; rintro e w' ⟨rfl, rfl⟩) | (go_at_call 36; refine (at_of b n _ g1).mono ?_; rintro e w' ⟨rfl, rfl⟩))
  go_ret3
  exact ⟨rfl, hb2⟩
end Go.Proofs.YtaniekpkcihpiaaDoor
namespace Go.Proofs.YtaniekpkcihpiaaDoor
open Go.RowKit TextNat

set_option maxRecDepth 100000 in
set_option maxHeartbeats 4000000 in
theorem told_ok (x : Value) (c k : Int) (w : World) (hc : ErrAt w cook k c x) (hg : Handle w) :
    Calls Tryd.prog 9 #[x, .int .i64 c, .int .i64 k] w fun e w' => e = .returned (.bool true) ∧ Below w.heap.size w w' := by
  obtain ⟨l, hc⟩ := hc
  obtain ⟨b, rfl⟩ := hc.place
  have HC := Lib.hid hc
  have HG := Lib.hid hg
  have HB := Lib.hid (Below.refl w.heap.size w)
  clear hc hg
  go_enter Tryd.func9, Tryd.ntmps9
  go_wp2_with (first
    | (go_at_call 24; refine (place_some _ _ _ _ HG.out HC.out.cells.1 HC.out.cells.2).mono ?_; rintro e w2 ⟨rfl, hb⟩; replace HB := Lib.hid (HB.out.trans (hb.mono HB.out.size)); replace HC := Lib.hid (HC.out.mono hb hb.size); clear hb)
    | (go_at_call 25; refine (Is_chain _ _ _ _ _ _ HC.out).mono ?_; rintro e w2 ⟨rfl, rfl⟩))
  all_goals
    go_ret
    exact ⟨by first | rfl | simp, HB.out⟩
end Go.Proofs.YtaniekpkcihpiaaDoor
