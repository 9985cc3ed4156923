/-
  The contracts of fail's as, Number, first and Place, over chains of wraps. The condition: the variable errors.errorType reads as the type error's own handle; a chain has at most 1048575 wraps.
-/
import Derived.Test.YtmbjcgmcjackfaaDoorAs2
import Derived.Test.YtmbjcgmcjackfaaDoorEnds
namespace Go.Proofs.YtmbjcgmcjackfaaDoor
open Go.RowKit Go.Extern.Stop Go.Stop Go.Extern

theorem okCell {tb : Nat} {w w2 : World} (htl : tb < w.heap.size) (h : But tb (w.alloc (.cells #[.bool false] 4)) w2) : w2.cell? ⟨w.heap.size, 0, none⟩ = some (.bool false) ∧ w2.frozen? ⟨w.heap.size, 0, none⟩ = false := by
  have hk := h.block w.heap.size (by simp) (by omega)
  refine ⟨?_, ?_⟩
  · rw [World.cell?_of_block (w := w.alloc (.cells #[.bool false] 4)) (a := ⟨w.heap.size, 0, none⟩) hk]; simp
  · rw [World.frozen?_of_block (w := w.alloc (.cells #[.bool false] 4)) (a := ⟨w.heap.size, 0, none⟩) hk]; simp

theorem sealed {tb : Nat} {w w2 : World} {u v : Value} (htl : tb < w.heap.size) (h : But tb (w.alloc (.cells #[.bool false] 4)) w2) (hu : w2.cell? ⟨tb, 0, none⟩ = some u) :
    (w2.setCell ⟨w.heap.size, 0, none⟩ v).cell? ⟨tb, 0, none⟩ = some u ∧ But tb w (w2.setCell ⟨w.heap.size, 0, none⟩ v) := by
  refine ⟨(World.cell?_setCell_other _ ⟨w.heap.size, 0, none⟩ ⟨tb, 0, none⟩ _ (by simp)).trans hu, h.os, h.tape, h.output, ?_, ?_⟩
  · have := h.size
    simp [World.setCell] at this ⊢
    omega
  · intro k hk hn
    rw [Below.heap_setCell _ _ _ _ (by show k ≠ w.heap.size; omega), h.block k (by simp; omega) hn, Below.heap_alloc _ _ _ hk]

theorem sealedBelow {w w2 : World} {v : Value} (h : Below (w.heap.size + 1) (w.alloc (.cells #[.bool false] 4)) w2) : Below w.heap.size w (w2.setCell ⟨w.heap.size, 0, none⟩ v) :=
  (((Below.refl _ w).alloc (Nat.le_refl _) _).trans (h.mono (by omega))).setCell (by simp) _

theorem fas_code (tb : Nat) (l : List Wrap) (c : Int) (T : TypeId) (x old : Value) (w : World) (hg : Handle w) (hch : Chain tb w l (.iface 35 (.int .i64 c)) (.iface T x))
    (ht : w.cell? ⟨tb, 0, none⟩ = some old) (hf : w.frozen? ⟨tb, 0, none⟩ = false) :
    Calls Tryd.prog 21 #[.iface T x, .iface 51 (.pointer (some ⟨tb, 0, none⟩))] w fun e w' => Hit tb w (.int .i64 c) e w' := by
  have htl := cell_lt ht
  have hB : Below w.heap.size w (w.alloc (.cells #[.bool false] 4)) := (Below.refl _ _).alloc (Nat.le_refl _) _
  refine (as21 true (fun w' => w'.cell? ⟨tb, 0, none⟩ = some (.int .i64 c) ∧ But tb (w.alloc (.cells #[.bool false] 4)) w') T x _ w ?_ (fun w' h => okCell htl h.2)).mono ?_
  · refine As51 true _ T x tb _ (hg.below hB hg.lt) ?_
    intro w0 vb hB0 hv
    have hB1 : Below w.heap.size w w0 := hB.trans (hB0.mono (by simp))
    refine (as_code tb vb l c (.iface T x) old w0 (hch.mono (hB1.mono (Nat.le_of_lt htl)) (Nat.le_refl _)) hv ((hB1.cell (p := ⟨tb, 0, none⟩) htl).trans ht) ((hB1.frozen (p := ⟨tb, 0, none⟩) htl).trans hf)).mono ?_
    rintro e w' ⟨rfl, hh, hb⟩
    exact ⟨rfl, hh, (But.of hB0).trans hb⟩
  · rintro e w' ⟨rfl, w2, ⟨hh, hb⟩, rfl⟩
    exact ⟨rfl, sealed htl hb hh⟩

theorem fas_pair (tb b : Nat) (l : List Wrap) (c : Int) (T U : TypeId) (x y old : Value) (w : World) (hg : Handle w) (hch : Chain tb w l (.iface 35 (.int .i64 c)) (.iface T x))
    (h0 : w.cell? ⟨b, 0, none⟩ = some (.iface T x)) (h1 : w.cell? ⟨b, 1, none⟩ = some (.iface U y))
    (ht : w.cell? ⟨tb, 0, none⟩ = some old) (hf : w.frozen? ⟨tb, 0, none⟩ = false) :
    Calls Tryd.prog 21 #[.iface 60 (.pointer (some ⟨b, 0, none⟩)), .iface 51 (.pointer (some ⟨tb, 0, none⟩))] w fun e w' => Hit tb w (.int .i64 c) e w' := by
  have htl := cell_lt ht
  have hbl := cell_lt h0
  have hB : Below w.heap.size w (w.alloc (.cells #[.bool false] 4)) := (Below.refl _ _).alloc (Nat.le_refl _) _
  refine (as21 true (fun w' => w'.cell? ⟨tb, 0, none⟩ = some (.int .i64 c) ∧ But tb (w.alloc (.cells #[.bool false] 4)) w') 60 _ _ w ?_ (fun w' h => okCell htl h.2)).mono ?_
  · refine As51 true _ 60 _ tb _ (hg.below hB hg.lt) ?_
    intro w0 vb hB0 hv
    have hB1 : Below w.heap.size w w0 := hB.trans (hB0.mono (by simp))
    refine (as_pair tb vb b l c T U x y old w0 (hch.mono (hB1.mono (Nat.le_of_lt htl)) (Nat.le_refl _)) ((hB1.cell (p := ⟨b, 0, none⟩) hbl).trans h0) ((hB1.cell (p := ⟨b, 1, none⟩) hbl).trans h1) hv ((hB1.cell (p := ⟨tb, 0, none⟩) htl).trans ht) ((hB1.frozen (p := ⟨tb, 0, none⟩) htl).trans hf)).mono ?_
    rintro e w' ⟨rfl, hh, hb⟩
    exact ⟨rfl, hh, (But.of hB0).trans hb⟩
  · rintro e w' ⟨rfl, w2, ⟨hh, hb⟩, rfl⟩
    exact ⟨rfl, sealed htl hb hh⟩

theorem fas_place (tb : Nat) (p : Addr) (old : Value) (w : World) (hg : Handle w)
    (ht : w.cell? ⟨tb, 0, none⟩ = some old) (hf : w.frozen? ⟨tb, 0, none⟩ = false) :
    Calls Tryd.prog 21 #[.iface 42 (.pointer (some p)), .iface 67 (.pointer (some ⟨tb, 0, none⟩))] w fun e w' => Hit tb w (.pointer (some p)) e w' := by
  have htl := cell_lt ht
  have hB : Below w.heap.size w (w.alloc (.cells #[.bool false] 4)) := (Below.refl _ _).alloc (Nat.le_refl _) _
  refine (as21 true (fun w' => w'.cell? ⟨tb, 0, none⟩ = some (.pointer (some p)) ∧ But tb (w.alloc (.cells #[.bool false] 4)) w') 42 _ _ w ?_ (fun w' h => okCell htl h.2)).mono ?_
  · refine As67 true _ 42 _ tb _ (hg.below hB hg.lt) ?_
    intro w0 vb hB0 hv
    have hB1 : Below w.heap.size w w0 := hB.trans (hB0.mono (by simp))
    refine (as_place tb vb p old w0 hv ((hB1.cell (p := ⟨tb, 0, none⟩) htl).trans ht) ((hB1.frozen (p := ⟨tb, 0, none⟩) htl).trans hf)).mono ?_
    rintro e w' ⟨rfl, hh, hb⟩
    exact ⟨rfl, hh, (But.of hB0).trans hb⟩
  · rintro e w' ⟨rfl, w2, ⟨hh, hb⟩, rfl⟩
    exact ⟨rfl, sealed htl hb hh⟩

theorem fas_nil (tb : Nat) (l : List Wrap) (T : TypeId) (x old : Value) (w : World) (hg : Handle w) (hne : l ≠ []) (hch : Chain tb w l .nilIface (.iface T x))
    (ht : w.cell? ⟨tb, 0, none⟩ = some old) :
    Calls Tryd.prog 21 #[.iface T x, .iface 51 (.pointer (some ⟨tb, 0, none⟩))] w fun e w' => e = .returned (.bool false) ∧ Below w.heap.size w w' := by
  have htl := cell_lt ht
  have hB : Below w.heap.size w (w.alloc (.cells #[.bool false] 4)) := (Below.refl _ _).alloc (Nat.le_refl _) _
  refine (as21 false (fun w' => Below (w.heap.size + 1) (w.alloc (.cells #[.bool false] 4)) w') T x _ w ?_ (fun w' h => okCell (tb := tb) htl (But.of (by simpa using h)))).mono ?_
  · refine As51 false _ T x tb _ (hg.below hB hg.lt) ?_
    intro w0 vb hB0 _
    have hB1 : Below w.heap.size w w0 := hB.trans (hB0.mono (by simp))
    have hs := hB0.size
    simp only [World.size_alloc] at hs hB0
    refine (as_nil tb vb l (.iface T x) w0 hne (hch.mono (hB1.mono (Nat.le_of_lt htl)) (Nat.le_refl _)) (by omega)).mono ?_
    rintro e w' ⟨rfl, hb⟩
    exact ⟨rfl, hB0.trans (hb.mono hs)⟩
  · rintro e w' ⟨rfl, w2, hb, rfl⟩
    exact ⟨rfl, sealedBelow hb⟩

theorem fas_bare (tb : Nat) (c old : Value) (w : World) (hg : Handle w) (ht : w.cell? ⟨tb, 0, none⟩ = some old) :
    Calls Tryd.prog 21 #[.iface 35 c, .iface 67 (.pointer (some ⟨tb, 0, none⟩))] w fun e w' => e = .returned (.bool false) ∧ Below w.heap.size w w' := by
  have htl := cell_lt ht
  have hB : Below w.heap.size w (w.alloc (.cells #[.bool false] 4)) := (Below.refl _ _).alloc (Nat.le_refl _) _
  refine (as21 false (fun w' => Below (w.heap.size + 1) (w.alloc (.cells #[.bool false] 4)) w') 35 c _ w ?_ (fun w' h => okCell (tb := tb) htl (But.of (by simpa using h)))).mono ?_
  · refine As67 false _ 35 c tb _ (hg.below hB hg.lt) ?_
    intro w0 vb hB0 _
    have hs := hB0.size
    simp only [World.size_alloc] at hs hB0
    refine (as_bare tb vb c w0).mono ?_
    rintro e w' ⟨rfl, hb⟩
    exact ⟨rfl, hB0.trans (hb.mono hs)⟩
  · rintro e w' ⟨rfl, w2, hb, rfl⟩
    exact ⟨rfl, sealedBelow hb⟩

theorem number_none (w : World) : Calls Tryd.prog 8 #[.nilIface] w fun e w' => e = .returned (.int .i64 0) ∧ w' = w := by
  go_enter Tryd.func8, Tryd.ntmps8
  go_wp2
  go_ret
  exact ⟨rfl, rfl⟩

theorem number_hit (T : TypeId) (x : Value) (c : Int) (w : World)
    (h19 : ∀ w0 : World, Below w.heap.size w w0 → Calls Tryd.prog 19 #[.iface T x, .func (.func 20) #[] #[]] w0 fun e w' => e = .returned (.bool true) ∧ Below w0.heap.size w0 w')
    (h21 : ∀ w0 : World, Below w.heap.size w w0 → w0.cell? ⟨w.heap.size, 0, none⟩ = some (.int .i64 0) → w0.frozen? ⟨w.heap.size, 0, none⟩ = false →
      Calls Tryd.prog 21 #[.iface T x, .iface 51 (.pointer (some ⟨w.heap.size, 0, none⟩))] w0 fun e w' => Hit w.heap.size w0 (.int .i64 c) e w') :
    Calls Tryd.prog 8 #[.iface T x] w fun e w' => e = .returned (.int .i64 c) ∧ Below w.heap.size w w' := by
  have hB : Below w.heap.size w (w.alloc (.cells #[.int .i64 0] 35)) := (Below.refl _ _).alloc (Nat.le_refl _) _
  have H19 := Lib.hid (h19 _ hB)
  have H21 := Lib.hid h21
  clear h19 h21
  go_enter Tryd.func8, Tryd.ntmps8
  go_wp2_with (go_at_call 19; refine H19.out.mono ?_; rintro e w1 ⟨rfl, hb1⟩)
  have hB1 : Below w.heap.size w w1 := hB.trans (hb1.mono (by simp))
  have HC := Lib.hid (H21.out w1 hB1 ((hb1.cell (p := ⟨w.heap.size, 0, none⟩) (by simp)).trans (by simp)) ((hb1.frozen (p := ⟨w.heap.size, 0, none⟩) (by simp)).trans (by simp)))
  go_wp2_with (go_at_call 21; refine HC.out.mono ?_; rintro e w2 ⟨rfl, hh, hb2⟩)
  go_ret
  have hs := hb1.size
  simp only [World.size_alloc] at hs
  exact ⟨rfl, hB1.trans (hb2.below (by omega))⟩

theorem number_miss (T : TypeId) (x : Value) (w : World)
    (h19 : ∀ w0 : World, Below w.heap.size w w0 → Calls Tryd.prog 19 #[.iface T x, .func (.func 20) #[] #[]] w0 fun e w' => e = .returned (.bool true) ∧ Below w0.heap.size w0 w')
    (h21 : ∀ w0 : World, Below w.heap.size w w0 → w0.cell? ⟨w.heap.size, 0, none⟩ = some (.int .i64 0) →
      Calls Tryd.prog 21 #[.iface T x, .iface 51 (.pointer (some ⟨w.heap.size, 0, none⟩))] w0 fun e w' => e = .returned (.bool false) ∧ Below w0.heap.size w0 w') :
    Calls Tryd.prog 8 #[.iface T x] w fun e w' => e = .returned (.int .i64 (-1)) ∧ Below w.heap.size w w' := by
  have hB : Below w.heap.size w (w.alloc (.cells #[.int .i64 0] 35)) := (Below.refl _ _).alloc (Nat.le_refl _) _
  have H19 := Lib.hid (h19 _ hB)
  have H21 := Lib.hid h21
  clear h19 h21
  go_enter Tryd.func8, Tryd.ntmps8
  go_wp2_with (go_at_call 19; refine H19.out.mono ?_; rintro e w1 ⟨rfl, hb1⟩)
  have hB1 : Below w.heap.size w w1 := hB.trans (hb1.mono (by simp))
  have HC := Lib.hid (H21.out w1 hB1 ((hb1.cell (p := ⟨w.heap.size, 0, none⟩) (by simp)).trans (by simp)))
  go_wp2_with (go_at_call 21; refine HC.out.mono ?_; rintro e w2 ⟨rfl, hb2⟩)
  go_ret
  exact ⟨rfl, hB1.trans (hb2.mono hB1.size)⟩

/-- Number of a chain of wraps around a code. -/
theorem number_code (l : List Wrap) (c : Int) (v : Value) (w : World) (hg : Handle w) (hch : Chain w.heap.size w l (.iface 35 (.int .i64 c)) v) (hl : l.length ≤ 1048575) :
    Calls Tryd.prog 8 #[v] w fun e w' => e = .returned (.int .i64 c) ∧ Below w.heap.size w w' := by
  obtain ⟨T, x, rfl⟩ := hch.some
  refine number_hit T x c w ?_ ?_
  · exact fun w0 hB => ends_code l c _ w0 (hch.mono hB hB.size) (by omega)
  · exact fun w0 hB ht hf => fas_code w.heap.size l c T x _ w0 (hg.below hB hg.lt) (hch.mono hB (Nat.le_refl _)) ht hf

/-- Number of two errors in one, the first a chain of wraps around a code. -/
theorem number_pair (b : Nat) (l : List Wrap) (c : Int) (T U : TypeId) (x y : Value) (w : World) (hg : Handle w) (hch : Chain w.heap.size w l (.iface 35 (.int .i64 c)) (.iface T x))
    (h0 : w.cell? ⟨b, 0, none⟩ = some (.iface T x)) (h1 : w.cell? ⟨b, 1, none⟩ = some (.iface U y)) (hl : l.length ≤ 1048575) :
    Calls Tryd.prog 8 #[.iface 60 (.pointer (some ⟨b, 0, none⟩))] w fun e w' => e = .returned (.int .i64 c) ∧ Below w.heap.size w w' := by
  have hb := cell_lt h0
  refine number_hit 60 _ c w ?_ ?_
  · exact fun w0 hB => ends_pair b l c T U x y w0 (hch.mono hB hB.size) ((hB.cell (p := ⟨b, 0, none⟩) hb).trans h0) ((hB.cell (p := ⟨b, 1, none⟩) hb).trans h1) hl
  · exact fun w0 hB ht hf => fas_pair w.heap.size b l c T U x y _ w0 (hg.below hB hg.lt) (hch.mono hB (Nat.le_refl _)) ((hB.cell (p := ⟨b, 0, none⟩) hb).trans h0) ((hB.cell (p := ⟨b, 1, none⟩) hb).trans h1) ht hf

/-- Number of wraps around nothing. -/
theorem number_lone (l : List Wrap) (T : TypeId) (x : Value) (w : World) (hg : Handle w) (hne : l ≠ []) (hch : Chain w.heap.size w l .nilIface (.iface T x)) (hl : l.length ≤ 1048575) :
    Calls Tryd.prog 8 #[.iface T x] w fun e w' => e = .returned (.int .i64 (-1)) ∧ Below w.heap.size w w' := by
  refine number_miss T x w ?_ ?_
  · exact fun w0 hB => ends_nil l _ w0 (hch.mono hB hB.size) (by omega)
  · exact fun w0 hB ht => fas_nil w.heap.size l T x _ w0 (hg.below hB hg.lt) hne (hch.mono hB (Nat.le_refl _)) ht

/-- first of an *Error. -/
theorem first_place (p : Addr) (w : World) (hg : Handle w) :
    Calls Tryd.prog 22 #[.iface 42 (.pointer (some p))] w fun e w' => e = .returned (.tuple #[.pointer (some p), .bool true]) ∧ Below w.heap.size w w' := by
  have hB : Below w.heap.size w (w.alloc (.cells #[.pointer none] 42)) := (Below.refl _ _).alloc (Nat.le_refl _) _
  have HG := Lib.hid hg
  clear hg
  go_enter Tryd.func22, Tryd.ntmps22
  go_wp2_with (go_at_call 19; refine (ends_place _ _).mono ?_; rintro e w1 ⟨rfl, hb1⟩)
  have hB1 : Below w.heap.size w w1 := hB.trans (hb1.mono (by simp))
  have HC := Lib.hid (fas_place w.heap.size p (.pointer none) w1 (HG.out.below hB1 HG.out.lt) ((hb1.cell (p := ⟨w.heap.size, 0, none⟩) (by simp)).trans (by simp)) ((hb1.frozen (p := ⟨w.heap.size, 0, none⟩) (by simp)).trans (by simp)))
  go_wp2_with (go_at_call 21; refine HC.out.mono ?_; rintro e w2 ⟨rfl, hh, hb2⟩)
  have hs := hb1.size
  simp only [World.size_alloc] at hs
  have hB2 : Below w.heap.size w w2 := hB1.trans (hb2.below (by omega))
  go_ret2
  exact ⟨rfl, hB2⟩

theorem first_bare (c : Int) (w : World) (hg : Handle w) :
    Calls Tryd.prog 22 #[.iface 35 (.int .i64 c)] w fun e w' => e = .returned (.tuple #[.pointer none, .bool false]) ∧ Below w.heap.size w w' := by
  have hB : Below w.heap.size w (w.alloc (.cells #[.pointer none] 42)) := (Below.refl _ _).alloc (Nat.le_refl _) _
  have HG := Lib.hid hg
  clear hg
  go_enter Tryd.func22, Tryd.ntmps22
  go_wp2_with (go_at_call 19; refine (ends_bare c _).mono ?_; rintro e w1 ⟨rfl, hb1⟩)
  have hB1 : Below w.heap.size w w1 := hB.trans (hb1.mono (by simp))
  have HC := Lib.hid (fas_bare w.heap.size (.int .i64 c) (.pointer none) w1 (HG.out.below hB1 HG.out.lt) ((hb1.cell (p := ⟨w.heap.size, 0, none⟩) (by simp)).trans (by simp)))
  go_wp2_with (go_at_call 21; refine HC.out.mono ?_; rintro e w2 ⟨rfl, hb2⟩)
  go_ret2
  exact ⟨rfl, hB1.trans (hb2.mono hB1.size)⟩

theorem place_bare (c : Int) (w : World) (hg : Handle w) :
    Calls Tryd.prog 11 #[.iface 35 (.int .i64 c)] w fun e w' => e = .returned (.tuple #[.string ByteArray.empty, .int .i64 0, .bool false]) ∧ Below w.heap.size w w' := by
  have HC := Lib.hid (first_bare c w hg)
  clear hg
  go_enter Tryd.func11, Tryd.ntmps11
  go_wp2_with (go_at_call 22; refine HC.out.mono ?_; rintro e w2 ⟨rfl, hb2⟩)
  go_ret3
  exact ⟨rfl, hb2⟩

theorem place_some (b : Nat) (s n : Value) (w : World) (hg : Handle w) (h0 : w.cell? ⟨b, 0, none⟩ = some s) (h1 : w.cell? ⟨b, 1, none⟩ = some n) :
    Calls Tryd.prog 11 #[.iface 42 (.pointer (some ⟨b, 0, none⟩))] w fun e w' => e = .returned (.tuple #[s, n, .bool true]) ∧ Below w.heap.size w w' := by
  have hb := cell_lt h0
  have HC := Lib.hid (first_place ⟨b, 0, none⟩ w hg)
  have H0 := Lib.hid h0
  have H1 := Lib.hid h1
  clear hg h0 h1
  go_enter Tryd.func11, Tryd.ntmps11
  go_wp2_with (go_at_call 22; refine HC.out.mono ?_; rintro e w2 ⟨rfl, hb2⟩)
  have g0 : w2.cell? ⟨b, 0, none⟩ = some s := (hb2.cell (p := ⟨b, 0, none⟩) hb).trans H0.out
  have g1 : w2.cell? ⟨b, 1, none⟩ = some n := (hb2.cell (p := ⟨b, 1, none⟩) hb).trans H1.out
  go_wp2_with (first | (go_at_call 23; refine (where_some b s _ g0).mono ?_; rintro e w' ⟨rfl, rfl⟩) | (go_at_call 24; refine (at_of b n _ g1).mono ?_; rintro e w' ⟨rfl, rfl⟩))
  go_ret3
  exact ⟨rfl, hb2⟩
end Go.Proofs.YtmbjcgmcjackfaaDoor
