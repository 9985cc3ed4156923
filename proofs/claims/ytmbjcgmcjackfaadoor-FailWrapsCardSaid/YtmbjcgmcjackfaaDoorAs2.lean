/-
  The contracts of errors.As, and of package fail's as, from those of errors.as. The condition: the variable errors.errorType reads as the type error's own handle.
-/
import Derived.Test.YtmbjcgmcjackfaaDoorAs
namespace Go.Proofs.YtmbjcgmcjackfaaDoor
open Go.RowKit Go.Extern.Stop Go.Stop Go.Extern

/-- What the variable errors.errorType holds. -/
def Handle (w : World) : Prop := w.cell? ⟨0, 0, none⟩ = some (.iface 69 (.agg #[.pointer (some ⟨1, 25, none⟩)]))

theorem Handle.below {B : Nat} {w w' : World} (h : Handle w) (hb : Below B w w') (hB : 0 < B) : Handle w' := (hb.cell (p := ⟨0, 0, none⟩) hB).trans h
theorem Handle.lt {w : World} (h : Handle w) : 0 < w.heap.size := cell_lt h

set_option maxHeartbeats 4000000 in
theorem As51 (b : Bool) (Q : World → Prop) (T : TypeId) (x : Value) (tb : Nat) (w : World) (hg : Handle w)
    (h35 : ∀ (w0 : World) (vb : Nat), Below w.heap.size w w0 → w0.cell? ⟨vb, 0, none⟩ = some (.pointer (some ⟨tb, 0, none⟩)) →
      Calls Tryd.prog 35 #[.iface T x, .iface 51 (.pointer (some ⟨tb, 0, none⟩)), .agg #[.pointer (some ⟨1, 51, none⟩), .pointer (some ⟨vb, 0, none⟩), .int .u64 150], .iface 69 (.agg #[.pointer (some ⟨1, 35, none⟩)])] w0 fun e w' => e = .returned (.bool b) ∧ Q w') :
    Calls Tryd.prog 29 #[.iface T x, .iface 51 (.pointer (some ⟨tb, 0, none⟩))] w fun e w' => e = .returned (.bool b) ∧ Q w' := by
  have HB : Below w.heap.size w ((w.alloc (.cells #[.pointer (some ⟨tb, 0, none⟩)] 51)).alloc (.cells #[.pointer (some ⟨1, 51, none⟩), .pointer (some ⟨w.heap.size, 0, none⟩), .int .u64 150] 82)) := ((Below.refl _ _).alloc (Nat.le_refl _) _).alloc (by simp) _
  have HA := Lib.hid (h35 _ w.heap.size HB (by rw [World.cell?_alloc_lt _ _ ⟨w.heap.size, 0, none⟩ (by simp)]; simp))
  have k32 := call32
  have k33 := call33
  have k34 := call34
  have k53 := call53
  have k63 := call63
  have k64 := call64
  have f1 := valueOf51
  have f2 := type51
  have f3 := methodKind
  have f4 := kind51
  have f5 := methodElem
  have f6 := elem51
  have f7 := kind35
  have f8 := methodImplements
  have f9 := implements35
  have n8 := isNil51 ⟨w.heap.size, 0, none⟩ ⟨tb, 0, none⟩ ((w.alloc (.cells #[.pointer (some ⟨tb, 0, none⟩)] 51)).alloc (.cells #[.pointer (some ⟨1, 51, none⟩), .pointer (some ⟨w.heap.size, 0, none⟩), .int .u64 150] 82)) (by simp)
  have g0 : ((w.alloc (.cells #[.pointer (some ⟨tb, 0, none⟩)] 51)).alloc (.cells #[.pointer (some ⟨1, 51, none⟩), .pointer (some ⟨w.heap.size, 0, none⟩), .int .u64 150] 82)).cell? ⟨0, 0, none⟩ = some (.iface 69 (.agg #[.pointer (some ⟨1, 25, none⟩)])) := hg.below HB hg.lt
  clear h35 HB hg
  go_enter Tryd.func29, Tryd.ntmps29
  go_wp2_with (first | (go_at_call 35; refine HA.out.mono ?_; rintro e w3 ⟨rfl, hq⟩))
  go_ret
  exact ⟨rfl, hq⟩
set_option maxHeartbeats 4000000 in
theorem As67 (b : Bool) (Q : World → Prop) (T : TypeId) (x : Value) (tb : Nat) (w : World) (hg : Handle w)
    (h35 : ∀ (w0 : World) (vb : Nat), Below w.heap.size w w0 → w0.cell? ⟨vb, 0, none⟩ = some (.pointer (some ⟨tb, 0, none⟩)) →
      Calls Tryd.prog 35 #[.iface T x, .iface 67 (.pointer (some ⟨tb, 0, none⟩)), .agg #[.pointer (some ⟨1, 67, none⟩), .pointer (some ⟨vb, 0, none⟩), .int .u64 150], .iface 69 (.agg #[.pointer (some ⟨1, 42, none⟩)])] w0 fun e w' => e = .returned (.bool b) ∧ Q w') :
    Calls Tryd.prog 29 #[.iface T x, .iface 67 (.pointer (some ⟨tb, 0, none⟩))] w fun e w' => e = .returned (.bool b) ∧ Q w' := by
  have HB : Below w.heap.size w ((w.alloc (.cells #[.pointer (some ⟨tb, 0, none⟩)] 67)).alloc (.cells #[.pointer (some ⟨1, 67, none⟩), .pointer (some ⟨w.heap.size, 0, none⟩), .int .u64 150] 82)) := ((Below.refl _ _).alloc (Nat.le_refl _) _).alloc (by simp) _
  have HA := Lib.hid (h35 _ w.heap.size HB (by rw [World.cell?_alloc_lt _ _ ⟨w.heap.size, 0, none⟩ (by simp)]; simp))
  have k32 := call32
  have k33 := call33
  have k34 := call34
  have k53 := call53
  have k63 := call63
  have k64 := call64
  have f1 := valueOf67
  have f2 := type67
  have f3 := methodKind
  have f4 := kind67
  have f5 := methodElem
  have f6 := elem67
  have f7 := kind42
  have f8 := methodImplements
  have f9 := implements42
  have n8 := isNil67 ⟨w.heap.size, 0, none⟩ ⟨tb, 0, none⟩ ((w.alloc (.cells #[.pointer (some ⟨tb, 0, none⟩)] 67)).alloc (.cells #[.pointer (some ⟨1, 67, none⟩), .pointer (some ⟨w.heap.size, 0, none⟩), .int .u64 150] 82)) (by simp)
  have g0 : ((w.alloc (.cells #[.pointer (some ⟨tb, 0, none⟩)] 67)).alloc (.cells #[.pointer (some ⟨1, 67, none⟩), .pointer (some ⟨w.heap.size, 0, none⟩), .int .u64 150] 82)).cell? ⟨0, 0, none⟩ = some (.iface 69 (.agg #[.pointer (some ⟨1, 25, none⟩)])) := hg.below HB hg.lt
  clear h35 HB hg
  go_enter Tryd.func29, Tryd.ntmps29
  go_wp2_with (first | (go_at_call 35; refine HA.out.mono ?_; rintro e w3 ⟨rfl, hq⟩))
  go_ret
  exact ⟨rfl, hq⟩

set_option maxHeartbeats 1000000 in
/-- fail's as, where errors.As doesn't panic. -/
theorem as21 (b : Bool) (Q : World → Prop) (T : TypeId) (x t : Value) (w : World)
    (h29 : Calls Tryd.prog 29 #[.iface T x, t] (w.alloc (.cells #[.bool false] 4)) fun e w' => e = .returned (.bool b) ∧ Q w')
    (hQ : ∀ w', Q w' → w'.cell? ⟨w.heap.size, 0, none⟩ = some (.bool false) ∧ w'.frozen? ⟨w.heap.size, 0, none⟩ = false) :
    Calls Tryd.prog 21 #[.iface T x, t] w fun e w' => e = .returned (.bool b) ∧ ∃ w2, Q w2 ∧ w' = w2.setCell ⟨w.heap.size, 0, none⟩ (.bool b) := by
  have HA := Lib.hid h29
  have HQ := Lib.hid hQ
  clear h29 hQ
  have h3 := hmf
  go_enter_defers Tryd.func21, Tryd.ntmps21
  go_wp2_with (go_at_call 29; refine HA.out.mono ?_; rintro e w3 ⟨rfl, hq⟩; obtain ⟨hc, hf⟩ := HQ.out _ hq)
  have hc2 : (w3.setCell ⟨w.heap.size, 0, none⟩ (.bool b)).cell? ⟨w.heap.size, 0, none⟩ = some (.bool b) := World.cell?_setCell_same _ _ _ hc
  refine leaves_cons (f := 28) (args := #[.pointer (some ⟨w.heap.size, 0, none⟩)]) (by simp) (by simp [go_sem]) ?_
  refine (idle28 ⟨w.heap.size, 0, none⟩ _).mono ?_
  rintro e u' w'' ⟨rfl, rfl, rfl⟩
  simp [Leaves, settle, results, Tryd.results21, go_sem, hc2]
  exact ⟨_, hq, rfl⟩
end Go.Proofs.YtmbjcgmcjackfaaDoor
