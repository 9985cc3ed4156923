/-
  The contract of awake: the document's example comes out as told. The condition: the variable errors.errorType reads as the type error's own handle.
-/
import Derived.Test.YtmbjcgmcjackfaaDoorNumber
import Derived.Test.YtmbjcgmcjackfaaDoorIs
namespace Go.Proofs.YtmbjcgmcjackfaaDoor
open Go.RowKit Go.Extern.Stop Go.Stop Go.Extern

abbrev sFrame : ByteArray := ⟨#[102, 114, 97, 109, 101]⟩
abbrev sJournal : ByteArray := ⟨#[106, 111, 117, 114, 110, 97, 108]⟩

theorem exChain (w : World) : Chain (w.heap.size + 2) ((w.alloc (.cells #[.string sFrame, .int .i64 2, .iface 35 (.int .i64 2)] 44)).alloc (.cells #[.string sJournal, .int .i64 7, .iface 42 (.pointer (some ⟨w.heap.size, 0, none⟩))] 44))
    [(sJournal, 7), (sFrame, 2)] (.iface 35 (.int .i64 2)) (.iface 42 (.pointer (some ⟨w.heap.size + 1, 0, none⟩))) := by
  refine ⟨w.heap.size + 1, _, rfl, by omega, by simp, by simp, by simp; rfl, ?_⟩
  refine ⟨w.heap.size, _, rfl, by omega, ?_, ?_, ?_, rfl⟩
  · rw [World.cell?_alloc_lt _ _ ⟨w.heap.size, 0, none⟩ (by simp)]; simp
  · rw [World.cell?_alloc_lt _ _ ⟨w.heap.size, 1, none⟩ (by simp)]; simp
  · rw [World.cell?_alloc_lt _ _ ⟨w.heap.size, 2, none⟩ (by simp)]; simp

set_option maxHeartbeats 4000000 in
theorem awake_true (w : World) (hg : Handle w) : Calls Tryd.prog 6 #[] w fun e w' => e = .returned (.bool true) ∧ Below w.heap.size w w' := by
  have hB : Below w.heap.size w ((w.alloc (.cells #[.string sFrame, .int .i64 2, .iface 35 (.int .i64 2)] 44)).alloc (.cells #[.string sJournal, .int .i64 7, .iface 42 (.pointer (some ⟨w.heap.size, 0, none⟩))] 44)) :=
    ((Below.refl _ _).alloc (Nat.le_refl _) _).alloc (by simp) _
  have HG := Lib.hid (hg.below hB hg.lt)
  have HX := Lib.hid (exChain w)
  clear hg
  go_enter Tryd.func6, Tryd.ntmps6
  go_wp2_with fail
  refine (at_some sFrame 2 35 (.int .i64 2) w).mono ?_
  rintro e w1 ⟨rfl, rfl⟩
  go_wp2_with fail
  refine (at_some sJournal 7 42 (.pointer (some ⟨w.heap.size, 0, none⟩)) _).mono ?_
  rintro e w1 ⟨rfl, rfl⟩
  obtain ⟨W, hW⟩ : ∃ W, W = ((w.alloc (.cells #[.string sFrame, .int .i64 2, .iface 35 (.int .i64 2)] 44)).alloc (.cells #[.string sJournal, .int .i64 7, .iface 42 (.pointer (some ⟨w.heap.size, 0, none⟩))] 44)) := ⟨_, rfl⟩
  rw [← hW] at HG HX hB ⊢
  have HS := Lib.hid (show W.heap.size = w.heap.size + 2 by rw [hW]; simp)
  have HP := HX.out
  obtain ⟨b, u, hv, _, c0, c1, _, _⟩ := HP
  obtain rfl : b = w.heap.size + 1 := by simpa using hv.symm
  have HPL := Lib.hid (place_some (w.heap.size + 1) (.string sJournal) (.int .i64 7) W HG.out c0 c1)
  clear hW hv c0 c1
  go_wp2_with (go_at_call 11; refine HPL.out.mono ?_; rintro e w3 ⟨rfl, hb3⟩)
  have hX3 : Chain w3.heap.size w3 [(sJournal, 7), (sFrame, 2)] (.iface 35 (.int .i64 2)) (.iface 42 (.pointer (some ⟨w.heap.size + 1, 0, none⟩))) := HX.out.mono (hb3.mono (by rw [HS.out]; exact Nat.le_refl _)) (by have := hb3.size; have := HS.out; omega)
  have hG3 : Handle w3 := HG.out.below hb3 (by have := HS.out; omega)
  have HN := Lib.hid (number_code _ 2 _ w3 hG3 hX3 (by simp))
  have HX3 := Lib.hid hX3
  clear hX3 hG3
  go_wp2_with (go_at_call 8; refine HN.out.mono ?_; rintro e w4 ⟨rfl, hb4⟩)
  have HI := Lib.hid (Is_chain w4.heap.size _ 2 2 _ w4 (HX3.out.mono hb4 hb4.size))
  go_wp2_with (go_at_call 12; refine HI.out.mono ?_; rintro e w5 ⟨rfl, rfl⟩)
  go_ret
  exact ⟨rfl, hB.trans ((hb3.trans (hb4.mono hb3.size)).mono (by have := HS.out; omega))⟩
end Go.Proofs.YtmbjcgmcjackfaaDoor
