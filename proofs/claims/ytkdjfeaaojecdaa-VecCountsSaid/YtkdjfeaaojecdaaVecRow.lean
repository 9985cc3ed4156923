/-
  Rows of ints that the call itself made: a store into one, one made with noughts, one of a block that is known whole. No conditions but those typed.
-/
import Derived.Test.YtkdjfeaaojecdaaVecPTrim
import Derived.Laws.CopyOwn
import Derived.Laws.MakeOwn
namespace VecMath
theorem cnt_set {L : List Int} {k : Nat} (hk : k < L.length) (n : Int) (i : Nat) : cnt (L.set k n) i = if i = k then n else cnt L i := by
  unfold cnt
  rw [List.getD_eq_getElem?_getD, List.getD_eq_getElem?_getD, List.getElem?_set]
  by_cases h : i = k
  · rw [if_pos h.symm, if_pos h, if_pos (by rw [h.symm] at hk; exact h ▸ hk)]
    rfl
  · rw [if_neg (fun e => h e.symm), if_neg h]
theorem cnt_pad (l : List Int) (k i : Nat) : cnt (l ++ List.replicate k 0) i = cnt l i := by
  unfold cnt
  rw [List.getD_eq_getElem?_getD, List.getD_eq_getElem?_getD, List.getElem?_append]
  split
  · rfl
  · rename_i h
    rw [show l[i]? = none from List.getElem?_eq_none (by omega), List.getElem?_replicate]
    split <;> rfl
theorem with_set {l : List Int} {M k : Nat} {n : Int} (h1 : 1 ≤ M) (h2 : M ≤ 16) (hk : M ≤ l.length + k) : with_ l (M : Int) n = trim ((l ++ List.replicate k 0).set (M - 1) n) := by
  unfold with_
  rw [if_pos ⟨by omega, by omega⟩]
  rw [show (M : Int).toNat - 1 = M - 1 by omega]
  have hw : withN l (M - 1) n = trim (withN l (M - 1) n) := (trim_trim _).symm
  rw [hw]
  refine trim_ext fun i => ?_
  rw [cnt_with, cnt_set (by rw [List.length_append, List.length_replicate]; omega), cnt_pad]
end VecMath
namespace Go.Proofs.Ytkdjfeaaojecdaa
open Go.RowKit

theorem Fits.set {L : List Int} (h : Fits L) (k : Nat) {n : Int} (hn : -9223372036854775808 ≤ n ∧ n ≤ 9223372036854775807) : Fits (L.set k n) := fun z hz => by
  rcases List.mem_or_eq_of_mem_set hz with hz | rfl
  · exact h z hz
  · exact hn
theorem Fits.pad {L : List Int} (h : Fits L) (k : Nat) : Fits (L ++ List.replicate k 0) := fun z hz => by
  rcases List.mem_append.1 hz with hz | hz
  · exact h z hz
  · rw [(List.mem_replicate.1 hz).2]
    omega
/-- A store into such a row. -/
theorem NewVec.set {w : World} {B g n cap : Nat} {L : List Int} (h : NewVec B w (.slice (some ⟨g, 0, none⟩) n cap) L) (j : Nat) (z : Int) : NewVec B (w.setCell ⟨g, j, none⟩ (.int .i64 z)) (.slice (some ⟨g, 0, none⟩) n cap) (L.set j z) := by
  have hn : n = L.length := by
    obtain ⟨p, c, he⟩ := OwnsM.shape h
    simpa using congrArg (fun v => match v with | .slice _ m _ => m | _ => 0) he
  refine ⟨by rw [List.length_map], ?_⟩
  rcases h.2 with ⟨h1, _⟩ | ⟨g', cap', cur, lo, hi, hv, hb, hg, hm, hnc, hcm, hcs, htake⟩
  · cases h1
  · obtain ⟨rfl, rfl⟩ : g = g' ∧ cap = cap' := by simpa [hn] using hv
    refine .inr ⟨g, cap, cur.setIfInBounds j (.int .i64 z), lo, hi, by rw [List.length_set, hn], hb, ?_, ?_, by rw [List.length_set]; exact hnc, hcm, by simpa using hcs, ?_⟩
    · rw [setCell_eq_setRow w g j cur 3 (lo, hi) _ hg]
      exact setRow_heap w g cur _ 3 _ hg
    · rcases hm with h | h
      · exact .inl h
      · exact .inr (by simpa using h)
    · rw [Array.toList_setIfInBounds, List.length_set, List.take_set, htake, List.map_set]
theorem below_store {B g j : Nat} {a w : World} {v : Value} (h : Below B a w) (hg : B ≤ g) : Below B a (w.setCell ⟨g, j, none⟩ v) :=
  ⟨h.os, h.tape, h.output, by have := h.size; simpa [World.setCell] using this, fun k hk => (Below.heap_setCell _ _ _ _ (by show k ≠ g; omega)).trans (h.block k hk)⟩
/-- A block that is known whole. -/
theorem NewVec.whole {w : World} {B g : Nat} {L : List Int} {V : List Value} (hV : V = L.map (Value.int .i64)) (hg : w.heap[g]? = some (.cells V.toArray 3 (0, 0))) (hb : B ≤ g) (hm : L.length ≤ 1000000) : NewVec B w (.slice (some ⟨g, 0, none⟩) L.length L.length) L := by
  subst hV
  refine ⟨by rw [List.length_map], .inr ⟨g, _, _, 0, 0, rfl, hb, hg, .inl rfl, Nat.le_refl _, by unfold maxLen; omega, by simp, ?_⟩⟩
  rw [List.take_of_length_le (by simp)]
/-- A slice of noughts. -/
theorem made_noughts (L : Nat) (hL : L ≤ 1000000) : ∀ u : World, (Instr.makeSlice 26 (.int .i64 (L : Int)) (.int .i64 (L : Int))).run Try.prog u = .ok (.slice (some ⟨u.heap.size, 0, none⟩) L L) (u.alloc (.cells (List.replicate L (Value.int .i64 0)).toArray 3)) := fun u => by
  obtain ⟨ii, hii, hi0, hi1, hi2⟩ := info_parts info_int
  have h := run_make (P := Try.prog) u 26 3 ii (.int .i64 0) Try.underlying26 hii hi0 .i64 .i64 (L : Int) (L : Int) (by omega) (Int.le_refl _) (by rw [hi2]; omega) (by omega)
  rw [h, hi1, Nat.mul_one, Int.toNat_natCast]
  have e : madeCells (Value.int IntKind.i64 0).cells L = (List.replicate L (Value.int .i64 0)).toArray := by
    apply Array.toList_inj.1
    exact toList_madeCells_one _ _
  rw [e]
end Go.Proofs.Ytkdjfeaaojecdaa
