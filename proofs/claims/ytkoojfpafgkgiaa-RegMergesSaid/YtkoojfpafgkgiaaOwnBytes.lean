/-
  A row of bytes that the call itself made, as bytes: opened, and with one byte written. No conditions but those typed.
-/
import Derived.Test.YtkoojfpafgkgiaaArrays
import Derived.OwnWalk
import Derived.Laws.OwnMore
namespace Go.Proofs.Ytkoojfpafgkgiaa
open Go.RowKit

/-- Bytes, as values. -/
def byteVals (zs : List Nat) : List Value := zs.map fun (z : Nat) => Value.int .u8 (z : Int)
theorem byteVals_len (zs : List Nat) : (byteVals zs).length = zs.length := by simp [byteVals]
theorem byteVals_at (zs : List Nat) (i : Nat) : (byteVals zs)[i]? = zs[i]?.map fun (z : Nat) => Value.int .u8 (z : Int) := by simp [byteVals]
theorem byteVals_set (zs : List Nat) (i z : Nat) : (byteVals zs).set i (.int .u8 (z : Int)) = byteVals (zs.set i z) := by simp [byteVals, List.map_set]
theorem byteVals_one (zs : List Nat) : ∀ u ∈ byteVals zs, u.oneCell' = true := by
  intro u hu
  obtain ⟨z, _, rfl⟩ := List.mem_map.1 hu
  rfl
/-- The cells that a slice of bytes came in with are these values. -/
theorem Bytes.news {w : World} {b off : Nat} {zs : List Nat} (h : Bytes w (some ⟨b, off, none⟩) zs) : ∀ j u, (byteVals zs)[j]? = some u → w.cell? ((⟨b, off, none⟩ : Addr).add j) = some u := by
  intro j u hu
  rw [byteVals_at] at hu
  obtain ⟨z, hz, rfl⟩ := Option.map_eq_some_iff.1 hu
  obtain ⟨_, b', off', hp, hc⟩ := h j z hz
  simp only [Option.some.injEq, Addr.mk.injEq] at hp
  obtain ⟨rfl, rfl, _⟩ := hp
  rw [WideShapes.add_plain]
  exact hc
/-- A row that is owned, of at least one byte. -/
theorem bytes_of_own {zs : List Nat} {base n : Nat} {v : Value} {e : TypeId} {w : World} (h : w.ownsRow base e 1 v n (byteVals zs)) (hn : n = zs.length) (hz : ∀ i z : Nat, zs[i]? = some z → z < 256) (h0 : 0 < n) :
    ∃ G cap, v = .slice (some ⟨G, 0, none⟩) n cap ∧ base ≤ G ∧ G < w.heap.size ∧ (∀ j, w.frozen? ⟨G, j, none⟩ = false) ∧ Bytes w (some ⟨G, 0, none⟩) zs := by
  rcases h.2 with ⟨_, h1⟩ | ⟨G, cap, cur, rfl, hG, hh, _⟩
  · omega
  · refine ⟨G, cap, rfl, hG, (h.lt G rfl).2, fun j => h.frozenAt j, fun i z hi => ⟨hz i z hi, G, 0, rfl, ?_⟩⟩
    have hlt : i < n := by rw [hn]; exact (List.getElem?_eq_some_iff.1 hi).1
    rw [Nat.zero_add, h.cellAt i (by omega), byteVals_at, hi]
    rfl
end Go.Proofs.Ytkoojfpafgkgiaa
