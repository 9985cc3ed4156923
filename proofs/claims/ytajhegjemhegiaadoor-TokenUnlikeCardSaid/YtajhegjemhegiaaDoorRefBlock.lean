/-
  One block of the document's own Digest of chapter 3: the round of its outer loop, taken out of the translation. The conditions: the message's cells, the constants' and the last block's words are told.
-/
import Derived.Test.YtajhegjemhegiaaDoorPart01
import Derived.Test.YtajhegjemhegiaaDoorPart03
import Derived.Test.YtajhegjemhegiaaDoorPart12
import Derived.Test.YtajhegjemhegiaaDoorPart13
import Derived.BigQuiet
import Derived.Deep.RegionWith
import Derived.Deep.RegionLaw
import Derived.StillTailTactics
namespace Go.Proofs.YtajhegjemhegiaaDoor
open Go.RowKit ShaMath TextNat

theorem infoB : (Tryd.prog.info? 5).map (fun i => (i.zero, i.size, i.bytes)) = some (some (.int .u8 0), 1, 1) := by kernel_rfl
theorem infoW : (Tryd.prog.info? 102).map (fun i => (i.zero, i.size, i.bytes)) = some (some (.int .u32 0), 1, 4) := by kernel_rfl

theorem byteVals_nats (s : ByteArray) : (s.data.toList.map fun (b : UInt8) => Value.int .u8 (b.toNat : Int)) = byteVals (nats s) := by
  simp [byteVals, nats, Function.comp_def]
theorem byteVals_append (a b : List Nat) : byteVals (a ++ b) = byteVals a ++ byteVals b := by simp [byteVals]
theorem one_new (w : World) (u : Value) (T : TypeId) : ∀ j x, [u][j]? = some x → (w.alloc (.cells #[u] T)).cell? ((⟨w.heap.size, 0, none⟩ : Addr).add j) = some x := by
  intro j x hj
  match j, hj with
  | 0, hj => simp at hj; subst hj; simp [Addr.add]

theorem one_at (w : World) (u : Value) (T : TypeId) (B : Nat) (hB : B = w.heap.size) : ∀ j x, [u][j]? = some x → (w.alloc (.cells #[u] T)).cell? ((⟨B, 0, none⟩ : Addr).add j) = some x := by
  subst hB
  exact one_new w u T

theorem cells_new (w : World) (l : List Value) (T : TypeId) (B : Nat) (hB : B = w.heap.size) : ∀ j x, l[j]? = some x → (w.alloc (.cells l.toArray T)).cell? ((⟨B, 0, none⟩ : Addr).add j) = some x := by
  subst hB
  intro j x hj
  rw [WideShapes.add_plain, Nat.zero_add, World.cell?_alloc_mark]
  simpa using hj
theorem eight_vals (x : Nat) : byteVals (eight x) = [.int .u8 ((x : Int) / 256 / 256 / 256 / 256 / 256 / 256 / 256 % 256), .int .u8 ((x : Int) / 256 / 256 / 256 / 256 / 256 / 256 % 256), .int .u8 ((x : Int) / 256 / 256 / 256 / 256 / 256 % 256), .int .u8 ((x : Int) / 256 / 256 / 256 / 256 % 256), .int .u8 ((x : Int) / 256 / 256 / 256 % 256), .int .u8 ((x : Int) / 256 / 256 % 256), .int .u8 ((x : Int) / 256 % 256), .int .u8 ((x : Int) % 256)] := by
  simp only [byteVals, eight, four, List.map_cons, List.map_nil, List.cons_append, List.nil_append]
  simp only [List.cons.injEq, Value.int.injEq, true_and, and_true]
  omega
theorem four_vals (x : Nat) : byteVals (four x) = [.int .u8 ((x : Int) / 256 / 256 / 256 % 256), .int .u8 ((x : Int) / 256 / 256 % 256), .int .u8 ((x : Int) / 256 % 256), .int .u8 ((x : Int) % 256)] := by
  simp only [byteVals, four, List.map_cons, List.map_nil]
  simp only [List.cons.injEq, Value.int.injEq, true_and, and_true]
  omega
/-- A block's cells are these words. -/
def Words (w : World) (B : Nat) (l : List Nat) : Prop := ∀ i z : Nat, l[i]? = some z → z < 4294967296 ∧ w.cell? ⟨B, i, none⟩ = some (.int .u32 (z : Int))
theorem Words.grown {w w' : World} {B : Nat} {l : List Nat} (h : Words w B l) (hb : Below w.heap.size w w') : Words w' B l := fun i z hz => by
  obtain ⟨h1, h3⟩ := h i z hz
  exact ⟨h1, (hb.cell (p := ⟨B, i, none⟩) (World.block_lt_of_cell? w _ h3)).trans h3⟩
def wordVals (l : List Nat) : List Value := l.map fun (z : Nat) => Value.int .u32 (z : Int)
theorem wordVals_at (l : List Nat) (i : Nat) : (wordVals l)[i]? = l[i]?.map fun (z : Nat) => Value.int .u32 (z : Int) := by simp [wordVals]
theorem wordVals_append (a b : List Nat) : wordVals (a ++ b) = wordVals a ++ wordVals b := by simp [wordVals]
theorem words_new (w : World) (l : List Nat) (T : TypeId) (hl : ∀ z ∈ l, z < 4294967296) : Words (w.alloc (.cells (wordVals l).toArray T)) w.heap.size l := by
  intro i z hz
  refine ⟨hl z (List.mem_of_getElem? hz), ?_⟩
  rw [World.cell?_alloc_mark]
  simp [wordVals, hz]
theorem kCells_vals : kCells = (wordVals ks).toArray := rfl
theorem ks_lt : ∀ z ∈ ks, z < 4294967296 := by decide
theorem regs_lt {r : Regs} (h : r.Ok) : ∀ z ∈ r.list, z < 4294967296 := by
  intro z hz
  simp only [Regs.list, List.mem_cons, List.not_mem_nil, or_false] at hz
  obtain ⟨h1, h2, h3, h4, h5, h6, h7, h8⟩ := h
  rcases hz with rfl | rfl | rfl | rfl | rfl | rfl | rfl | rfl <;> assumption

/-- Bytes in memory, as a text. -/
theorem text_any (w : World) (B cap : Nat) (D : List Nat) (hD : ∀ b ∈ D, b < 256) (hc : ∀ j, j < D.length → w.cell? ⟨B, j, none⟩ = (byteVals D)[j]?) :
    (convert 43 9 (.slice (some ⟨B, 0, none⟩) D.length cap)).run Tryd.prog w = .ok (.string (txt D)) w := by
  have h := run_convert_bytes_back (P := Tryd.prog) w 43 9 5 ⟨B, 0, none⟩ cap (D.map UInt8.ofNat) Tryd.underlying43 Tryd.underlying5 Tryd.underlying9 (fun j hj => by
    have hj' : j < D.length := by simpa using hj
    rw [WideShapes.add_plain, Nat.zero_add, hc j hj', byteVals_at, List.getElem?_eq_getElem hj']
    have hb := hD D[j] (List.getElem_mem hj')
    simp [Nat.mod_eq_of_lt hb])
  rw [List.length_map] at h
  exact h

/-- The bodies of a code's loops, the outer ones first. -/
def loopsOf : Code → List Code
  | .loop c => c :: loopsOf c
  | .seq a b => loopsOf a ++ loopsOf b
  | .block _ c => loopsOf c
  | .scope c => loopsOf c
  | .cond _ a b => loopsOf a ++ loopsOf b
  | _ => []
end Go.Proofs.YtajhegjemhegiaaDoor
