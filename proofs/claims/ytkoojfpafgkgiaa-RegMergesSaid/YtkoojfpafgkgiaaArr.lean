/-
  Arrays of integers that lie in a block of their own (a variable, a parameter, a result), for any program: what their cells are, a store into one, what another store or a call leaves; the whole loaded, stored, returned; copy of a text onto the front of one of bytes. No conditions but those typed.
-/
import Derived.Laws.Rows
import Derived.Laws.CopyOwn
import Derived.Laws.CopyRow
import Derived.Deep.RegionLaw
import Derived.Test.YtkoojfpafgkgiaaText
import Derived.Below
import Derived.RowKit
namespace Go.Proofs.Ytkoojfpafgkgiaa
open Go.RowKit

/-- Numbers, as values of a kind. -/
def natVals (k : IntKind) (l : List Nat) : List Value := l.map fun (z : Nat) => Value.int k (z : Int)
theorem natVals_len (k : IntKind) (l : List Nat) : (natVals k l).length = l.length := by simp [natVals]
theorem natVals_at (k : IntKind) (l : List Nat) (i : Nat) : (natVals k l)[i]? = l[i]?.map fun (z : Nat) => Value.int k (z : Int) := by simp [natVals]
theorem natVals_set (k : IntKind) (l : List Nat) (i z : Nat) : (natVals k l).set i (.int k (z : Int)) = natVals k (l.set i z) := by simp [natVals, List.map_set]
theorem natVals_append (k : IntKind) (a b : List Nat) : natVals k (a ++ b) = natVals k a ++ natVals k b := by simp [natVals]
/-- An array of numbers, as a value. -/
def natsVal (k : IntKind) (l : List Nat) : Value := .agg (natVals k l).toArray

/-- The block g is an array of these numbers. -/
def Arr (g : Nat) (t : TypeId) (k : IntKind) (l : List Nat) (w : World) : Prop := w.heap[g]? = some (.cells (natVals k l).toArray t (0, 0))

section
variable {g : Nat} {t : TypeId} {k : IntKind} {l : List Nat} {w w' : World}
theorem Arr.lt (h : Arr g t k l w) : g < w.heap.size := (Array.getElem?_eq_some_iff.1 h).1
theorem Arr.cell (h : Arr g t k l w) {i z : Nat} (hz : l[i]? = some z) : w.cell? ⟨g, i, none⟩ = some (.int k (z : Int)) := by
  rw [cell_of_row w g i _ t (0, 0) h]
  simp [natVals, hz]
theorem Arr.cellD (h : Arr g t k l w) {i : Nat} (hi : i < l.length) : w.cell? ⟨g, i, none⟩ = some (.int k (l.getD i 0 : Nat)) := h.cell (by simp [List.getD, hi])
theorem Arr.free (h : Arr g t k l w) (i : Nat) : w.frozen? ⟨g, i, none⟩ = false := frozen_of_row w g i _ t h
theorem Arr.set (h : Arr g t k l w) (i z : Nat) : Arr g t k (l.set i z) (w.setCell ⟨g, i, none⟩ (.int k (z : Int))) := by
  have := heap_setCell_same (i := i) w g _ t (.int k (z : Int)) h
  unfold Arr
  rw [this, ← natVals_set]
  simp
theorem Arr.other (h : Arr g t k l w) (a : Addr) (v : Value) (hne : g ≠ a.block) : Arr g t k l (w.setCell a v) := (heap_setCell_other w a g v hne).trans h
theorem Arr.kept (h : Arr g t k l w) {B : Nat} (hb : Below B w w') (hg : g < B) : Arr g t k l w' := (hb.block g hg).trans h
theorem Arr.alloc (h : Arr g t k l w) (o : Obj) : Arr g t k l (w.alloc o) := ((by first | exact heap_alloc_old w o g h.lt | exact heap_alloc_old w o h.lt : (w.alloc o).heap[g]? = w.heap[g]?)).trans h
theorem Arr.drew (h : Arr g t k l w) : Arr g t k l w.drew := h
theorem Arr.new (w : World) (t : TypeId) (k : IntKind) (l : List Nat) : Arr w.heap.size t k l (w.alloc (.cells (natVals k l).toArray t)) := heap_alloc_new w _
theorem Arr.row (h : Arr g t k l w) (l' : List Nat) : Arr g t k l' (w.setRow g (natVals k l').toArray) := setRow_heap w g _ _ t _ h
theorem Arr.rowOther {g' : Nat} (h : Arr g t k l w) (cs : Array Value) (hne : g ≠ g') : Arr g t k l (w.setRow g' cs) := (setRow_other w g' g cs hne).trans h
end

open TextNat in
theorem run_copy_text {P : Program} (w : World) (dT sT ty elem : TypeId) (g dLen dCap : Nat) (s : ByteArray) (l : List Nat) (t : TypeId)
    (hu : P.underlying dT = some (.slice elem)) (hs : (P.info? elem).map (·.size) = some 1) (hg : Arr g t .u8 l w) (hl : l.length = dLen) :
    (Builtin.copy_ #[dT, sT] ty #[.slice (some ⟨g, 0, none⟩) dLen dCap, .string s]).run P w =
      .ok (goInt (Nat.min s.size dLen)) (w.setRow g (natVals .u8 ((nats s).take dLen ++ l.drop s.size)).toArray) := by
  have hv : List.take (Nat.min s.size dLen) (List.map (fun b : UInt8 => Value.int IntKind.u8 (b.toNat : Int)) s.data.toList) = natVals .u8 ((nats s).take dLen) := by
    have e : List.map (fun b : UInt8 => Value.int IntKind.u8 (b.toNat : Int)) s.data.toList = natVals .u8 (nats s) := by simp [natVals, nats, Function.comp_def]
    rw [e]
    have hn : (natVals .u8 (nats s)).length = s.size := by rw [natVals_len, nats_len]
    have e2 : natVals .u8 ((nats s).take dLen) = (natVals .u8 (nats s)).take dLen := by simp [natVals, List.map_take]
    rw [e2]
    by_cases h : s.size ≤ dLen
    · rw [show Nat.min s.size dLen = s.size from Nat.min_eq_left h, List.take_of_length_le (by omega), List.take_of_length_le (by omega)]
    · rw [show Nat.min s.size dLen = dLen from Nat.min_eq_right (by omega)]
  have hlen : (natVals .u8 ((nats s).take dLen)).length = Nat.min s.size dLen := by
    rw [natVals_len, List.length_take, nats_len]
    exact Nat.min_comm _ _
  have hst := run_storeCells_at (P := P) g 0 t (natVals .u8 ((nats s).take dLen)) 0 _ w hg (by rw [hlen]; simp only [List.size_toArray, natVals_len, hl]; have := Nat.min_le_right s.size dLen; show 0 + 0 + min s.size dLen ≤ dLen; omega) (fun v hv => by
    obtain ⟨z, _, rfl⟩ := List.mem_map.1 hv
    rfl)
  have hd : l.drop (Nat.min s.size dLen) = l.drop s.size := by
    by_cases h : s.size ≤ dLen
    · rw [show Nat.min s.size dLen = s.size from Nat.min_eq_left h]
    · rw [show Nat.min s.size dLen = dLen from Nat.min_eq_right (by omega), List.drop_of_length_le (by omega), List.drop_of_length_le (by omega)]
  rw [hlen] at hst
  simp only [Nat.add_zero, Nat.zero_add, List.take_zero, List.nil_append] at hst
  have hdd : (natVals .u8 l).drop (Nat.min s.size dLen) = natVals .u8 (l.drop s.size) := by
    rw [← hd]; simp [natVals, List.map_drop]
  rw [hdd, ← natVals_append] at hst
  cases hq : P.info? elem with
  | none => simp [hq] at hs
  | some i =>
    have h1 : i.size = 1 := by simpa [hq] using hs
    simp [Builtin.copy_, run_underlying hu, Builtin.lenOf, Builtin.firstCells, sizeOf, typeInfo, hq]
    rw [hv, hst]
    simp [Result.andThen]

open TextNat in
/-- copy(b[:], s), b an array of the call's own. -/
theorem wpList_copy_text {P : Program} {w : World} {ops : Array Oper} {rest : List Oper} {o : Oper} {a : Act} {Q : Exit → Act → World → Prop} (hgd : o.guard = none) (d x : Operand) (dT sT : TypeId)
    (ho : o.op = .call { callee := .builtin .copy, args := #[d, x], argTypes := #[dT, sT] }) (elem : TypeId) (hu : P.underlying dT = some (.slice elem)) (hsz : (P.info? elem).map (·.size) = some 1)
    (g dLen dCap : Nat) (s : ByteArray) (hd : a.eval d = .slice (some ⟨g, 0, none⟩) dLen dCap) (hx : a.eval x = .string s) (t : TypeId) (l : List Nat) (hg : Arr g t .u8 l w) (hl : l.length = dLen)
    (h : wpList P ops Q rest (a.put o.dst (goInt (Nat.min s.size dLen))) (w.setRow g (natVals .u8 ((nats s).take dLen ++ l.drop s.size)).toArray)) : wpList P ops Q (o :: rest) a w := by
  refine wpList_plain hgd fun K hK => ?_
  have hrun := run_copy_text (P := P) w dT sT o.type elem g dLen dCap s l t hu hsz hg hl
  unfold Oper.wp
  simp [execOp, ho, resolve, invoke, builtin, hd, hx, hrun, Result.andThen]
  exact hK _ _ h

open TextNat in
/-- .. with what comes of it named. -/
theorem wpList_copy_text_to {P : Program} {w : World} {ops : Array Oper} {rest : List Oper} {o : Oper} {a : Act} {Q : Exit → Act → World → Prop} (hgd : o.guard = none) (d x : Operand) (dT sT : TypeId)
    (ho : o.op = .call { callee := .builtin .copy, args := #[d, x], argTypes := #[dT, sT] }) (elem : TypeId) (hu : P.underlying dT = some (.slice elem)) (hsz : (P.info? elem).map (·.size) = some 1)
    (g dLen dCap : Nat) (s : ByteArray) (hd : a.eval d = .slice (some ⟨g, 0, none⟩) dLen dCap) (hx : a.eval x = .string s) (t : TypeId) (l : List Nat) (hg : Arr g t .u8 l w) (hl : l.length = dLen)
    (n : Nat) (hn : min s.size dLen = n) (C : Array Value) (hC : C = (natVals .u8 ((nats s).take dLen ++ l.drop s.size)).toArray)
    (h : wpList P ops Q rest (a.put o.dst (.int .i64 (n : Int))) (w.setRow g C)) : wpList P ops Q (o :: rest) a w := by
  refine wpList_copy_text hgd d x dT sT ho elem hu hsz g dLen dCap s hd hx t l hg hl ?_
  rw [← hC, show Nat.min s.size dLen = n from hn]
  exact h
end Go.Proofs.Ytkoojfpafgkgiaa
