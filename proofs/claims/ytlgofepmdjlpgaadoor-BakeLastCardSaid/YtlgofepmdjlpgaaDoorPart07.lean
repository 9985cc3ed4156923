/-
  Texts of one claim, merged.
  TextAll: Plain mathematics of chapter 4: texts of octets, tokens, what is trimmed. No program, no conditions but those typed.
  Arr: Arrays of integers that lie in a block of their own (a variable, a parameter, a result), for any program: what their cells are, a store into one, what another store or a call leaves; the whole loaded, stored, returned; copy of a text onto the front of one of bytes. No conditions but those typed.
-/
import Derived.Test.YtlgofepmdjlpgaaDoorPart01
import Derived.Test.YtlgofepmdjlpgaaDoorPart02
import Derived.Lib.Strings
import Derived.Laws.Rows
import Derived.Laws.CopyOwn
import Derived.Laws.CopyRow
import Derived.Deep.RegionLaw
import Derived.Below
import Derived.RowKit
namespace Go.Proofs.YtlgofepmdjlpgaaDoor
open TextNat

theorem all_false {l : List Nat} {p : Nat → Bool} {i z : Nat} (h : l[i]? = some z) (hp : p z = false) : l.all p = false := by
  rw [Bool.eq_false_iff]
  intro ha
  rw [List.all_eq_true] at ha
  rw [ha z (List.mem_of_getElem? h)] at hp
  cases hp

theorem all_step {l : List Nat} {p : Nat → Bool} {i z : Nat} (h : l[i]? = some z) (ha : (l.take i).all p = true) (hp : p z = true) : (l.take (i + 1)).all p = true := by
  rw [List.take_add_one, h, List.all_append, ha]
  simp [hp]

def baseOctet (c : Nat) : Bool := (decide (97 ≤ c) && decide (c ≤ 122)) || (decide (65 ≤ c) && decide (c ≤ 90)) || (decide (48 ≤ c) && decide (c ≤ 57))

theorem token_split (c : Nat) : TextMath.tokenOctet c = (baseOctet c || TextMath.signs.contains c) := rfl

theorem sign_at : ∀ (k : Nat) (h : k < (⟨#[33, 35, 36, 37, 38, 39, 42, 43, 45, 46, 94, 95, 96, 124, 126]⟩ : ByteArray).size), ((⟨#[33, 35, 36, 37, 38, 39, 42, 43, 45, 46, 94, 95, 96, 124, 126]⟩ : ByteArray)[k]'h).toNat = TextMath.signs.getD k 0 := by
  intro k h
  have h15 : k < 15 := h
  have : k = 0 ∨ k = 1 ∨ k = 2 ∨ k = 3 ∨ k = 4 ∨ k = 5 ∨ k = 6 ∨ k = 7 ∨ k = 8 ∨ k = 9 ∨ k = 10 ∨ k = 11 ∨ k = 12 ∨ k = 13 ∨ k = 14 := by omega
  rcases this with rfl | rfl | rfl | rfl | rfl | rfl | rfl | rfl | rfl | rfl | rfl | rfl | rfl | rfl | rfl <;> rfl

theorem take_contains (l : List Nat) (k c : Nat) (h : k < l.length) : (l.take (k + 1)).contains c = ((l.take k).contains c || (c == l.getD k 0)) := by
  have e : l.getD k 0 = l[k] := by simp [List.getD, h]
  rw [e, Bool.eq_iff_iff, Bool.or_eq_true, List.contains_iff_mem, List.contains_iff_mem, beq_iff_eq, List.take_add_one, List.getElem?_eq_getElem h, List.mem_append]
  simp

theorem drop_all {p : Nat → Bool} : ∀ (A X : List Nat), (∀ a ∈ A, p a = true) → (A ++ X).dropWhile p = X.dropWhile p
  | [], _, _ => rfl
  | a :: A, X, h => by
    rw [List.cons_append, List.dropWhile_cons, if_pos (h a (by simp))]
    exact drop_all A X (fun b hb => h b (by simp [hb]))

theorem drop_none {p : Nat → Bool} (X : List Nat) (h : ∀ z, X[0]? = some z → p z = false) : X.dropWhile p = X := by
  cases X with
  | nil => rfl
  | cons a r =>
    have := h a rfl
    rw [List.dropWhile_cons, if_neg (by rw [this]; decide)]

/-- What is left without blanks around, told by its two ends. -/
theorem trim_ends (l : List Nat) (i t : Nat) (hit : i ≤ t) (ht : t ≤ l.length) (h1 : ∀ j z, j < i → l[j]? = some z → TextMath.blank z = true) (h2 : ∀ z, l[i]? = some z → i < t → TextMath.blank z = false)
    (h3 : ∀ j z, t ≤ j → l[j]? = some z → TextMath.blank z = true) (h4 : ∀ z, i < t → l[t - 1]? = some z → TextMath.blank z = false) (h5 : i = t → i = l.length) : TextMath.trim l = (l.take t).drop i := by
  obtain ⟨A, hA⟩ : ∃ A, A = l.take i := ⟨_, rfl⟩
  obtain ⟨B, hB⟩ : ∃ B, B = (l.take t).drop i := ⟨_, rfl⟩
  obtain ⟨C, hC⟩ : ∃ C, C = l.drop t := ⟨_, rfl⟩
  have hl : l = A ++ (B ++ C) := by
    rw [hA, hB, hC, ← List.append_assoc]
    have e : l.take i ++ (l.take t).drop i = l.take t := by
      have := List.take_append_drop i (l.take t)
      rw [List.take_take, Nat.min_eq_left hit] at this
      exact this
    rw [e, List.take_append_drop]
  have hAl : A.length = i := by rw [hA, List.length_take]; omega
  have hBl : B.length = t - i := by rw [hB, List.length_drop, List.length_take]; omega
  have hAb : ∀ a ∈ A, TextMath.blank a = true := by
    intro a ha
    obtain ⟨j, hj, e⟩ := List.getElem_of_mem ha
    refine h1 j a (by omega) ?_
    rw [hl, List.getElem?_append_left hj, List.getElem?_eq_getElem hj, e]
  have hCb : ∀ a ∈ C, TextMath.blank a = true := by
    intro a ha
    obtain ⟨j, hj, e⟩ := List.getElem_of_mem ha
    refine h3 (t + j) a (by omega) ?_
    rw [← List.getElem?_drop, ← hC, List.getElem?_eq_getElem hj, e]
  rw [← hB]
  unfold TextMath.trim
  have e1 : l.dropWhile TextMath.blank = B ++ C := by
    conv => lhs; rw [hl]
    rw [drop_all A _ hAb]
    by_cases hlt : i < t
    · refine drop_none _ (fun z hz => h2 z ?_ hlt)
      rw [hl, List.getElem?_append_right (by omega), hAl, Nat.sub_self]
      exact hz
    · have h6 := h5 (by omega)
      have : B = [] := List.eq_nil_of_length_eq_zero (by omega)
      have h7 : C = [] := by rw [hC]; exact List.drop_of_length_le (by omega)
      rw [this, h7]
      rfl
  rw [e1, List.reverse_append, drop_all C.reverse _ (fun a ha => hCb a (List.mem_reverse.1 ha))]
  have e2 : B.reverse.dropWhile TextMath.blank = B.reverse := by
    refine drop_none _ (fun z hz => ?_)
    have hne : 0 < B.length := by
      have := (List.getElem?_eq_some_iff.1 hz).1
      simpa using this
    refine h4 z (by omega) ?_
    rw [hl, List.getElem?_append_right (by omega), List.getElem?_append_left (by omega), hAl]
    rw [List.getElem?_reverse hne] at hz
    rw [show t - 1 - i = B.length - 1 - 0 by omega]
    exact hz
  rw [e2, List.reverse_reverse]

theorem text_extract (s : ByteArray) (i t : Nat) : nats (s.extract i t) = ((nats s).take t).drop i := by
  unfold nats
  rw [Lib.extract_data, List.map_take, List.map_drop, List.drop_take]

theorem head_drop {p : Nat → Bool} : ∀ (l : List Nat) (z : Nat), (l.dropWhile p)[0]? = some z → p z = false
  | [], _, h => by simp at h
  | a :: r, z, h => by
    rw [List.dropWhile_cons] at h
    split at h
    · exact head_drop r z h
    · rename_i hp
      simp at h
      rw [← h]
      simpa using hp
theorem drop_suffix {p : Nat → Bool} (l : List Nat) : ∃ A, l = A ++ l.dropWhile p := ⟨l.takeWhile p, (List.takeWhile_append_dropWhile).symm⟩
/-- What is trimmed is trimmed. -/
theorem trim_trim (l : List Nat) : TextMath.trim (TextMath.trim l) = TextMath.trim l := by
  obtain ⟨A, hA⟩ : ∃ A, A = l.dropWhile TextMath.blank := ⟨_, rfl⟩
  obtain ⟨B, hB⟩ : ∃ B, B = A.reverse.dropWhile TextMath.blank := ⟨_, rfl⟩
  have e1 : TextMath.trim l = B.reverse := by unfold TextMath.trim; rw [← hA, ← hB]
  obtain ⟨C, hC⟩ := drop_suffix (p := TextMath.blank) A.reverse
  rw [← hB] at hC
  have hA2 : A = B.reverse ++ C.reverse := by rw [← List.reverse_append, ← hC, List.reverse_reverse]
  have h1 : B.reverse.dropWhile TextMath.blank = B.reverse := drop_none _ fun z hz => by
    refine head_drop l z ?_
    rw [← hA, hA2]
    cases hb : B.reverse with
    | nil => rw [hb] at hz; simp at hz
    | cons a r => rw [hb] at hz; simpa using hz
  have h2 : B.dropWhile TextMath.blank = B := drop_none _ fun z hz => head_drop A.reverse z (by rw [← hB]; exact hz)
  rw [e1]
  unfold TextMath.trim
  rw [h1, List.reverse_reverse, h2]
theorem trim_lt (l : List Nat) (h : ∀ b ∈ l, b < 256) : ∀ b ∈ TextMath.trim l, b < 256 := by
  intro b hb
  have h1 := List.mem_reverse.1 hb
  have h2 := List.mem_reverse.1 ((List.dropWhile_sublist _).subset h1)
  exact h b ((List.dropWhile_sublist _).subset h2)
theorem trim_len (l : List Nat) : (TextMath.trim l).length ≤ l.length := by
  unfold TextMath.trim
  rw [List.length_reverse]
  refine Nat.le_trans (List.dropWhile_sublist _).length_le ?_
  rw [List.length_reverse]
  exact (List.dropWhile_sublist _).length_le
end Go.Proofs.YtlgofepmdjlpgaaDoor
namespace Go.Proofs.YtlgofepmdjlpgaaDoor
open Go.RowKit

/-- Numbers, as values of a kind. -/
def natVals (k : IntKind) (l : List Nat) : List Value := l.map fun (z : Nat) => Value.int k (z : Int)
theorem natVals_len (k : IntKind) (l : List Nat) : (natVals k l).length = l.length := by simp [natVals]
theorem natVals_at (k : IntKind) (l : List Nat) (i : Nat) : (natVals k l)[i]? = l[i]?.map fun (z : Nat) => Value.int k (z : Int) := by simp [natVals]
theorem natVals_set (k : IntKind) (l : List Nat) (i z : Nat) : (natVals k l).set i (.int k (z : Int)) = natVals k (l.set i z) := by simp [natVals, List.map_set]
theorem natVals_append (k : IntKind) (a b : List Nat) : natVals k (a ++ b) = natVals k a ++ natVals k b := by simp [natVals]
/-- An array of numbers, as a value. -/
def natsVal (k : IntKind) (l : List Nat) : Value := .agg (natVals k l).toArray

/-- The block g is an array of these numbers. -/
def Arr (g : Nat) (t : TypeId) (k : IntKind) (l : List Nat) (w : World) : Prop := w.heap[g]? = some (.cells (natVals k l).toArray t (0, 0))

section
variable {g : Nat} {t : TypeId} {k : IntKind} {l : List Nat} {w w' : World}
theorem Arr.lt (h : Arr g t k l w) : g < w.heap.size := (Array.getElem?_eq_some_iff.1 h).1
theorem Arr.cell (h : Arr g t k l w) {i z : Nat} (hz : l[i]? = some z) : w.cell? ⟨g, i, none⟩ = some (.int k (z : Int)) := by
  rw [cell_of_row w g i _ t (0, 0) h]
  simp [natVals, hz]
theorem Arr.cellD (h : Arr g t k l w) {i : Nat} (hi : i < l.length) : w.cell? ⟨g, i, none⟩ = some (.int k (l.getD i 0 : Nat)) := h.cell (by simp [List.getD, hi])
theorem Arr.free (h : Arr g t k l w) (i : Nat) : w.frozen? ⟨g, i, none⟩ = false := frozen_of_row w g i _ t h
theorem Arr.set (h : Arr g t k l w) (i z : Nat) : Arr g t k (l.set i z) (w.setCell ⟨g, i, none⟩ (.int k (z : Int))) := by
  have := heap_setCell_same (i := i) w g _ t (.int k (z : Int)) h
  unfold Arr
  rw [this, ← natVals_set]
  simp
theorem Arr.other (h : Arr g t k l w) (a : Addr) (v : Value) (hne : g ≠ a.block) : Arr g t k l (w.setCell a v) := (heap_setCell_other w a g v hne).trans h
theorem Arr.kept (h : Arr g t k l w) {B : Nat} (hb : Below B w w') (hg : g < B) : Arr g t k l w' := (hb.block g hg).trans h
theorem Arr.alloc (h : Arr g t k l w) (o : Obj) : Arr g t k l (w.alloc o) := ((by first | exact heap_alloc_old w o g h.lt | exact heap_alloc_old w o h.lt : (w.alloc o).heap[g]? = w.heap[g]?)).trans h
theorem Arr.drew (h : Arr g t k l w) : Arr g t k l w.drew := h
theorem Arr.new (w : World) (t : TypeId) (k : IntKind) (l : List Nat) : Arr w.heap.size t k l (w.alloc (.cells (natVals k l).toArray t)) := heap_alloc_new w _
theorem Arr.row (h : Arr g t k l w) (l' : List Nat) : Arr g t k l' (w.setRow g (natVals k l').toArray) := setRow_heap w g _ _ t _ h
theorem Arr.rowOther {g' : Nat} (h : Arr g t k l w) (cs : Array Value) (hne : g ≠ g') : Arr g t k l (w.setRow g' cs) := (setRow_other w g' g cs hne).trans h
end

open TextNat in
theorem run_copy_text {P : Program} (w : World) (dT sT ty elem : TypeId) (g dLen dCap : Nat) (s : ByteArray) (l : List Nat) (t : TypeId)
    (hu : P.underlying dT = some (.slice elem)) (hs : (P.info? elem).map (·.size) = some 1) (hg : Arr g t .u8 l w) (hl : l.length = dLen) :
    (Builtin.copy_ #[dT, sT] ty #[.slice (some ⟨g, 0, none⟩) dLen dCap, .string s]).run P w =
      .ok (goInt (Nat.min s.size dLen)) (w.setRow g (natVals .u8 ((nats s).take dLen ++ l.drop s.size)).toArray) := by
  have hv : List.take (Nat.min s.size dLen) (List.map (fun b : UInt8 => Value.int IntKind.u8 (b.toNat : Int)) s.data.toList) = natVals .u8 ((nats s).take dLen) := by
    have e : List.map (fun b : UInt8 => Value.int IntKind.u8 (b.toNat : Int)) s.data.toList = natVals .u8 (nats s) := by simp [natVals, nats, Function.comp_def]
    rw [e]
    have hn : (natVals .u8 (nats s)).length = s.size := by rw [natVals_len, nats_len]
    have e2 : natVals .u8 ((nats s).take dLen) = (natVals .u8 (nats s)).take dLen := by simp [natVals, List.map_take]
    rw [e2]
    by_cases h : s.size ≤ dLen
    · rw [show Nat.min s.size dLen = s.size from Nat.min_eq_left h, List.take_of_length_le (by omega), List.take_of_length_le (by omega)]
    · rw [show Nat.min s.size dLen = dLen from Nat.min_eq_right (by omega)]
  have hlen : (natVals .u8 ((nats s).take dLen)).length = Nat.min s.size dLen := by
    rw [natVals_len, List.length_take, nats_len]
    exact Nat.min_comm _ _
  have hst := run_storeCells_at (P := P) g 0 t (natVals .u8 ((nats s).take dLen)) 0 _ w hg (by rw [hlen]; simp only [List.size_toArray, natVals_len, hl]; have := Nat.min_le_right s.size dLen; show 0 + 0 + min s.size dLen ≤ dLen; omega) (fun v hv => by
    obtain ⟨z, _, rfl⟩ := List.mem_map.1 hv
    rfl)
  have hd : l.drop (Nat.min s.size dLen) = l.drop s.size := by
    by_cases h : s.size ≤ dLen
    · rw [show Nat.min s.size dLen = s.size from Nat.min_eq_left h]
    · rw [show Nat.min s.size dLen = dLen from Nat.min_eq_right (by omega), List.drop_of_length_le (by omega), List.drop_of_length_le (by omega)]
  rw [hlen] at hst
  simp only [Nat.add_zero, Nat.zero_add, List.take_zero, List.nil_append] at hst
  have hdd : (natVals .u8 l).drop (Nat.min s.size dLen) = natVals .u8 (l.drop s.size) := by
    rw [← hd]; simp [natVals, List.map_drop]
  rw [hdd, ← natVals_append] at hst
  cases hq : P.info? elem with
  | none => simp [hq] at hs
  | some i =>
    have h1 : i.size = 1 := by simpa [hq] using hs
    simp [Builtin.copy_, run_underlying hu, Builtin.lenOf, Builtin.firstCells, sizeOf, typeInfo, hq]
    rw [hv, hst]
    simp [Result.andThen]

open TextNat in
/-- copy(b[:], s), b an array of the call's own. -/
theorem wpList_copy_text {P : Program} {w : World} {ops : Array Oper} {rest : List Oper} {o : Oper} {a : Act} {Q : Exit → Act → World → Prop} (hgd : o.guard = none) (d x : Operand) (dT sT : TypeId)
    (ho : o.op = .call { callee := .builtin .copy, args := #[d, x], argTypes := #[dT, sT] }) (elem : TypeId) (hu : P.underlying dT = some (.slice elem)) (hsz : (P.info? elem).map (·.size) = some 1)
    (g dLen dCap : Nat) (s : ByteArray) (hd : a.eval d = .slice (some ⟨g, 0, none⟩) dLen dCap) (hx : a.eval x = .string s) (t : TypeId) (l : List Nat) (hg : Arr g t .u8 l w) (hl : l.length = dLen)
    (h : wpList P ops Q rest (a.put o.dst (goInt (Nat.min s.size dLen))) (w.setRow g (natVals .u8 ((nats s).take dLen ++ l.drop s.size)).toArray)) : wpList P ops Q (o :: rest) a w := by
  refine wpList_plain hgd fun K hK => ?_
  have hrun := run_copy_text (P := P) w dT sT o.type elem g dLen dCap s l t hu hsz hg hl
  unfold Oper.wp
  simp [execOp, ho, resolve, invoke, builtin, hd, hx, hrun, Result.andThen]
  exact hK _ _ h

open TextNat in
/-- .. with what comes of it named. -/
theorem wpList_copy_text_to {P : Program} {w : World} {ops : Array Oper} {rest : List Oper} {o : Oper} {a : Act} {Q : Exit → Act → World → Prop} (hgd : o.guard = none) (d x : Operand) (dT sT : TypeId)
    (ho : o.op = .call { callee := .builtin .copy, args := #[d, x], argTypes := #[dT, sT] }) (elem : TypeId) (hu : P.underlying dT = some (.slice elem)) (hsz : (P.info? elem).map (·.size) = some 1)
    (g dLen dCap : Nat) (s : ByteArray) (hd : a.eval d = .slice (some ⟨g, 0, none⟩) dLen dCap) (hx : a.eval x = .string s) (t : TypeId) (l : List Nat) (hg : Arr g t .u8 l w) (hl : l.length = dLen)
    (n : Nat) (hn : min s.size dLen = n) (C : Array Value) (hC : C = (natVals .u8 ((nats s).take dLen ++ l.drop s.size)).toArray)
    (h : wpList P ops Q rest (a.put o.dst (.int .i64 (n : Int))) (w.setRow g C)) : wpList P ops Q (o :: rest) a w := by
  refine wpList_copy_text hgd d x dT sT ho elem hu hsz g dLen dCap s hd hx t l hg hl ?_
  rw [← hC, show Nat.min s.size dLen = n from hn]
  exact h
end Go.Proofs.YtlgofepmdjlpgaaDoor
