/-
  Texts of one claim, merged.
  MacSmall: The contracts of the small functions of mac: right, at, start. The conditions: numbers within their kinds.
  Arr: Arrays of integers that lie in a block of their own (a variable, a parameter, a result), for any program: what their cells are, a store into one, what another store or a call leaves; the whole loaded, stored, returned; copy of a text onto the front of one of bytes. No conditions but those typed.
  MacTurned: The contracts of mac's start and turned: the first words; a key with each byte turned. The conditions: 64 numbers below 256.
-/
import Derived.Test.YtajhegjemhegiaaDoorPart01
import Derived.Laws.Rows
import Derived.Laws.CopyOwn
import Derived.Laws.CopyRow
import Derived.Deep.RegionLaw
import Derived.Below
import Derived.RowKit
namespace Go.Proofs.YtajhegjemhegiaaDoor
open Go.RowKit ShaMath TextNat

theorem rot_or (x n : Nat) (hx : x < 4294967296) (_hn : n ≤ 32) : bits .or .u32 ((x : Int) * 2 ^ (32 - n) % 4294967296) ((x : Int) / 2 ^ n) = (ShaMath.rotr x n : Nat) := by
  have h := u32_or_nat (x * 2 ^ (32 - n) % 4294967296) (x / 2 ^ n) (Nat.mod_lt _ (by decide)) (Nat.lt_of_le_of_lt (Nat.div_le_self _ _) hx)
  have e1 : (x : Int) / 2 ^ n = ((x / 2 ^ n : Nat) : Int) := by rw [Int.natCast_ediv, Int.natCast_pow]; rfl
  have e2 : (x : Int) * 2 ^ (32 - n) % 4294967296 = ((x * 2 ^ (32 - n) % 4294967296 : Nat) : Int) := by rw [Int.natCast_emod, Int.natCast_mul, Int.natCast_pow]; rfl
  rw [e1, e2, h]
  unfold ShaMath.rotr
  rw [Nat.or_comm]

theorem neg_and (n : Nat) (h0 : 0 < n) (hn : n < 32) : bits .and .u64 (IntKind.u64.wrap (-(n : Int))) 31 = ((32 - n : Nat) : Int) := by
  have e : IntKind.u64.wrap (-(n : Int)) = ((18446744073709551616 - n : Nat) : Int) := by rw [IntKind.wrap_u64]; omega
  have h := u64_and_nat (18446744073709551616 - n) 31 (by omega) (by decide)
  have h2 : (18446744073709551616 - n) &&& 31 = 32 - n := by
    rw [show (31 : Nat) = 2 ^ 5 - 1 from rfl, Nat.and_two_pow_sub_one_eq_mod]
    omega
  rw [h2] at h
  rw [e]
  exact h

theorem left_any (x n s : Nat) (w : World) (hs : s = 32 - n) (hx : x < 4294967296) (h0 : 0 < n) (hn : n < 32) :
    Calls Tryd.prog 86 #[.int .u32 (x : Int), .int .i64 (-(n : Int))] w fun e w' => e = .returned (.int .u32 (ShaMath.rotr x n : Nat)) ∧ w' = w := by
  have h1 := neg_and n h0 hn
  rw [← hs] at h1
  have hs2 : s ≤ 32 := by omega
  have h2 : ((s : Nat) : Int) ≤ 32 := by omega
  have h3 : (0 : Int) ≤ 32 - (s : Int) := by omega
  have h4 : (32 - (s : Int)).toNat = n := by omega
  have h5 := rot_or x n hx (by omega)
  have h6 : 32 - (32 - n) = n := by omega
  go_enter Tryd.func86, Tryd.ntmps86
  go_wp2
  go_ret
  exact ⟨rfl, rfl⟩

theorem right_any (x n : Nat) (m : Int) (w : World) (hm : m = (n : Int)) (hx : x < 4294967296) (h0 : 0 < n) (hn : n < 32) :
    Calls Tryd.prog 80 #[.int .u32 (x : Int), .int .i64 m] w fun e w' => e = .returned (.int .u32 (ShaMath.rotr x n : Nat)) ∧ w' = w := by
  subst hm
  have HL := Lib.hid (left_any x n _ w rfl hx h0 hn)
  go_enter Tryd.func80, Tryd.ntmps80
  go_wp2_with (go_at_call 86; refine HL.out.mono ?_; rintro e w2 ⟨rfl, rfl⟩)
  go_ret
  exact ⟨rfl, rfl⟩
end Go.Proofs.YtajhegjemhegiaaDoor
namespace Go.Proofs.YtajhegjemhegiaaDoor
open Go.RowKit

/-- Numbers, as values of a kind. -/
def natVals (k : IntKind) (l : List Nat) : List Value := l.map fun (z : Nat) => Value.int k (z : Int)
theorem natVals_len (k : IntKind) (l : List Nat) : (natVals k l).length = l.length := by simp [natVals]
theorem natVals_at (k : IntKind) (l : List Nat) (i : Nat) : (natVals k l)[i]? = l[i]?.map fun (z : Nat) => Value.int k (z : Int) := by simp [natVals]
theorem natVals_set (k : IntKind) (l : List Nat) (i z : Nat) : (natVals k l).set i (.int k (z : Int)) = natVals k (l.set i z) := by simp [natVals, List.map_set]
theorem natVals_append (k : IntKind) (a b : List Nat) : natVals k (a ++ b) = natVals k a ++ natVals k b := by simp [natVals]
/-- An array of numbers, as a value. -/
def natsVal (k : IntKind) (l : List Nat) : Value := .agg (natVals k l).toArray

/-- The block g is an array of these numbers. -/
def Arr (g : Nat) (t : TypeId) (k : IntKind) (l : List Nat) (w : World) : Prop := w.heap[g]? = some (.cells (natVals k l).toArray t (0, 0))

section
variable {g : Nat} {t : TypeId} {k : IntKind} {l : List Nat} {w w' : World}
theorem Arr.lt (h : Arr g t k l w) : g < w.heap.size := (Array.getElem?_eq_some_iff.1 h).1
theorem Arr.cell (h : Arr g t k l w) {i z : Nat} (hz : l[i]? = some z) : w.cell? ⟨g, i, none⟩ = some (.int k (z : Int)) := by
  rw [cell_of_row w g i _ t (0, 0) h]
  simp [natVals, hz]
theorem Arr.cellD (h : Arr g t k l w) {i : Nat} (hi : i < l.length) : w.cell? ⟨g, i, none⟩ = some (.int k (l.getD i 0 : Nat)) := h.cell (by simp [List.getD, hi])
theorem Arr.free (h : Arr g t k l w) (i : Nat) : w.frozen? ⟨g, i, none⟩ = false := frozen_of_row w g i _ t h
theorem Arr.set (h : Arr g t k l w) (i z : Nat) : Arr g t k (l.set i z) (w.setCell ⟨g, i, none⟩ (.int k (z : Int))) := by
  have := heap_setCell_same (i := i) w g _ t (.int k (z : Int)) h
  unfold Arr
  rw [this, ← natVals_set]
  simp
theorem Arr.other (h : Arr g t k l w) (a : Addr) (v : Value) (hne : g ≠ a.block) : Arr g t k l (w.setCell a v) := (heap_setCell_other w a g v hne).trans h
theorem Arr.kept (h : Arr g t k l w) {B : Nat} (hb : Below B w w') (hg : g < B) : Arr g t k l w' := (hb.block g hg).trans h
theorem Arr.alloc (h : Arr g t k l w) (o : Obj) : Arr g t k l (w.alloc o) := ((by first | exact heap_alloc_old w o g h.lt | exact heap_alloc_old w o h.lt : (w.alloc o).heap[g]? = w.heap[g]?)).trans h
theorem Arr.drew (h : Arr g t k l w) : Arr g t k l w.drew := h
theorem Arr.new (w : World) (t : TypeId) (k : IntKind) (l : List Nat) : Arr w.heap.size t k l (w.alloc (.cells (natVals k l).toArray t)) := heap_alloc_new w _
theorem Arr.row (h : Arr g t k l w) (l' : List Nat) : Arr g t k l' (w.setRow g (natVals k l').toArray) := setRow_heap w g _ _ t _ h
theorem Arr.rowOther {g' : Nat} (h : Arr g t k l w) (cs : Array Value) (hne : g ≠ g') : Arr g t k l (w.setRow g' cs) := (setRow_other w g' g cs hne).trans h
end

open TextNat in
theorem run_copy_text {P : Program} (w : World) (dT sT ty elem : TypeId) (g dLen dCap : Nat) (s : ByteArray) (l : List Nat) (t : TypeId)
    (hu : P.underlying dT = some (.slice elem)) (hs : (P.info? elem).map (·.size) = some 1) (hg : Arr g t .u8 l w) (hl : l.length = dLen) :
    (Builtin.copy_ #[dT, sT] ty #[.slice (some ⟨g, 0, none⟩) dLen dCap, .string s]).run P w =
      .ok (goInt (Nat.min s.size dLen)) (w.setRow g (natVals .u8 ((nats s).take dLen ++ l.drop s.size)).toArray) := by
  have hv : List.take (Nat.min s.size dLen) (List.map (fun b : UInt8 => Value.int IntKind.u8 (b.toNat : Int)) s.data.toList) = natVals .u8 ((nats s).take dLen) := by
    have e : List.map (fun b : UInt8 => Value.int IntKind.u8 (b.toNat : Int)) s.data.toList = natVals .u8 (nats s) := by simp [natVals, nats, Function.comp_def]
    rw [e]
    have hn : (natVals .u8 (nats s)).length = s.size := by rw [natVals_len, nats_len]
    have e2 : natVals .u8 ((nats s).take dLen) = (natVals .u8 (nats s)).take dLen := by simp [natVals, List.map_take]
    rw [e2]
    by_cases h : s.size ≤ dLen
    · rw [show Nat.min s.size dLen = s.size from Nat.min_eq_left h, List.take_of_length_le (by omega), List.take_of_length_le (by omega)]
    · rw [show Nat.min s.size dLen = dLen from Nat.min_eq_right (by omega)]
  have hlen : (natVals .u8 ((nats s).take dLen)).length = Nat.min s.size dLen := by
    rw [natVals_len, List.length_take, nats_len]
    exact Nat.min_comm _ _
  have hst := run_storeCells_at (P := P) g 0 t (natVals .u8 ((nats s).take dLen)) 0 _ w hg (by rw [hlen]; simp only [List.size_toArray, natVals_len, hl]; have := Nat.min_le_right s.size dLen; show 0 + 0 + min s.size dLen ≤ dLen; omega) (fun v hv => by
    obtain ⟨z, _, rfl⟩ := List.mem_map.1 hv
    rfl)
  have hd : l.drop (Nat.min s.size dLen) = l.drop s.size := by
    by_cases h : s.size ≤ dLen
    · rw [show Nat.min s.size dLen = s.size from Nat.min_eq_left h]
    · rw [show Nat.min s.size dLen = dLen from Nat.min_eq_right (by omega), List.drop_of_length_le (by omega), List.drop_of_length_le (by omega)]
  rw [hlen] at hst
  simp only [Nat.add_zero, Nat.zero_add, List.take_zero, List.nil_append] at hst
  have hdd : (natVals .u8 l).drop (Nat.min s.size dLen) = natVals .u8 (l.drop s.size) := by
    rw [← hd]; simp [natVals, List.map_drop]
  rw [hdd, ← natVals_append] at hst
  cases hq : P.info? elem with
  | none => simp [hq] at hs
  | some i =>
    have h1 : i.size = 1 := by simpa [hq] using hs
    simp [Builtin.copy_, run_underlying hu, Builtin.lenOf, Builtin.firstCells, sizeOf, typeInfo, hq]
    rw [hv, hst]
    simp [Result.andThen]

open TextNat in
/-- copy(b[:], s), b an array of the call's own. -/
theorem wpList_copy_text {P : Program} {w : World} {ops : Array Oper} {rest : List Oper} {o : Oper} {a : Act} {Q : Exit → Act → World → Prop} (hgd : o.guard = none) (d x : Operand) (dT sT : TypeId)
    (ho : o.op = .call { callee := .builtin .copy, args := #[d, x], argTypes := #[dT, sT] }) (elem : TypeId) (hu : P.underlying dT = some (.slice elem)) (hsz : (P.info? elem).map (·.size) = some 1)
    (g dLen dCap : Nat) (s : ByteArray) (hd : a.eval d = .slice (some ⟨g, 0, none⟩) dLen dCap) (hx : a.eval x = .string s) (t : TypeId) (l : List Nat) (hg : Arr g t .u8 l w) (hl : l.length = dLen)
    (h : wpList P ops Q rest (a.put o.dst (goInt (Nat.min s.size dLen))) (w.setRow g (natVals .u8 ((nats s).take dLen ++ l.drop s.size)).toArray)) : wpList P ops Q (o :: rest) a w := by
  refine wpList_plain hgd fun K hK => ?_
  have hrun := run_copy_text (P := P) w dT sT o.type elem g dLen dCap s l t hu hsz hg hl
  unfold Oper.wp
  simp [execOp, ho, resolve, invoke, builtin, hd, hx, hrun, Result.andThen]
  exact hK _ _ h

open TextNat in
/-- .. with what comes of it named. -/
theorem wpList_copy_text_to {P : Program} {w : World} {ops : Array Oper} {rest : List Oper} {o : Oper} {a : Act} {Q : Exit → Act → World → Prop} (hgd : o.guard = none) (d x : Operand) (dT sT : TypeId)
    (ho : o.op = .call { callee := .builtin .copy, args := #[d, x], argTypes := #[dT, sT] }) (elem : TypeId) (hu : P.underlying dT = some (.slice elem)) (hsz : (P.info? elem).map (·.size) = some 1)
    (g dLen dCap : Nat) (s : ByteArray) (hd : a.eval d = .slice (some ⟨g, 0, none⟩) dLen dCap) (hx : a.eval x = .string s) (t : TypeId) (l : List Nat) (hg : Arr g t .u8 l w) (hl : l.length = dLen)
    (n : Nat) (hn : min s.size dLen = n) (C : Array Value) (hC : C = (natVals .u8 ((nats s).take dLen ++ l.drop s.size)).toArray)
    (h : wpList P ops Q rest (a.put o.dst (.int .i64 (n : Int))) (w.setRow g C)) : wpList P ops Q (o :: rest) a w := by
  refine wpList_copy_text hgd d x dT sT ho elem hu hsz g dLen dCap s hd hx t l hg hl ?_
  rw [← hC, show Nat.min s.size dLen = n from hn]
  exact h
end Go.Proofs.YtajhegjemhegiaaDoor
namespace Go.Proofs.YtajhegjemhegiaaDoor
open Go.RowKit ShaMath TextNat

theorem infoArr8 : (Tryd.prog.info? 116).map (·.size) = some 8 := by kernel_rfl
theorem infoArr64 : (Tryd.prog.info? 113).map (·.size) = some 64 := by kernel_rfl
theorem infoWords64 : (Tryd.prog.info? 132).map (·.size) = some 64 := by kernel_rfl

theorem natVals_one (k : IntKind) (l : List Nat) : (natVals k l).toArray.all (·.oneCell') = true := by
  rw [Array.all_eq_true_iff_forall_mem]
  intro v hv
  obtain ⟨z, _, rfl⟩ := List.mem_map.1 (by simpa [natVals] using hv)
  rfl

theorem start_any (w : World) : Calls Tryd.prog 61 #[] w fun e w' => e = .returned (natsVal .u32 r0.list) ∧ Below w.heap.size w w' := by
  have HB := (Below.refl w.heap.size w).alloc (Nat.le_refl _) (.cells (natVals .u32 r0.list).toArray 116)
  go_enter Tryd.func61, Tryd.ntmps61
  go_wp2
  refine bodyPost_ret (results_cell_row Tryd.results61 _ _ w.heap.size 116 (natVals .u32 r0.list).toArray (0, 0) _ rfl (heap_alloc_new w _) Tryd.underlying116 rfl infoArr8) rfl ?_
  exact ⟨rfl, HB⟩

/-- The first i numbers turned. -/
def turnedTo (k : List Nat) (c i : Nat) : List Nat := (k.take i).map (· ^^^ c) ++ k.drop i
theorem turnedTo_zero (k : List Nat) (c : Nat) : turnedTo k c 0 = k := by simp [turnedTo]
theorem turnedTo_all (k : List Nat) (c i : Nat) (h : k.length ≤ i) : turnedTo k c i = k.map (· ^^^ c) := by
  unfold turnedTo
  rw [List.take_of_length_le h, List.drop_of_length_le h, List.append_nil]
theorem turnedTo_len (k : List Nat) (c i : Nat) : (turnedTo k c i).length = k.length := by simp [turnedTo]; omega
theorem turnedTo_at (k : List Nat) (c i : Nat) (h : i < k.length) : (turnedTo k c i)[i]? = some (k.getD i 0) := by
  unfold turnedTo
  rw [List.getElem?_append_right (by simp; omega)]
  simp [List.getD, h, show i - min i k.length = 0 by omega]
theorem turnedTo_succ (k : List Nat) (c i : Nat) (h : i < k.length) : (turnedTo k c i).set i (k.getD i 0 ^^^ c) = turnedTo k c (i + 1) := by
  have hd : k.getD i 0 = k[i] := by simp [List.getD, h]
  unfold turnedTo
  rw [List.set_append_right _ _ (by simp; omega), List.drop_eq_getElem_cons h]
  simp only [List.length_map, List.length_take, show i - min i k.length = 0 by omega, List.set_cons_zero]
  rw [List.take_add_one, List.getElem?_eq_getElem h, hd, List.map_append, List.append_assoc]
  rfl

set_option maxRecDepth 100000 in
theorem turned_any (k : List Nat) (c : Nat) (w : World) (hk : k.length = 64) (hlt : ∀ b ∈ k, b < 256) (hc : c < 256) :
    Calls Tryd.prog 62 #[natsVal .u8 k, .int .u8 (c : Int)] w fun e w' => e = .returned (natsVal .u8 (k.map (· ^^^ c))) ∧ Below w.heap.size w w' := by
  have H1 := (Arr.new w 113 .u8 k).alloc (.cells (natVals .u8 (List.replicate 64 0)).toArray 113)
  have H2 := Arr.new (w.alloc (.cells (natVals .u8 k).toArray 113)) 113 .u8 (List.replicate 64 0)
  rw [World.size_alloc] at H2
  have H3 := ((Below.refl w.heap.size w).alloc (Nat.le_refl _) (.cells (natVals .u8 k).toArray 113)).alloc (by simp) (.cells (natVals .u8 (List.replicate 64 0)).toArray 113)
  obtain ⟨k', hk'⟩ : ∃ k', k' = turnedTo k c 0 := ⟨_, rfl⟩
  have hkk : k = k' := by rw [hk', turnedTo_zero]
  have HR := Lib.hid (turnedTo_all k c 64 (by omega))
  unfold natsVal
  obtain ⟨C, hC⟩ : ∃ C, C = (natVals .u8 k).toArray := ⟨_, rfl⟩
  rw [← hC] at H1 H2 H3 ⊢
  rw [hkk, hk'] at H1
  have K1 := Lib.hid H1
  have K2 := Lib.hid H2
  have K3 := Lib.hid H3
  have KL := Lib.hid hlt
  clear hC hkk hk' H1 H2 H3 hlt
  go_enter Tryd.func62, Tryd.ntmps62
  go_wp2
  go_loopg [6] 64 (fun gh s6 wx => ∃ i : Nat, i + gh = 64 ∧ s6 = .int .i64 (i : Int) ∧ Hid (Arr w.heap.size 113 .u8 (turnedTo k c i) wx) ∧ Hid (Arr (w.heap.size + 1) 113 .u8 (List.replicate 64 0) wx) ∧ Below w.heap.size w wx)
  case atStart => exact ⟨0, rfl, by go_num, K1, K2, K3.out⟩
  case round =>
    obtain ⟨i, hi, rfl, ha, hz, hb⟩ := hrel
    clear K1 K2 K3
    by_cases h64 : i < 64
    · have h64' : (i : Int) < 64 := by omega
      obtain ⟨z, hzz⟩ : ∃ z, z = k.getD i 0 := ⟨_, rfl⟩
      have hz8 : z < 256 := by
        rw [hzz, List.getD_eq_getElem?_getD, List.getElem?_eq_getElem (by omega)]
        exact KL.out _ (List.getElem_mem _)
      obtain ⟨u, hu⟩ : ∃ u, u = z ^^^ c := ⟨_, rfl⟩
      have e1 : bits .xor .u8 (z : Int) (c : Int) = (u : Int) := by rw [hu]; exact u8_xor_nat z c hz8 hc
      have c1 := ha.out.cell (turnedTo_at k c i (by omega))
      rw [← hzz] at c1
      have f1 := ha.out.free i
      have HS := Lib.hid (ha.out.set i u)
      have HO := Lib.hid (hz.out.other ⟨w.heap.size, i, none⟩ (.int .u8 (u : Int)) (by simp))
      have HT := Lib.hid (show (turnedTo k c i).set i u = turnedTo k c (i + 1) by rw [hu, hzz]; exact turnedTo_succ k c i (by omega))
      have HB := Lib.hid (hb.setCell (p := ⟨w.heap.size, i, none⟩) (Nat.le_refl _) (.int .u8 (u : Int)))
      clear ha hz hb hzz hu
      go_wp2
      go_roundg (64 - (i + 1))
      case measure => omega
      case rel => exact ⟨i + 1, by omega, by go_num, by rw [← HT.out]; exact HS, HO, HB.out⟩
    · obtain rfl : i = 64 := by omega
      rw [HR.out] at ha
      have HA := Lib.hid ha.out
      have HZ := Lib.hid hz.out
      have HB := Lib.hid hb
      obtain ⟨D, hD⟩ : ∃ D, D = (natVals .u8 (k.map (· ^^^ c))).toArray := ⟨_, rfl⟩
      have hsz : D.size = 64 := by rw [hD]; simp [natVals_len, hk]
      have hone : D.all (·.oneCell') = true := by rw [hD]; exact natVals_one _ _
      have HAD : Hid (wr.heap[w.heap.size]? = some (.cells D 113 (0, 0))) := Lib.hid (by rw [hD]; exact HA.out)
      have HZD : Hid (wr.heap[w.heap.size + 1]? = some (.cells (natVals .u8 (List.replicate 64 0)).toArray 113 (0, 0))) := HZ
      have HRD := Lib.hid (setRow_heap wr (w.heap.size + 1) _ D _ _ HZD.out)
      have HBD := Lib.hid (below_setRow HB.out (Nat.le_succ w.heap.size) D)
      have HDV := Lib.hid hD
      clear ha hz hb hD HA HZ
      go_wp2_with (first
        | (refine wpList_load_row rfl 113 _ rfl w.heap.size rfl 113 D (0, 0) _ HAD.out Tryd.underlying113 rfl (by rw [hsz]; exact infoArr64) ?_)
        | (refine wpList_store_row rfl 113 _ _ rfl (w.heap.size + 1) D rfl rfl 113 _ HZD.out (by rw [hsz]; exact infoArr64) (by rw [hsz]; simp [natVals_len]) hone ?_))
      refine bodyPost_ret (results_cell_row Tryd.results62 _ _ (w.heap.size + 1) 113 D (0, 0) _ rfl HRD.out Tryd.underlying113 rfl (by rw [hsz]; exact infoArr64)) rfl ?_
      exact ⟨by rw [HDV.out], HBD.out⟩
end Go.Proofs.YtajhegjemhegiaaDoor
