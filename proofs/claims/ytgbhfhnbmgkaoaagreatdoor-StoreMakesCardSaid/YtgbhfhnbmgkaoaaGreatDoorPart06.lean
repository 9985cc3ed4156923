/-
  Texts of one claim, merged.
  StoreRows: Rows of stores as values and in memory: seven places each; rows of one's own made by append. No program is run here.
  Arr: Arrays of integers that lie in a block of their own (a variable, a parameter, a result), for any program: what their cells are, a store into one, what another store or a call leaves; the whole loaded, stored, returned; copy of a text onto the front of one of bytes. No conditions but those typed.
  Results: Results that lie in blocks of their own: a struct (or an array) first, a plain value behind it. For any program; no conditions but those typed.
-/
import Derived.Test.YtgbhfhnbmgkaoaaGreatDoorPart03
import Derived.Test.YtgbhfhnbmgkaoaaGreatDoorPart05
import Derived.Laws.Rows
import Derived.Laws.CopyOwn
import Derived.Laws.CopyRow
import Derived.Deep.RegionLaw
import Derived.Below
import Derived.RowKit
import Derived.Test.YtgbhfhnbmgkaoaaGreatDoorPart04
import Derived.WalkKit
import Derived.Handy
namespace Go.Proofs.YtgbhfhnbmgkaoaaGreatDoor
open Go.RowKit TextNat RegMath StoreMath

/-- A store's row as the program has it. -/
structure RowV where
  session : ByteArray
  key : ByteArray
  cell : RegV
deriving DecidableEq
def RowV.cells (x : RowV) : List Value := [.string x.session, .string x.key, .int .i64 x.cell.time, .int .i64 x.cell.region, .string x.cell.value, .bool x.cell.gone, .int .i64 x.cell.life]
def RowV.val (x : RowV) : Value := .agg #[.string x.session, .string x.key, .int .i64 x.cell.time, .int .i64 x.cell.region, .string x.cell.value, .bool x.cell.gone, .int .i64 x.cell.life]
def RowV.r (x : RowV) : Row := ⟨(nats x.session, nats x.key), x.cell.c⟩
def RowV.of (r : Row) : RowV := ⟨txt r.k.1, txt r.k.2, RegV.of r.c⟩
theorem RowV.of_r (x : RowV) : RowV.of x.r = x := by
  unfold RowV.of RowV.r
  simp only [txt_nats, RegV.of_c]
theorem RowV.r_one {a b : RowV} (h : a.r = b.r) : a = b := by rw [← RowV.of_r a, ← RowV.of_r b, h]
theorem RowV.r_iff (a b : RowV) : a.r = b.r ↔ a = b := ⟨RowV.r_one, fun h => h ▸ rfl⟩
theorem rows_back (xs : List RowV) : (xs.map RowV.r).map RowV.of = xs := by
  rw [List.map_map]
  conv => rhs; rw [← List.map_id xs]
  exact List.map_congr_left fun x _ => RowV.of_r x
/-- Rows that come of texts. -/
def Texts (L : List Row) : Prop := ∃ xs : List RowV, L = xs.map RowV.r
theorem Texts.back {L : List Row} (h : Texts L) : (L.map RowV.of).map RowV.r = L := by
  obtain ⟨xs, rfl⟩ := h
  rw [rows_back]
theorem Texts.nil : Texts [] := ⟨[], rfl⟩
theorem Texts.of_mem {L M : List Row} (h : Texts L) (hm : ∀ r ∈ M, r ∈ L) : Texts M := by
  obtain ⟨xs, rfl⟩ := h
  refine ⟨M.map RowV.of, ?_⟩
  rw [List.map_map]
  conv => lhs; rw [← List.map_id M]
  refine List.map_congr_left fun r hr => ?_
  obtain ⟨x, _, rfl⟩ := List.mem_map.1 (hm r hr)
  show x.r = (RowV.of x.r).r
  rw [RowV.of_r]
theorem Texts.put {L : List Row} {x : RowV} (h : Texts L) : Texts (put L x.r.k x.r.c) := by
  obtain ⟨xs, rfl⟩ := h
  refine Texts.of_mem (L := (x :: xs).map RowV.r) ⟨x :: xs, rfl⟩ fun r hr => ?_
  rcases put_mem hr with rfl | hr
  · exact List.mem_cons_self ..
  · exact List.mem_cons_of_mem _ hr
/-- The rows xs stand from the address pp on. -/
def RowsIn (w : World) (pp : Option Addr) (xs : List RowV) : Prop := ∀ (i : Nat) (x : RowV), xs[i]? = some x → ∃ b off, pp = some ⟨b, off, none⟩ ∧ ∀ (j : Nat) (u : Value), x.cells[j]? = some u → w.cell? ⟨b, off + i * 7 + j, none⟩ = some u
theorem RowsIn.nil (w : World) (pp : Option Addr) : RowsIn w pp [] := fun i x h => by simp at h
theorem RowsIn.grown {w w' : World} {pp : Option Addr} {xs : List RowV} (h : RowsIn w pp xs) (hb : Below w.heap.size w w') : RowsIn w' pp xs := fun i a ha => by
  obtain ⟨b, off, hp, h0⟩ := h i a ha
  exact ⟨b, off, hp, fun j u hu => (hb.cell (p := ⟨b, off + i * 7 + j, none⟩) (World.block_lt_of_cell? w _ (h0 j u hu))).trans (h0 j u hu)⟩
theorem RowsIn.addr {w : World} {pp : Option Addr} {xs : List RowV} (h : RowsIn w pp xs) (h0 : 0 < xs.length) : ∃ b off, pp = some ⟨b, off, none⟩ := by
  obtain ⟨b, off, hp, _⟩ := h 0 _ (List.getElem?_eq_getElem h0)
  exact ⟨b, off, hp⟩
theorem RowsIn.look {w : World} {b off : Nat} {xs : List RowV} (h : RowsIn w (some ⟨b, off, none⟩) xs) {i : Nat} {x : RowV} (hx : xs[i]? = some x) : w.cell? ⟨b, off + i * 7, none⟩ = some (.string x.session) ∧ w.cell? ⟨b, off + i * 7 + 1, none⟩ = some (.string x.key) ∧ w.cell? ⟨b, off + i * 7 + 2, none⟩ = some (.int .i64 x.cell.time) ∧ w.cell? ⟨b, off + i * 7 + 3, none⟩ = some (.int .i64 x.cell.region) ∧ w.cell? ⟨b, off + i * 7 + 4, none⟩ = some (.string x.cell.value) ∧ w.cell? ⟨b, off + i * 7 + 5, none⟩ = some (.bool x.cell.gone) ∧ w.cell? ⟨b, off + i * 7 + 6, none⟩ = some (.int .i64 x.cell.life) := by
  obtain ⟨b', off', hp, hh⟩ := h i x hx
  obtain ⟨rfl, rfl⟩ : b = b' ∧ off = off' := by simpa using hp
  exact ⟨hh 0 _ rfl, hh 1 _ rfl, hh 2 _ rfl, hh 3 _ rfl, hh 4 _ rfl, hh 5 _ rfl, hh 6 _ rfl⟩
theorem scells_len : ∀ A : List RowV, (A.flatMap RowV.cells).length = A.length * 7
  | [] => rfl
  | x :: r => by
    rw [List.flatMap_cons, List.length_append, scells_len r, List.length_cons]
    show 7 + _ = _
    omega
theorem scells_at : ∀ {A : List RowV} {i : Nat} {a : RowV}, A[i]? = some a → ∀ (j : Nat) (u : Value), a.cells[j]? = some u → (A.flatMap RowV.cells)[i * 7 + j]? = some u
  | x :: r, 0, a, h, j, u, hu => by
    obtain rfl : x = a := by simpa using h
    have hj := (List.getElem?_eq_some_iff.1 hu).1
    rw [List.flatMap_cons, Nat.zero_mul, Nat.zero_add, List.getElem?_append_left hj]
    exact hu
  | x :: r, i + 1, a, h, j, u, hu => by
    have h2 : r[i]? = some a := by simpa using h
    have k := scells_at h2 j u hu
    rw [List.flatMap_cons, show (i + 1) * 7 + j = (RowV.cells x).length + (i * 7 + j) by show (i + 1) * 7 + j = 7 + (i * 7 + j); omega, List.getElem?_append_right (by omega), Nat.add_sub_cancel_left]
    exact k
theorem scells_one (A : List RowV) : ∀ u ∈ A.flatMap RowV.cells, u.oneCell' = true := by
  intro u hu
  obtain ⟨a, _, ha⟩ := List.mem_flatMap.1 hu
  unfold RowV.cells at ha
  simp only [List.mem_cons, List.not_mem_nil, or_false] at ha
  rcases ha with rfl | rfl | rfl | rfl | rfl | rfl | rfl <;> rfl
/-- A row of one's own that holds these rows. -/
def OwnS (T : TypeId) (w : World) (B : Nat) (v : Value) (A : List RowV) : Prop := w.ownsRow B T 7 v A.length (A.flatMap RowV.cells)
theorem OwnS.nil (T : TypeId) (w : World) (B : Nat) : OwnS T w B (.slice none 0 0) [] := World.ownsRow_nil w B _ 7
theorem OwnS.shape {T : TypeId} {w : World} {B : Nat} {v : Value} {A : List RowV} (h : OwnS T w B v A) : ∃ p c, v = .slice p A.length c ∧ A.length ≤ c ∧ c ≤ 9223372036854775807 := by
  rcases h.2 with ⟨rfl, h0⟩ | ⟨g, cap, cur, rfl, _, _, h1, h2, _⟩
  · exact ⟨none, 0, by rw [h0], by omega, by omega⟩
  · exact ⟨_, _, rfl, h1, by unfold maxLen at h2; omega⟩
theorem OwnS.below {T : TypeId} {w w' : World} {B : Nat} {v : Value} {A : List RowV} (h : OwnS T w B v A) (hb : Below w.heap.size w w') : OwnS T w' B v A := by
  refine ⟨h.1, ?_⟩
  rcases h.2 with h2 | ⟨g, cap, cur, h3, h4, h5, h6⟩
  · exact .inl h2
  · exact .inr ⟨g, cap, cur, h3, h4, (hb.block g (Array.getElem?_eq_some_iff.1 h5).1).trans h5, h6⟩
theorem OwnS.rows {T : TypeId} {w : World} {B n c : Nat} {p : Option Addr} {A : List RowV} (h : OwnS T w B (.slice p n c) A) : RowsIn w p A := fun i a ha => by
  have hi := (List.getElem?_eq_some_iff.1 ha).1
  rcases h.2 with ⟨_, h2⟩ | ⟨g, cap, cur, h3, h4, h5, h6⟩
  · omega
  · have hv : Value.slice p n c = .slice (some ⟨g, 0, none⟩) A.length cap := h3
    obtain ⟨rfl, rfl, rfl⟩ : p = some ⟨g, 0, none⟩ ∧ n = A.length ∧ c = cap := by simpa using hv
    have h' : w.ownsRow B T 7 (.slice (some ⟨g, 0, none⟩) A.length c) A.length (A.flatMap RowV.cells) := h
    refine ⟨g, 0, rfl, fun j u hu => ?_⟩
    have hj : j < 7 := (List.getElem?_eq_some_iff.1 hu).1
    rw [Nat.zero_add, h'.cellAt _ (by omega)]
    exact scells_at ha j u hu
theorem news_rows {w : World} {pp : Option Addr} {xs : List RowV} (h : RowsIn w pp xs) : ∀ (j : Nat) (u : Value), (xs.flatMap RowV.cells)[j]? = some u → ∃ a, pp = some a ∧ w.cell? (a.add j) = some u := by
  intro j u hu
  have hj : j < (xs.flatMap RowV.cells).length := (List.getElem?_eq_some_iff.1 hu).1
  rw [scells_len] at hj
  have hi : j / 7 < xs.length := by omega
  have hx := List.getElem?_eq_getElem hi
  obtain ⟨b, off, hp, hh⟩ := h (j / 7) _ hx
  refine ⟨_, hp, ?_⟩
  have hadd : (⟨b, off, none⟩ : Addr).add j = ⟨b, off + j, none⟩ := by unfold Addr.add; split <;> simp_all
  rw [hadd]
  have hl : (RowV.cells xs[j / 7]).length = 7 := rfl
  have hv := List.getElem?_eq_getElem (l := RowV.cells xs[j / 7]) (i := j % 7) (by rw [hl]; omega)
  have k := scells_at (A := xs) hx (j % 7) _ hv
  rw [show j / 7 * 7 + j % 7 = j by omega, hu] at k
  rw [Option.some.inj k, ← hh _ _ hv]
  congr 2
  omega
theorem OwnS.of {T : TypeId} {w : World} {B n : Nat} {v : Value} {ys : List RowV} (hn : n = ys.length) (h : w.ownsRow B T 7 v n (ys.flatMap RowV.cells)) : OwnS T w B v ys := by
  subst hn
  exact h
theorem one_rows {w : World} {B : Nat} {T : TypeId} {a : RowV} (h : Lies w B a.cells T) : RowsIn w (some ⟨B, 0, none⟩) [a] := fun i x hx => by
  have hi : i = 0 := by have := (List.getElem?_eq_some_iff.1 hx).1; simp at this; exact this
  subst hi
  obtain rfl : a = x := by simpa using hx
  exact ⟨B, 0, rfl, fun j u hu => by simpa using h.cell hu⟩
/-- append of rows onto a row of one's own, as one operation. -/
theorem app_rows {ops : Array Oper} {rest : List Oper} {o : Oper} {ac : Act} {Q : Exit → Act → World → Prop} {w : World} (hgd : o.guard = none) (s x : Operand) (t T : TypeId)
    (hinfo : (Tryz.prog.info? T).map (fun i => (i.zero, i.size, i.bytes)) = some (some (.agg #[.string ⟨#[]⟩, .string ⟨#[]⟩, .int .i64 0, .int .i64 0, .string ⟨#[]⟩, .bool false, .int .i64 0]), 7, 80)) (ht : Tryz.prog.underlying t = some (.slice T))
    (ho : o.op = .call { callee := .builtin .append, args := #[s, x], argTypes := #[t, t] })
    (B : Nat) (v : Value) (A N : List RowV) (hs : ac.eval s = v) (hown : OwnS T w B v A) (pp : Option Addr) (n c : Nat) (hn : n = N.length) (hx : ac.eval x = .slice pp n c)
    (hnews : RowsIn w pp N) (hz : A.length + N.length ≤ 100000) (hB : B ≤ w.heap.size)
    (h : ∀ v' w', OwnS T w' B v' (A ++ N) → Below B w w' → w.grownBy w' v.ownBlock → (∀ k, v'.ownBlock = some k → v.ownBlock = some k ∨ w.heap.size ≤ k) → wpList Tryz.prog ops Q rest (ac.put o.dst v') w') : wpList Tryz.prog ops Q (o :: rest) ac w := by
  subst hn
  obtain ⟨ii, hii, hi0, hi1, hi2⟩ := info_parts hinfo
  refine wpList_keep hgd s x t ho B T ii _ 7 80 ht hii hi0 hi1 hi2 rfl (by decide) v A.length (A.flatMap RowV.cells) hs hown pp N.length c (N.flatMap RowV.cells) hx (scells_len N) (news_rows hnews) (scells_one N) (by unfold maxLen; omega) (by omega) hB ?_
  intro v' w' h1 h2 h3 _
  refine h v' w' (OwnS.of (by rw [List.length_append]) ?_) ((Below.refl B w).grown h2 hB fun q hq => (World.ownsRow.lt hown q hq).1) h2 h3
  rw [List.flatMap_append]
  exact h1
end Go.Proofs.YtgbhfhnbmgkaoaaGreatDoor
namespace Go.Proofs.YtgbhfhnbmgkaoaaGreatDoor
open Go.RowKit

/-- Numbers, as values of a kind. -/
def natVals (k : IntKind) (l : List Nat) : List Value := l.map fun (z : Nat) => Value.int k (z : Int)
theorem natVals_len (k : IntKind) (l : List Nat) : (natVals k l).length = l.length := by simp [natVals]
theorem natVals_at (k : IntKind) (l : List Nat) (i : Nat) : (natVals k l)[i]? = l[i]?.map fun (z : Nat) => Value.int k (z : Int) := by simp [natVals]
theorem natVals_set (k : IntKind) (l : List Nat) (i z : Nat) : (natVals k l).set i (.int k (z : Int)) = natVals k (l.set i z) := by simp [natVals, List.map_set]
theorem natVals_append (k : IntKind) (a b : List Nat) : natVals k (a ++ b) = natVals k a ++ natVals k b := by simp [natVals]
/-- An array of numbers, as a value. -/
def natsVal (k : IntKind) (l : List Nat) : Value := .agg (natVals k l).toArray

/-- The block g is an array of these numbers. -/
def Arr (g : Nat) (t : TypeId) (k : IntKind) (l : List Nat) (w : World) : Prop := w.heap[g]? = some (.cells (natVals k l).toArray t (0, 0))

section
variable {g : Nat} {t : TypeId} {k : IntKind} {l : List Nat} {w w' : World}
theorem Arr.lt (h : Arr g t k l w) : g < w.heap.size := (Array.getElem?_eq_some_iff.1 h).1
theorem Arr.cell (h : Arr g t k l w) {i z : Nat} (hz : l[i]? = some z) : w.cell? ⟨g, i, none⟩ = some (.int k (z : Int)) := by
  rw [cell_of_row w g i _ t (0, 0) h]
  simp [natVals, hz]
theorem Arr.cellD (h : Arr g t k l w) {i : Nat} (hi : i < l.length) : w.cell? ⟨g, i, none⟩ = some (.int k (l.getD i 0 : Nat)) := h.cell (by simp [List.getD, hi])
theorem Arr.free (h : Arr g t k l w) (i : Nat) : w.frozen? ⟨g, i, none⟩ = false := frozen_of_row w g i _ t h
theorem Arr.set (h : Arr g t k l w) (i z : Nat) : Arr g t k (l.set i z) (w.setCell ⟨g, i, none⟩ (.int k (z : Int))) := by
  have := heap_setCell_same (i := i) w g _ t (.int k (z : Int)) h
  unfold Arr
  rw [this, ← natVals_set]
  simp
theorem Arr.other (h : Arr g t k l w) (a : Addr) (v : Value) (hne : g ≠ a.block) : Arr g t k l (w.setCell a v) := (heap_setCell_other w a g v hne).trans h
theorem Arr.kept (h : Arr g t k l w) {B : Nat} (hb : Below B w w') (hg : g < B) : Arr g t k l w' := (hb.block g hg).trans h
theorem Arr.alloc (h : Arr g t k l w) (o : Obj) : Arr g t k l (w.alloc o) := ((by first | exact heap_alloc_old w o g h.lt | exact heap_alloc_old w o h.lt : (w.alloc o).heap[g]? = w.heap[g]?)).trans h
theorem Arr.drew (h : Arr g t k l w) : Arr g t k l w.drew := h
theorem Arr.new (w : World) (t : TypeId) (k : IntKind) (l : List Nat) : Arr w.heap.size t k l (w.alloc (.cells (natVals k l).toArray t)) := heap_alloc_new w _
theorem Arr.row (h : Arr g t k l w) (l' : List Nat) : Arr g t k l' (w.setRow g (natVals k l').toArray) := setRow_heap w g _ _ t _ h
theorem Arr.rowOther {g' : Nat} (h : Arr g t k l w) (cs : Array Value) (hne : g ≠ g') : Arr g t k l (w.setRow g' cs) := (setRow_other w g' g cs hne).trans h
end

open TextNat in
theorem run_copy_text {P : Program} (w : World) (dT sT ty elem : TypeId) (g dLen dCap : Nat) (s : ByteArray) (l : List Nat) (t : TypeId)
    (hu : P.underlying dT = some (.slice elem)) (hs : (P.info? elem).map (·.size) = some 1) (hg : Arr g t .u8 l w) (hl : l.length = dLen) :
    (Builtin.copy_ #[dT, sT] ty #[.slice (some ⟨g, 0, none⟩) dLen dCap, .string s]).run P w =
      .ok (goInt (Nat.min s.size dLen)) (w.setRow g (natVals .u8 ((nats s).take dLen ++ l.drop s.size)).toArray) := by
  have hv : List.take (Nat.min s.size dLen) (List.map (fun b : UInt8 => Value.int IntKind.u8 (b.toNat : Int)) s.data.toList) = natVals .u8 ((nats s).take dLen) := by
    have e : List.map (fun b : UInt8 => Value.int IntKind.u8 (b.toNat : Int)) s.data.toList = natVals .u8 (nats s) := by simp [natVals, nats, Function.comp_def]
    rw [e]
    have hn : (natVals .u8 (nats s)).length = s.size := by rw [natVals_len, nats_len]
    have e2 : natVals .u8 ((nats s).take dLen) = (natVals .u8 (nats s)).take dLen := by simp [natVals, List.map_take]
    rw [e2]
    by_cases h : s.size ≤ dLen
    · rw [show Nat.min s.size dLen = s.size from Nat.min_eq_left h, List.take_of_length_le (by omega), List.take_of_length_le (by omega)]
    · rw [show Nat.min s.size dLen = dLen from Nat.min_eq_right (by omega)]
  have hlen : (natVals .u8 ((nats s).take dLen)).length = Nat.min s.size dLen := by
    rw [natVals_len, List.length_take, nats_len]
    exact Nat.min_comm _ _
  have hst := run_storeCells_at (P := P) g 0 t (natVals .u8 ((nats s).take dLen)) 0 _ w hg (by rw [hlen]; simp only [List.size_toArray, natVals_len, hl]; have := Nat.min_le_right s.size dLen; show 0 + 0 + min s.size dLen ≤ dLen; omega) (fun v hv => by
    obtain ⟨z, _, rfl⟩ := List.mem_map.1 hv
    rfl)
  have hd : l.drop (Nat.min s.size dLen) = l.drop s.size := by
    by_cases h : s.size ≤ dLen
    · rw [show Nat.min s.size dLen = s.size from Nat.min_eq_left h]
    · rw [show Nat.min s.size dLen = dLen from Nat.min_eq_right (by omega), List.drop_of_length_le (by omega), List.drop_of_length_le (by omega)]
  rw [hlen] at hst
  simp only [Nat.add_zero, Nat.zero_add, List.take_zero, List.nil_append] at hst
  have hdd : (natVals .u8 l).drop (Nat.min s.size dLen) = natVals .u8 (l.drop s.size) := by
    rw [← hd]; simp [natVals, List.map_drop]
  rw [hdd, ← natVals_append] at hst
  cases hq : P.info? elem with
  | none => simp [hq] at hs
  | some i =>
    have h1 : i.size = 1 := by simpa [hq] using hs
    simp [Builtin.copy_, run_underlying hu, Builtin.lenOf, Builtin.firstCells, sizeOf, typeInfo, hq]
    rw [hv, hst]
    simp [Result.andThen]

open TextNat in
/-- copy(b[:], s), b an array of the call's own. -/
theorem wpList_copy_text {P : Program} {w : World} {ops : Array Oper} {rest : List Oper} {o : Oper} {a : Act} {Q : Exit → Act → World → Prop} (hgd : o.guard = none) (d x : Operand) (dT sT : TypeId)
    (ho : o.op = .call { callee := .builtin .copy, args := #[d, x], argTypes := #[dT, sT] }) (elem : TypeId) (hu : P.underlying dT = some (.slice elem)) (hsz : (P.info? elem).map (·.size) = some 1)
    (g dLen dCap : Nat) (s : ByteArray) (hd : a.eval d = .slice (some ⟨g, 0, none⟩) dLen dCap) (hx : a.eval x = .string s) (t : TypeId) (l : List Nat) (hg : Arr g t .u8 l w) (hl : l.length = dLen)
    (h : wpList P ops Q rest (a.put o.dst (goInt (Nat.min s.size dLen))) (w.setRow g (natVals .u8 ((nats s).take dLen ++ l.drop s.size)).toArray)) : wpList P ops Q (o :: rest) a w := by
  refine wpList_plain hgd fun K hK => ?_
  have hrun := run_copy_text (P := P) w dT sT o.type elem g dLen dCap s l t hu hsz hg hl
  unfold Oper.wp
  simp [execOp, ho, resolve, invoke, builtin, hd, hx, hrun, Result.andThen]
  exact hK _ _ h

open TextNat in
/-- .. with what comes of it named. -/
theorem wpList_copy_text_to {P : Program} {w : World} {ops : Array Oper} {rest : List Oper} {o : Oper} {a : Act} {Q : Exit → Act → World → Prop} (hgd : o.guard = none) (d x : Operand) (dT sT : TypeId)
    (ho : o.op = .call { callee := .builtin .copy, args := #[d, x], argTypes := #[dT, sT] }) (elem : TypeId) (hu : P.underlying dT = some (.slice elem)) (hsz : (P.info? elem).map (·.size) = some 1)
    (g dLen dCap : Nat) (s : ByteArray) (hd : a.eval d = .slice (some ⟨g, 0, none⟩) dLen dCap) (hx : a.eval x = .string s) (t : TypeId) (l : List Nat) (hg : Arr g t .u8 l w) (hl : l.length = dLen)
    (n : Nat) (hn : min s.size dLen = n) (C : Array Value) (hC : C = (natVals .u8 ((nats s).take dLen ++ l.drop s.size)).toArray)
    (h : wpList P ops Q rest (a.put o.dst (.int .i64 (n : Int))) (w.setRow g C)) : wpList P ops Q (o :: rest) a w := by
  refine wpList_copy_text hgd d x dT sT ho elem hu hsz g dLen dCap s hd hx t l hg hl ?_
  rw [← hC, show Nat.min s.size dLen = n from hn]
  exact h
end Go.Proofs.YtgbhfhnbmgkaoaaGreatDoor
namespace Go.Proofs.YtgbhfhnbmgkaoaaGreatDoor
open Go.RowKit

theorem results_cell_tmp {P : Program} {fn : Func} {p t : Tmp} {ty : TypeId} (h : fn.results = #[.cell p ty, .tmp t]) (tmps : Array Value) (w : World) (g : Nat) (T : TypeId) (cs : Array Value) (fr : Nat × Nat) (d : TypeDesc)
    (hp : tmps.getD p undef = .pointer (some ⟨g, 0, none⟩)) (hg : w.heap[g]? = some (.cells cs T fr))
    (hu : P.underlying ty = some d) (hd : (match d with | .struct _ | .array _ _ => true | _ => false) = true) (hi : (P.info? ty).map (·.size) = some cs.size) :
    (results fn tmps).run P w = .ok (.tuple #[.agg cs, tmps.getD t undef]) w := by
  have hp' : tmps[p]?.getD undef = .pointer (some ⟨g, 0, none⟩) := by simpa using hp
  simp [results, h, hp', asAddr, run_loadVar_row w g T ty cs fr d hg hu hd hi]
end Go.Proofs.YtgbhfhnbmgkaoaaGreatDoor
