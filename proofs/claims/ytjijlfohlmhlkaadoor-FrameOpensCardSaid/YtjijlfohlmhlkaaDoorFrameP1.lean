/-
  The program's own raw bytes of chapter 9: what a row made with spare room is, append onto a slice that is full, withSum, raw. No conditions but those typed.
-/
import Derived.Test.YtjijlfohlmhlkaaDoorFrameRef2
import Derived.Test.YtjijlfohlmhlkaaDoorCrcSum
import Derived.Laws.MakeOwn
namespace Go.Proofs.YtjijlfohlmhlkaaDoor
open Go.RowKit FrameMath TextNat CrcMath

/-- A store into a row of bytes of one's own. -/
theorem Own8.set {w : World} {B g cap n : Nat} {l : List Nat} (h : Own8 w B (.slice (some ⟨g, 0, none⟩) n cap) l) (j z : Nat) : Own8 (w.setCell ⟨g, j, none⟩ (.int .u8 (z : Int))) B (.slice (some ⟨g, 0, none⟩) n cap) (l.set j z) := by
  refine ⟨by unfold byteVals; rw [List.length_map, Nat.mul_one], ?_⟩
  rcases h.2 with ⟨h1, _⟩ | ⟨g', cap', cur, hv, hb, hg, hnc, hcm, hcs, ht⟩
  · cases h1
  · simp only [Value.slice.injEq, Option.some.injEq, Addr.mk.injEq] at hv
    obtain ⟨⟨rfl, _⟩, rfl, rfl⟩ := hv
    refine .inr ⟨g, cap, cur.setIfInBounds j (.int .u8 (z : Int)), by rw [List.length_set], hb, ?_, by rw [List.length_set]; exact hnc, hcm, by simpa using hcs, ?_⟩
    · rw [setCell_eq_setRow w g j cur 5 (0, 0) _ hg]
      exact setRow_heap w g cur _ 5 _ hg
    · rw [Array.toList_setIfInBounds, List.length_set, List.take_set, ht]
      unfold byteVals
      rw [List.map_set]
theorem own_store {B g j : Nat} {a w : World} {v : Value} (h : Below B a w) (hg : B ≤ g) : Below B a (w.setCell ⟨g, j, none⟩ v) :=
  ⟨h.os, h.tape, h.output, by have := h.size; simpa [World.setCell] using this, fun k hk => (Below.heap_setCell _ _ _ _ (by show k ≠ g; omega)).trans (h.block k hk)⟩
/-- A row of noughts with spare room. -/
theorem made8 (n c : Nat) (hc : c ≤ 1000000) (hn : n ≤ c) : ∀ u : World, (Instr.makeSlice 36 (.int .i64 (n : Int)) (.int .i64 (c : Int))).run Tryd.prog u = .ok (.slice (some ⟨u.heap.size, 0, none⟩) n c) (u.alloc (.cells (List.replicate c (Value.int .u8 0)).toArray 5)) := fun u => by
  obtain ⟨ii, hii, hi0, hi1, hi2⟩ := info_parts info_byte
  have h := run_make (P := Tryd.prog) u 36 5 ii (.int .u8 0) Tryd.underlying36 hii hi0 .i64 .i64 (n : Int) (c : Int) (by omega) (by omega) (by rw [hi2]; omega) (by omega)
  rw [h, hi1, Nat.mul_one, Int.toNat_natCast, Int.toNat_natCast]
  have e : madeCells (Value.int IntKind.u8 0).cells c = (List.replicate c (Value.int .u8 0)).toArray := by
    apply Array.toList_inj.1
    exact toList_madeCells_one _ _
  rw [e]
theorem byteVals_noughts (n : Nat) : byteVals (List.replicate n 0) = List.replicate n (Value.int .u8 0) := by
  unfold byteVals
  rw [List.map_replicate]
  rfl
theorem own_made8 (n c : Nat) (hc : c ≤ 1000000) (hn : n ≤ c) (u : World) : Own8 (u.alloc (.cells (List.replicate c (Value.int .u8 0)).toArray 5)) u.heap.size (.slice (some ⟨u.heap.size, 0, none⟩) n c) (List.replicate n 0) := by
  refine ⟨by rw [byteVals_noughts, List.length_replicate, List.length_replicate, Nat.mul_one], .inr ⟨u.heap.size, c, _, by rw [List.length_replicate], Nat.le_refl _, heap_alloc_new u _, by rw [List.length_replicate]; exact hn, by unfold maxLen; omega, by simp, ?_⟩⟩
  rw [List.length_replicate, Nat.mul_one, byteVals_noughts, List.take_replicate, Nat.min_eq_left hn]
/-- The cells of such a row: what they are, that they may be written. -/
theorem Own8.block {w : World} {B g cap n : Nat} {l : List Nat} (h : Own8 w B (.slice (some ⟨g, 0, none⟩) n cap) l) : n = l.length ∧ B ≤ g ∧ g < w.heap.size ∧ (∀ i z : Nat, l[i]? = some z → w.cell? ⟨g, i, none⟩ = some (.int .u8 (z : Int))) ∧ (∀ i : Nat, w.frozen? ⟨g, i, none⟩ = false) := by
  rcases h.2 with ⟨h1, _⟩ | ⟨g', cap', cur, hv, hb, hg, hnc, hcm, hcs, ht⟩
  · cases h1
  · simp only [Value.slice.injEq, Option.some.injEq, Addr.mk.injEq] at hv
    obtain ⟨⟨rfl, _⟩, rfl, rfl⟩ := hv
    refine ⟨rfl, hb, (Array.getElem?_eq_some_iff.1 hg).1, fun i z hz => ?_, fun i => by simp [World.frozen?, hg]⟩
    rw [cell_of_row w g i cur _ _ hg]
    have := congrArg (fun k : List Value => k[i]?) ht
    simp only [List.getElem?_take, Nat.mul_one, if_pos (List.getElem?_eq_some_iff.1 hz).1, Array.getElem?_toList] at this
    rw [this]
    unfold byteVals
    rw [List.getElem?_map, hz]
    rfl
theorem Own8.room {w : World} {B n cap : Nat} {p : Option Addr} {l : List Nat} (h : Own8 w B (.slice p n cap) l) : n = l.length ∧ l.length ≤ cap := by
  rcases h.2 with ⟨h1, h2⟩ | ⟨g', cap', cur, hv, hb, hg, hnc, hcm, hcs, ht⟩
  · simp only [Value.slice.injEq] at h1
    omega
  · simp only [Value.slice.injEq] at hv
    omega
theorem setRow_same {w : World} {g : Nat} {cs cs' : Array Value} {e : TypeId} (hg : w.heap[g]? = some (.cells cs e (0, 0))) (h : cs' = cs) : w.setRow g cs' = w := by
  subst h
  have : (w.setRow g cs').heap = w.heap := by
    apply Array.ext_getElem?
    intro i
    by_cases hi : i = g
    · subst hi
      rw [setRow_heap w i cs' cs' e (0, 0) hg, hg]
    · simp [World.setRow, Array.getElem?_modify, Ne.symm hi]
  unfold World.setRow at this ⊢
  simp only at this
  rw [this]
/-- append of a text's bytes onto a slice that is full: the elder row stays as it is. -/
theorem app_full {ops : Array Oper} {rest : List Oper} {o : Oper} {ac : Act} {Q : Exit → Act → World → Prop} {w : World} (hgd : o.guard = none) (sl x : Operand)
    (ho : o.op = .call { callee := .builtin .append, args := #[sl, x], argTypes := #[36, 9] })
    (B g cap n : Nat) (l : List Nat) (m : Nat) (hs : ac.eval sl = .slice (some ⟨g, 0, none⟩) m m) (hown : Own8 w B (.slice (some ⟨g, 0, none⟩) n cap) l) (hm : m ≤ l.length) (t : ByteArray) (hx : ac.eval x = .string t) (hz : l.length + t.size ≤ 1000000) (k : Nat) (hk : k = m + t.size)
    (h : ∀ pp c' w', (∀ i z : Nat, (l.take m ++ nats t)[i]? = some z → ∃ b off, pp = some ⟨b, off, none⟩ ∧ w'.cell? ⟨b, off + i, none⟩ = some (.int .u8 (z : Int))) → Below w.heap.size w w' → wpList Tryd.prog ops Q rest (ac.put o.dst (.slice pp k c')) w') : wpList Tryd.prog ops Q (o :: rest) ac w := by
  subst hk
  obtain ⟨ib, hib, hb0, hb1, hb2⟩ := info_parts info_byte
  have hcells := hown.block
  obtain ⟨hn, hBg, hgl, hc, _⟩ := hcells
  refine wpList_plain hgd fun K hK => ?_
  by_cases h0 : t.size = 0
  · rcases hown.2 with ⟨h1, _⟩ | ⟨g', cap', cur, hv, hb, hg, hnc, hcm, hcs, ht⟩
    · cases h1
    · simp only [Value.slice.injEq, Option.some.injEq, Addr.mk.injEq] at hv
      obtain ⟨⟨rfl, _⟩, _, _⟩ := hv
      have hst : Lib.strCells t = [] := List.eq_nil_of_length_eq_zero (by rw [Lib.strCells_length]; exact h0)
      have hr := Lib.run_append_room_string (P := Tryd.prog) w 36 9 o.type 5 ib Tryd.underlying36 Tryd.underlying9 hib hb1 g m m cur hg t (by omega) (by omega)
      rw [setRow_same hg (by rw [hst, h0]; simp)] at hr
      have hres := h (some ⟨g, 0, none⟩) m w (fun i z hi => by
        have hnt : nats t = [] := List.eq_nil_of_length_eq_zero (by rw [nats_len]; exact h0)
        rw [hnt, List.append_nil, List.getElem?_take] at hi
        split at hi
        · exact ⟨g, 0, rfl, by rw [Nat.zero_add]; exact hc i z hi⟩
        · cases hi) (Below.refl _ _)
      unfold Oper.wp execOp
      simp only [ho, resolve, invoke, builtin, Sem.run_bind, Sem.run_pure, Result.andThen_ok, List.map_toArray, List.map_cons, List.map_nil, hs, hx, hr]
      exact hK _ _ hres
  · have hr := Lib.run_append_grow_string (P := Tryd.prog) w 36 9 o.type 5 ib (.int .u8 0) Tryd.underlying36 Tryd.underlying9 hib hb0 ⟨g, 0, none⟩ m m (byteVals (l.take m)) (by unfold byteVals; rw [List.length_map, List.length_take, hb1]; omega) (fun j v hj => by
      unfold byteVals at hj
      rw [List.getElem?_map] at hj
      cases hz' : (l.take m)[j]? with
      | none => rw [hz'] at hj; cases hj
      | some z =>
        rw [hz'] at hj
        obtain rfl := Option.some.inj hj
        rw [List.getElem?_take] at hz'
        split at hz'
        · rw [show (⟨g, 0, none⟩ : Addr).add j = ⟨g, j, none⟩ by unfold Addr.add; split <;> simp_all]
          exact hc j z hz'
        · cases hz') t (by omega) (by omega) (by rw [hb2]; exact growslice_fits (by omega) (by omega))
    have hres := h (some ⟨w.heap.size, 0, none⟩) (grownCap w (m + t.size) m 5) (w.drew.alloc (.cells ((byteVals (l.take m)).toArray ++ (Lib.strCells t).toArray ++ Builtin.zeroCells (Value.int .u8 0).cells (grownCap w (m + t.size) m 5 - (m + t.size))) 5)) (fun i z hi => by
      refine ⟨w.heap.size, 0, rfl, ?_⟩
      rw [Nat.zero_add, cell_of_row _ w.heap.size i _ 5 (0, 0) (heap_alloc_new w.drew _)]
      have hb : (byteVals (l.take m ++ nats t))[i]? = some (.int .u8 (z : Int)) := by
        unfold byteVals
        rw [List.getElem?_map, hi]
        rfl
      rw [byteVals_app, ← strCells_nats] at hb
      rw [← Array.getElem?_toList]
      simp only [Array.toList_append]
      rw [List.getElem?_append_left (by
        have := (List.getElem?_eq_some_iff.1 hb).1
        simpa using this)]
      simpa using hb) ((Below.refl w.heap.size w).drew.alloc (Nat.le_refl _) _)
    unfold Oper.wp execOp
    simp only [ho, resolve, invoke, builtin, Sem.run_bind, Sem.run_pure, Result.andThen_ok, List.map_toArray, List.map_cons, List.map_nil, hs, hx, hr]
    exact hK _ _ hres
end Go.Proofs.YtjijlfohlmhlkaaDoor
