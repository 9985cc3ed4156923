/-
  The contract of the document's own WriteBytes of chapter 5: what is written of a write's nine things. The conditions: the vector's cells; three texts of at most 100,000 bytes, a vector of at most 1,000,000.
-/
import Derived.Test.YtpmhfoleafjlbaaRefWritten
import Derived.Test.YtpmhfoleafjlbaaWireEnc
namespace Go.Proofs.Ytpmhfoleafjlbaa
open Go.RowKit TextNat

def numItem (n : Int) : Item := ⟨0, n, ⟨#[]⟩, false, none, [], 0⟩
def textItem (s : ByteArray) : Item := ⟨1, 0, s, false, none, [], 0⟩
def flagItem (b : Bool) : Item := ⟨2, 0, ⟨#[]⟩, b, none, [], 0⟩
def vecItem (p : Option Addr) (l : List Int) (c : Nat) : Item := ⟨3, 0, ⟨#[]⟩, false, p, l, c⟩
/-- A write's things. -/
def WriteV.items (x : WriteV) : List Item := [numItem x.region, numItem x.number, numItem x.time, vecItem x.dp x.dl x.dc, textItem x.session, textItem x.key, flagItem x.gone, textItem x.value, numItem x.life]
/-- What is written, as a text; none where one thing can't be. -/
def putText (p : WireMath.Put) : ByteArray := match p.bad with
  | none => txt p.out
  | some _ => ⟨#[]⟩

def Item.cells (x : Item) : List Value := [.int .i64 x.k, .int .i64 x.n, .string x.s, .bool x.b, .slice x.vp x.vl.length x.vc]
theorem cells_at {xs : List Item} : ∀ {i : Nat} {x : Item}, xs[i]? = some x → ∀ j, j < 5 → (xs.flatMap Item.cells)[i * 5 + j]? = x.cells[j]? := by
  induction xs with
  | nil => intro i x h; simp at h
  | cons y r ih =>
    intro i x h j hj
    have hy : y.cells.length = 5 := rfl
    rw [List.flatMap_cons]
    cases i with
    | zero =>
      obtain rfl : y = x := by simpa using h
      rw [List.getElem?_append_left (by omega), Nat.zero_mul, Nat.zero_add]
    | succ i =>
      rw [List.getElem?_append_right (by omega), show (i + 1) * 5 + j - y.cells.length = i * 5 + j by omega]
      exact ih (by simpa using h) j hj
theorem itemsAt_of {w : World} {b : Nat} {xs : List Item} {T : TypeId} (h : w.heap[b]? = some (.cells (xs.flatMap Item.cells).toArray T (0, 0))) (hv : ∀ x ∈ xs, Ints w x.vp x.vl) : ItemsAt w b xs := by
  intro i x hx
  have hc : ∀ j, j < 5 → w.cell? ⟨b, i * 5 + j, none⟩ = x.cells[j]? := fun j hj => by
    rw [cell_of_row w b _ _ T (0, 0) h, ← cells_at hx j hj]
    simp
  exact ⟨hc 0 (by omega), hc 1 (by omega), hc 2 (by omega), hc 3 (by omega), hc 4 (by omega), hv x (List.mem_of_getElem? hx)⟩
theorem heap_two (w : World) (a b : Obj) : ((w.alloc a).alloc b).heap[w.heap.size + 1]? = some b := by
  have h := heap_alloc_new (w.alloc a) b
  simpa using h
theorem below_two (w : World) (a b : Obj) : Below w.heap.size w ((w.alloc a).alloc b) := ((Below.refl _ _).alloc (Nat.le_refl _) _).alloc (by simp) _
theorem ints_none (w : World) : Ints w none [] := fun i z h => by simp at h

set_option maxRecDepth 100000 in
set_option maxHeartbeats 4000000 in
theorem refWriteBytes (x : WriteV) (w : World) (hz : Ints w x.dp x.dl) (hs : x.session.size ≤ 100000 ∧ x.key.size ≤ 100000 ∧ x.value.size ≤ 100000) (hl : x.dl.length ≤ 1000000) :
    Calls Try.prog 24 #[x.val] w fun e w' => e = .returned (.string (putText (WireMath.written (x.items.map Item.thing)))) ∧ Below w.heap.size w w' := by
  obtain ⟨region, number, time, sreg, dp, dl, dc, session, key, value, gone, life⟩ := x
  simp only [WriteV.val] at *
  go_enter Try.func24, Try.ntmps24
  go_wp2_with fail
  refine (refWritten (WriteV.items ⟨region, number, time, sreg, dp, dl, dc, session, key, value, gone, life⟩) _ 9 _ ?hI ?hlt ?hs ?hn).mono ?_
  case hI =>
    refine itemsAt_of (T := 36) ?_ ?_
    · simp only [WriteV.items, List.flatMap_cons, List.flatMap_nil, Item.cells, numItem, textItem, flagItem, vecItem, List.cons_append, List.nil_append, List.length_nil]
      exact heap_two w _ _
    · intro y hy
      simp only [WriteV.items, List.mem_cons, List.not_mem_nil, or_false] at hy
      rcases hy with rfl | rfl | rfl | rfl | rfl | rfl | rfl | rfl | rfl <;> first
        | exact ints_none _
        | exact hz.grown (below_two w _ _)
  case hlt => simp
  case hs =>
    intro y hy
    simp only [WriteV.items, List.mem_cons, List.not_mem_nil, or_false] at hy
    rcases hy with rfl | rfl | rfl | rfl | rfl | rfl | rfl | rfl | rfl <;> refine ⟨?_, ?_⟩ <;> first
      | exact hs.1
      | exact hs.2.1
      | exact hs.2.2
      | exact hl
      | exact Nat.zero_le _
  case hn => simp [WriteV.items]
  rintro e w2 ⟨rfl, hb2⟩
  cases hp : WireMath.written ((WriteV.items ⟨region, number, time, sreg, dp, dl, dc, session, key, value, gone, life⟩).map Item.thing) with
  | mk out bad =>
    cases bad with
    | none =>
      unfold putValue
      simp only
      go_wp2_with fail
      go_ret
      rw [hp]
      exact ⟨rfl, (below_two w _ _).trans (hb2.mono (below_two w _ _).size)⟩
    | some q =>
      obtain ⟨c, at'⟩ := q
      unfold putValue
      simp only
      go_wp2_with fail
      go_ret
      rw [hp]
      exact ⟨rfl, (below_two w _ _).trans (hb2.mono (below_two w _ _).size)⟩
end Go.Proofs.Ytpmhfoleafjlbaa
