/-
  Rows of stamps that the call itself makes by append: what they are, and that they stay. No program is run here.
-/
import Derived.Test.YtlhilpmlffbnkaaStampLaws
import Derived.Laws.AppendOwn
import Derived.Laws.OwnMore
namespace Go.Proofs.Ytlhilpmlffbnkaa
open Go.RowKit StampMath

theorem info_stamp : (Try.prog.info? 25).map (fun i => (i.zero, i.size, i.bytes)) = some (some (.agg #[.int .i64 0, .int .i64 0]), 2, 16) := by kernel_rfl
def stCells (a : St) : List Value := [.int .i64 a.1, .int .i64 a.2]
theorem stCells_len : ∀ A : List St, (A.flatMap stCells).length = A.length * 2
  | [] => rfl
  | x :: r => by
    rw [List.flatMap_cons, List.length_append, stCells_len r, List.length_cons]
    show 2 + _ = _
    omega
theorem stCells_at : ∀ {A : List St} {i : Nat} {a : St}, A[i]? = some a → (A.flatMap stCells)[i * 2]? = some (.int .i64 a.1) ∧ (A.flatMap stCells)[i * 2 + 1]? = some (.int .i64 a.2)
  | x :: r, 0, a, h => by
    obtain rfl : x = a := by simpa using h
    exact ⟨rfl, rfl⟩
  | x :: r, i + 1, a, h => by
    have h2 : r[i]? = some a := by simpa using h
    obtain ⟨k1, k2⟩ := stCells_at h2
    rw [List.flatMap_cons, show (i + 1) * 2 = (stCells x).length + i * 2 by show (i + 1) * 2 = 2 + i * 2; omega, List.getElem?_append_right (by omega), Nat.add_sub_cancel_left, show (stCells x).length + i * 2 + 1 = (stCells x).length + (i * 2 + 1) by omega, List.getElem?_append_right (by omega), Nat.add_sub_cancel_left]
    exact ⟨k1, k2⟩
/-- A row of one's own that holds these stamps. -/
def OwnS (w : World) (B : Nat) (v : Value) (A : List St) : Prop := w.ownsRow B 25 2 v A.length (A.flatMap stCells)
theorem OwnS.nil (w : World) (B : Nat) : OwnS w B (.slice none 0 0) [] := World.ownsRow_nil w B _ 2
theorem OwnS.shape {w : World} {B : Nat} {v : Value} {A : List St} (h : OwnS w B v A) : ∃ p c, v = .slice p A.length c := by
  rcases h.2 with ⟨rfl, h0⟩ | ⟨g, cap, cur, rfl, _⟩
  · exact ⟨none, 0, by rw [h0]⟩
  · exact ⟨_, _, rfl⟩
theorem OwnS.more {w : World} {B : Nat} {v : Value} {A : List St} {a : St} {n : Nat} (hn : n = A.length) (h : w.ownsRow B 25 2 v (n + 1) (A.flatMap stCells ++ [.int .i64 a.1, .int .i64 a.2])) : OwnS w B v (A ++ [a]) := by
  subst hn
  unfold OwnS
  rw [List.length_append, List.flatMap_append]
  exact h
theorem OwnS.of_block {w w' : World} {B : Nat} {v : Value} {A : List St} (h : OwnS w B v A) (hb : ∀ g, B ≤ g → g < w.heap.size → w'.heap[g]? = w.heap[g]?) : OwnS w' B v A := by
  refine ⟨h.1, ?_⟩
  rcases h.2 with h2 | ⟨g, cap, cur, h3, h4, h5, h6⟩
  · exact .inl h2
  · exact .inr ⟨g, cap, cur, h3, h4, (hb g h4 (Array.getElem?_eq_some_iff.1 h5).1).trans h5, h6⟩
theorem OwnS.below {w w' : World} {B : Nat} {v : Value} {A : List St} (h : OwnS w B v A) (hb : Below w.heap.size w w') : OwnS w' B v A := h.of_block fun g _ hg => hb.block g hg
theorem OwnS.but {w w' : World} {B pb : Nat} {v : Value} {A : List St} (h : OwnS w B v A) (hb : But pb w w') (hp : pb < B) : OwnS w' B v A := h.of_block fun g hB hg => hb.block g hg (by omega)
theorem OwnS.stamps {w : World} {B : Nat} {p : Option Addr} {n c : Nat} {A : List St} (h : OwnS w B (.slice p n c) A) : Stamps w p A := fun i a ha => by
  have hi := (List.getElem?_eq_some_iff.1 ha).1
  rcases h.2 with ⟨_, h2⟩ | ⟨g, cap, cur, h3, h4, h5, h6⟩
  · omega
  · have hv : Value.slice p n c = .slice (some ⟨g, 0, none⟩) A.length cap := h3
    obtain ⟨rfl, rfl, rfl⟩ : p = some ⟨g, 0, none⟩ ∧ n = A.length ∧ c = cap := by simpa using hv
    have h' : w.ownsRow B 25 2 (.slice (some ⟨g, 0, none⟩) A.length c) A.length (A.flatMap stCells) := h
    obtain ⟨k1, k2⟩ := stCells_at ha
    refine ⟨g, 0, rfl, ?_, ?_⟩
    · rw [Nat.zero_add, h'.cellAt _ (by omega), k1]
    · rw [Nat.zero_add, h'.cellAt _ (by omega), k2]
theorem Clk.grown {w w' : World} {b : Nat} {r t : Int} {row : Option Nat} (h : Clk w b r t) (hg : w.grownBy w' row) (hr : ∀ k, row = some k → b < k) : Clk w' b r t := by
  unfold Clk Lies at *
  rw [hg.block b (Array.getElem?_eq_some_iff.1 h).1 (fun e => by have := hr b e.symm; omega)]
  exact h
/-- The cells that a row of one stamp is made with. -/
theorem two_put (w : World) (u v : Value) (T : TypeId) (B : Nat) (hB : B = w.heap.size) : ∀ j x, [u, v][j]? = some x → (w.alloc (.cells #[u, v] T)).cell? ((⟨B, 0, none⟩ : Addr).add j) = some x := by
  subst hB
  intro j x hj
  match j, hj with
  | 0, hj => simp at hj; subst hj; simp [Addr.add]
  | 1, hj => simp at hj; subst hj; simp [Addr.add]
end Go.Proofs.Ytlhilpmlffbnkaa
