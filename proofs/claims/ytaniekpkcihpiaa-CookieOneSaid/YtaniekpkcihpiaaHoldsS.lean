/-
  A strings.Builder of one's own that texts are written to: what it holds. The conditions: those typed.
-/
import Derived.Test.YtaniekpkcihpiaaText
import Derived.Test.YtaniekpkcihpiaaBut
import Derived.Test.YtaniekpkcihpiaaBuilderS
import Derived.Below
import Derived.OwnWalk
import Derived.Laws.OwnMore
namespace Go.Proofs.Ytaniekpkcihpiaa
open Go.RowKit TextNat

/-- A builder of one's own that holds these numbers as bytes. -/
def HoldsS (w : World) (B : Nat) (t : List Nat) : Prop := Lib.IsBuilder 41 5 B B (Lib.strCells (txt t)) w
theorem row_below {w w' : World} {B : Nat} {T : TypeId} {v : Value} {xs : List Value} {n : Nat} (h : w.ownsRow B T 1 v n xs) (hb : Below w.heap.size w w') : w'.ownsRow B T 1 v n xs := by
  refine ⟨h.1, ?_⟩
  rcases h.2 with h2 | ⟨g, cap, cur, h3, h4, h5, h6⟩
  · exact .inl h2
  · exact .inr ⟨g, cap, cur, h3, h4, (hb.block g (Array.getElem?_eq_some_iff.1 h5).1).trans h5, h6⟩
theorem HoldsS.below {w w' : World} {B : Nat} {t : List Nat} (h : HoldsS w B t) (hb : Below w.heap.size w w') : HoldsS w' B t := by
  rcases h with ⟨h0, v, h1, h2, h3⟩ | ⟨h0, v, h1, h2, h3⟩
  · exact .inl ⟨h0, v, (hb.block B (Array.getElem?_eq_some_iff.1 h1).1).trans h1, row_below h2 hb, h3⟩
  · exact .inr ⟨h0, v, (hb.block B (Array.getElem?_eq_some_iff.1 h1).1).trans h1, row_below h2 hb, h3⟩
theorem HoldsS.new (w : World) : HoldsS (w.alloc (.cells #[.pointer none, .slice none 0 0] 41)) w.heap.size [] :=
  .inl ⟨Nat.le_refl _, .slice none 0 0, heap_alloc_new w _, World.ownsRow_nil _ _ _ _, by simp [Value.ownBlock]⟩
theorem cells_more (a b : List Nat) : Lib.strCells (txt a) ++ Lib.strCells (txt b) = Lib.strCells (txt (a ++ b)) := by
  rw [← txt_append]
  unfold Lib.strCells
  rw [ByteArray.data_append, Array.toList_append, List.map_append]
theorem builder_put (a b : List Nat) (B : Nat) (w : World) (h : HoldsS w B a) (hl : a.length + b.length ≤ 140737488355328) (hB : B ≤ w.heap.size) :
    Calls Try.prog 14 #[.pointer (some ⟨B, 0, none⟩), .string (txt b)] w fun e w' => (∃ v, e = .returned v) ∧ HoldsS w' B (a ++ b) ∧ Below B w w' := by
  refine (Try.BuilderS_WriteString B B _ (txt b) w h (by rw [Lib.strCells_length, txt_len, txt_len]; omega) hB).mono ?_
  rintro e w' ⟨rfl, h1, h2⟩
  rw [cells_more] at h1
  exact ⟨⟨_, rfl⟩, .inr h1, h2⟩
theorem builder_told (t : List Nat) (B : Nat) (w : World) (h : HoldsS w B t) (hB : B ≤ w.heap.size) :
    Calls Try.prog 15 #[.pointer (some ⟨B, 0, none⟩)] w fun e w' => e = .returned (.string (txt t)) ∧ Below B w w' :=
  Try.BuilderS_String B B (txt t).data.toList w h hB
end Go.Proofs.Ytaniekpkcihpiaa
