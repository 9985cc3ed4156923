/-
  Errors that wrap a code, and those whose first place is known. The conditions: the chain typed.
-/
import Derived.Test.YtaniekpkcihpiaaIsCode
namespace Go.Proofs.Ytaniekpkcihpiaa
open Go.RowKit

/-- An error of this code: wraps around it. -/
def ErrIs (w : World) (c : Int) (x : Value) : Prop := ∃ l, Chain w.heap.size w l (.iface 32 (.int .i64 c)) x
theorem ErrIs.below {w w' : World} {c : Int} {x : Value} (h : ErrIs w c x) (hb : Below w.heap.size w w') : ErrIs w' c x := by
  obtain ⟨l, h⟩ := h
  exact ⟨l, h.mono hb hb.size⟩
theorem ErrIs.iface {w : World} {c : Int} {x : Value} (h : ErrIs w c x) : ∃ T y, x = .iface T y := by
  obtain ⟨l, h⟩ := h
  exact h.some
theorem is_err {w : World} {c : Int} {x : Value} (h : ErrIs w c x) (other : Int) : Calls Try.prog 8 #[x, .iface 32 (.int .i64 other)] w fun e w' => e = .returned (.bool (c == other)) ∧ w' = w := by
  obtain ⟨l, h⟩ := h
  exact Is_chain _ l c other x w h
/-- An error of this code whose first place is this one. -/
def ErrAt (w : World) (s : ByteArray) (n c : Int) (x : Value) : Prop := ∃ l, Chain w.heap.size w ((s, n) :: l) (.iface 32 (.int .i64 c)) x
theorem ErrAt.below {w w' : World} {s : ByteArray} {n c : Int} {x : Value} (h : ErrAt w s n c x) (hb : Below w.heap.size w w') : ErrAt w' s n c x := by
  obtain ⟨l, h⟩ := h
  exact ⟨l, h.mono hb hb.size⟩
theorem ErrAt.is {w : World} {s : ByteArray} {n c : Int} {x : Value} (h : ErrAt w s n c x) : ErrIs w c x := by
  obtain ⟨l, h⟩ := h
  exact ⟨_, h⟩
end Go.Proofs.Ytaniekpkcihpiaa
