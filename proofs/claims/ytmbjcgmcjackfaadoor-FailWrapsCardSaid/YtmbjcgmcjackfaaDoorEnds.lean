/-
  The contract of ends: that errors.As comes to an end.
-/
import Derived.Test.YtmbjcgmcjackfaaDoorThrough
import Derived.Laws.EntriesVeiled
namespace Go.Proofs.YtmbjcgmcjackfaaDoor
open Go.RowKit Go.Extern.Stop Go.Stop Go.Extern

theorem ends_any (f : Nat) (b : Bool) (v : Value) (w : World)
    (h27 : ∀ w0 : World, Below w.heap.size w w0 → Walk w.heap.size f 2147483647 w0 → Calls Tryd.prog 27 #[.pointer (some ⟨w.heap.size, 0, none⟩), v, .int .i64 0] w0 fun e w' => Thru w.heap.size f w0 e b w') :
    Calls Tryd.prog 19 #[v, .func (.func f) #[] #[]] w fun e w' => e = .returned (.bool true) ∧ Below w.heap.size w w' := by
  have hb : Below w.heap.size w (w.alloc (.cells #[.func (.func f) #[] #[], .int .i64 2147483647, .bool false] 64)) := (Below.refl _ _).alloc (Nat.le_refl _) _
  have H := Lib.hid (h27 _ hb ⟨by simp, by simp, by simp, by simp⟩)
  clear h27
  go_enter Tryd.func19, Tryd.ntmps19
  go_wp2_with (go_at_call 27; refine H.out.mono ?_; rintro e w2 ⟨rfl, ⟨n, hW⟩, hB⟩; have hE := hW.endless)
  go_ret
  exact ⟨rfl, hb.trans (hB.below (by simp))⟩

theorem ends_code (l : List Wrap) (c : Int) (v : Value) (w : World) (hch : Chain w.heap.size w l (.iface 35 (.int .i64 c)) v) (hl : l.length ≤ 1048576) :
    Calls Tryd.prog 19 #[v, .func (.func 20) #[] #[]] w fun e w' => e = .returned (.bool true) ∧ Below w.heap.size w w' :=
  ends_any 20 false v w fun w0 hb hW => through_code w.heap.size l c v 0 2147483647 w0 (hch.mono hb (Nat.le_refl _)) hW (by omega) (by omega) (by omega) (by omega)

theorem ends_nil (l : List Wrap) (v : Value) (w : World) (hch : Chain w.heap.size w l .nilIface v) (hl : l.length ≤ 1048576) :
    Calls Tryd.prog 19 #[v, .func (.func 20) #[] #[]] w fun e w' => e = .returned (.bool true) ∧ Below w.heap.size w w' :=
  ends_any 20 true v w fun w0 hb hW => through_nil w.heap.size l v 0 2147483647 w0 (hch.mono hb (Nat.le_refl _)) hW (by omega) (by omega) (by omega) (by omega)

theorem ends_place (x : Value) (w : World) :
    Calls Tryd.prog 19 #[.iface 42 x, .func (.func 30) #[] #[]] w fun e w' => e = .returned (.bool true) ∧ Below w.heap.size w w' :=
  ends_any 30 false (.iface 42 x) w fun w0 _ hW => through_place w.heap.size x 2147483647 w0 hW (by omega) (by omega)

theorem ends_bare (c : Int) (w : World) :
    Calls Tryd.prog 19 #[.iface 35 (.int .i64 c), .func (.func 30) #[] #[]] w fun e w' => e = .returned (.bool true) ∧ Below w.heap.size w w' :=
  ends_any 30 true _ w fun w0 _ hW => through_bare w.heap.size c 2147483647 w0 hW (by omega) (by omega)

theorem ends_pair (b : Nat) (l : List Wrap) (c : Int) (T U : TypeId) (x y : Value) (w : World) (hch : Chain w.heap.size w l (.iface 35 (.int .i64 c)) (.iface T x))
    (h0 : w.cell? ⟨b, 0, none⟩ = some (.iface T x)) (h1 : w.cell? ⟨b, 1, none⟩ = some (.iface U y)) (hl : l.length ≤ 1048575) :
    Calls Tryd.prog 19 #[.iface 60 (.pointer (some ⟨b, 0, none⟩)), .func (.func 20) #[] #[]] w fun e w' => e = .returned (.bool true) ∧ Below w.heap.size w w' :=
  have hb := cell_lt h0
  ends_any 20 false _ w fun w0 hB hW => through_pair w.heap.size b l c T U x y 2147483647 w0 (hch.mono hB (Nat.le_refl _)) hW hb ((hB.cell (p := ⟨b, 0, none⟩) hb).trans h0) ((hB.cell (p := ⟨b, 1, none⟩) hb).trans h1) hl rfl
end Go.Proofs.YtmbjcgmcjackfaaDoor
