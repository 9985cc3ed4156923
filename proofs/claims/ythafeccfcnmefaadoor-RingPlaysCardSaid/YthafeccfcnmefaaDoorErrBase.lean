/-
  What errors.Is and fail.Place both ask of an *Error: Unwrap, that it unwraps to one error, what reflectlite.TypeOf calls. No conditions but on the cells that are read.
-/
import Derived.Test.YthafeccfcnmefaaDoorFailAt
import Derived.Defers
import Derived.Recover
import Derived.RegionTactic
import Derived.ChangeAlike
import Derived.Laws.Pointers
import Derived.Laws.EntriesVeiled
namespace Go.Proofs.YthafeccfcnmefaaDoor
open Go.RowKit Go.Extern.Stop Go.Stop Go.Extern

theorem unwrap_some (b : Nat) (v : Value) (w : World) (h2 : w.cell? ⟨b, 2, none⟩ = some v) :
    Calls Tryd.prog 55 #[.pointer (some ⟨b, 0, none⟩)] w fun e w' => e = .returned v ∧ w' = w := by
  go_enter Tryd.func55, Tryd.ntmps55
  go_wp2
  go_ret
  exact ⟨rfl, rfl⟩

theorem ta42_73 (v : Value) (w : World) : (Instr.typeAssert (.iface 54 v) 26 63 true).run Tryd.prog w = .ok (.tuple #[.iface 54 v, .bool true]) w :=
  run_typeAssert_hasB Tryd.underlying63 (by kernel_rfl) v 26 w

theorem call25 (args : Array Value) (w : World) : (callFunc 18 args).run Tryd.prog w = ((ReflectliteType.typeOf args).run Tryd.prog w).andThen fun v w' => .ok (.value v) w' :=
  run_callFunc_extern (e := ReflectliteType.typeOf) Tryd.func18 (by kernel_rfl) (by kernel_rfl) (by kernel_rfl) (by kernel_rfl) args w
end Go.Proofs.YthafeccfcnmefaaDoor
