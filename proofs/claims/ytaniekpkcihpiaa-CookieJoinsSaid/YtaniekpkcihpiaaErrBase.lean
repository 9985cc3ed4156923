/-
  What errors.Is and fail.Place both ask of an *Error: Unwrap, that it unwraps to one error, what reflectlite.TypeOf calls. No conditions but on the cells that are read.
-/
import Derived.Test.YtaniekpkcihpiaaFailAt
import Derived.Defers
import Derived.Recover
import Derived.RegionTactic
import Derived.ChangeAlike
import Derived.Laws.Pointers
import Derived.Laws.EntriesVeiled
namespace Go.Proofs.Ytaniekpkcihpiaa
open Go.RowKit Go.Extern.Stop Go.Stop Go.Extern

theorem unwrap_some (b : Nat) (v : Value) (w : World) (h2 : w.cell? ⟨b, 2, none⟩ = some v) :
    Calls Try.prog 50 #[.pointer (some ⟨b, 0, none⟩)] w fun e w' => e = .returned v ∧ w' = w := by
  go_enter Try.func50, Try.ntmps50
  go_wp2
  go_ret
  exact ⟨rfl, rfl⟩

theorem ta42_73 (v : Value) (w : World) : (Instr.typeAssert (.iface 58 v) 27 68 true).run Try.prog w = .ok (.tuple #[.iface 58 v, .bool true]) w :=
  run_typeAssert_hasB Try.underlying68 (by kernel_rfl) v 27 w

theorem call25 (args : Array Value) (w : World) : (callFunc 17 args).run Try.prog w = ((ReflectliteType.typeOf args).run Try.prog w).andThen fun v w' => .ok (.value v) w' :=
  run_callFunc_extern (e := ReflectliteType.typeOf) Try.func17 (by kernel_rfl) (by kernel_rfl) (by kernel_rfl) (by kernel_rfl) args w
end Go.Proofs.Ytaniekpkcihpiaa
