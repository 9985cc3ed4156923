/-
  The contracts of the small functions of package fail: At, Both, Unwrap, where, at, isCode, isPlace. No conditions but on the cells that are read.
-/
import Derived.Test.YtmbjcgmcjackfaaDoorProg
import Derived.WalkKit
import Derived.LaidEql
import Derived.Stop.Asserts
import Derived.RowKitTokens
import Derived.Handy
import Derived.Outline
import Derived.WideLaws
namespace Go.Proofs.YtmbjcgmcjackfaaDoor
open Go.RowKit Go.Extern.Stop Go.Stop Go.Extern


/-! Type assertions, at this translation's numbers: 25: error; 35: api.Code; 42: a pointer to fail.Error; 60: a pointer to fail.pair; 71, 73, 74, 91: the interfaces with Is, Unwrap, Unwrap of a list, As. -/
theorem ta35_35 (v : Value) (w : World) : (Instr.typeAssert (.iface 35 v) 25 35 true).run Tryd.prog w = .ok (.tuple #[v, .bool true]) w := by kernel_rfl
theorem ta42_35 (v : Value) (w : World) : (Instr.typeAssert (.iface 42 v) 25 35 true).run Tryd.prog w = .ok (.tuple #[.int .i64 0, .bool false]) w := by kernel_rfl
theorem ta60_35 (v : Value) (w : World) : (Instr.typeAssert (.iface 60 v) 25 35 true).run Tryd.prog w = .ok (.tuple #[.int .i64 0, .bool false]) w := by kernel_rfl
theorem ta35_42 (v : Value) (w : World) : (Instr.typeAssert (.iface 35 v) 25 42 true).run Tryd.prog w = .ok (.tuple #[.pointer none, .bool false]) w := by kernel_rfl
theorem ta42_42 (v : Value) (w : World) : (Instr.typeAssert (.iface 42 v) 25 42 true).run Tryd.prog w = .ok (.tuple #[v, .bool true]) w := by kernel_rfl

/-- What At makes: a new block of three cells. -/
theorem at_some (s : ByteArray) (n : Int) (T : TypeId) (v : Value) (w : World) :
    Calls Tryd.prog 17 #[.string s, .int .i64 n, .iface T v] w fun e w' => e = .returned (.iface 42 (.pointer (some ⟨w.heap.size, 0, none⟩))) ∧ w' = w.alloc (.cells #[.string s, .int .i64 n, .iface T v] 44) := by
  go_enter Tryd.func17, Tryd.ntmps17
  go_wp2
  go_ret
  exact ⟨rfl, rfl⟩

theorem at_none (s : ByteArray) (n : Int) (w : World) :
    Calls Tryd.prog 17 #[.string s, .int .i64 n, .nilIface] w fun e w' => e = .returned .nilIface ∧ w' = w := by
  go_enter Tryd.func17, Tryd.ntmps17
  go_wp2
  go_ret
  exact ⟨rfl, rfl⟩

theorem both_none (b : Value) (w : World) :
    Calls Tryd.prog 16 #[.nilIface, b] w fun e w' => e = .returned b ∧ w' = w := by
  go_enter Tryd.func16, Tryd.ntmps16
  go_wp2
  go_ret
  exact ⟨rfl, rfl⟩

theorem both_left (T : TypeId) (v : Value) (w : World) :
    Calls Tryd.prog 16 #[.iface T v, .nilIface] w fun e w' => e = .returned (.iface T v) ∧ w' = w := by
  go_enter Tryd.func16, Tryd.ntmps16
  go_wp2
  go_ret
  exact ⟨rfl, rfl⟩

theorem both_two (T U : TypeId) (v u : Value) (w : World) :
    Calls Tryd.prog 16 #[.iface T v, .iface U u] w fun e w' => e = .returned (.iface 60 (.pointer (some ⟨w.heap.size, 0, none⟩))) ∧ w' = w.alloc (.cells #[.iface T v, .iface U u] 62) := by
  go_enter Tryd.func16, Tryd.ntmps16
  go_wp2
  go_ret
  exact ⟨rfl, rfl⟩

theorem unwrap_some (b : Nat) (v : Value) (w : World) (h2 : w.cell? ⟨b, 2, none⟩ = some v) :
    Calls Tryd.prog 18 #[.pointer (some ⟨b, 0, none⟩)] w fun e w' => e = .returned v ∧ w' = w := by
  go_enter Tryd.func18, Tryd.ntmps18
  go_wp2
  go_ret
  exact ⟨rfl, rfl⟩

theorem unwrap_none (w : World) :
    Calls Tryd.prog 18 #[.pointer none] w fun e w' => e = .returned .nilIface ∧ w' = w := by
  go_enter Tryd.func18, Tryd.ntmps18
  go_wp2
  go_ret
  exact ⟨rfl, rfl⟩

theorem where_some (b : Nat) (v : Value) (w : World) (h0 : w.cell? ⟨b, 0, none⟩ = some v) :
    Calls Tryd.prog 23 #[.pointer (some ⟨b, 0, none⟩)] w fun e w' => e = .returned v ∧ w' = w := by
  go_enter Tryd.func23, Tryd.ntmps23
  go_wp2
  go_ret
  exact ⟨rfl, rfl⟩

theorem at_of (b : Nat) (v : Value) (w : World) (h1 : w.cell? ⟨b, 1, none⟩ = some v) :
    Calls Tryd.prog 24 #[.pointer (some ⟨b, 0, none⟩)] w fun e w' => e = .returned v ∧ w' = w := by
  go_enter Tryd.func24, Tryd.ntmps24
  go_wp2
  go_ret
  exact ⟨rfl, rfl⟩

theorem isCode_code (c : Int) (w : World) :
    Calls Tryd.prog 20 #[.iface 35 (.int .i64 c)] w fun e w' => e = .returned (.bool true) ∧ w' = w := by
  have ht := ta35_35
  go_enter Tryd.func20, Tryd.ntmps20
  go_wp2
  go_ret
  exact ⟨rfl, rfl⟩

theorem isCode_place (p : Value) (w : World) :
    Calls Tryd.prog 20 #[.iface 42 p] w fun e w' => e = .returned (.bool false) ∧ w' = w := by
  have ht := ta42_35
  go_enter Tryd.func20, Tryd.ntmps20
  go_wp2
  go_ret
  exact ⟨rfl, rfl⟩

theorem isCode_pair (p : Value) (w : World) :
    Calls Tryd.prog 20 #[.iface 60 p] w fun e w' => e = .returned (.bool false) ∧ w' = w := by
  have ht := ta60_35
  go_enter Tryd.func20, Tryd.ntmps20
  go_wp2
  go_ret
  exact ⟨rfl, rfl⟩

theorem isPlace_code (c : Value) (w : World) :
    Calls Tryd.prog 30 #[.iface 35 c] w fun e w' => e = .returned (.bool false) ∧ w' = w := by
  have ht := ta35_42
  go_enter Tryd.func30, Tryd.ntmps30
  go_wp2
  go_ret
  exact ⟨rfl, rfl⟩

theorem isPlace_place (p : Value) (w : World) :
    Calls Tryd.prog 30 #[.iface 42 p] w fun e w' => e = .returned (.bool true) ∧ w' = w := by
  have ht := ta42_42
  go_enter Tryd.func30, Tryd.ntmps30
  go_wp2
  go_ret
  exact ⟨rfl, rfl⟩
end Go.Proofs.YtmbjcgmcjackfaaDoor
