/-
  Texts of one claim, merged.
  FailAt: The contract of fail.At, and chains of wraps in memory: what they are, and that they stay where nothing of theirs is written. No conditions but those typed.
  ErrBase: What errors.Is and fail.Place both ask of an *Error: Unwrap, that it unwraps to one error, what reflectlite.TypeOf calls. No conditions but on the cells that are read.
-/
import Derived.Test.YtlgofepmdjlpgaaDoorProg
import Derived.WalkKit
import Derived.LaidEql
import Derived.Stop.Asserts
import Derived.RowKitTokens
import Derived.Handy
import Derived.Outline
import Derived.WideLaws
import Derived.Lib.Hide
import Derived.Test.YtlgofepmdjlpgaaDoorPart03
import Derived.Defers
import Derived.Recover
import Derived.RegionTactic
import Derived.ChangeAlike
import Derived.Laws.Pointers
import Derived.Laws.EntriesVeiled
namespace Go.Proofs.YtlgofepmdjlpgaaDoor
open Go.RowKit Go.Extern.Stop Go.Stop Go.Extern

/-- What At makes: a new block of three cells. -/
theorem at_some (s : ByteArray) (n : Int) (T : TypeId) (v : Value) (w : World) :
    Calls Tryd.prog 14 #[.string s, .int .i64 n, .iface T v] w fun e w' => e = .returned (.iface 58 (.pointer (some ⟨w.heap.size, 0, none⟩))) ∧ w' = w.alloc (.cells #[.string s, .int .i64 n, .iface T v] 60) := by
  go_enter Tryd.func14, Tryd.ntmps14
  go_wp2
  go_ret
  exact ⟨rfl, rfl⟩

/-- A wrap: its text and its number. -/
abbrev Wrap := ByteArray × Int

/-- 'v' is the chain of the wraps 'l', the outermost first, around 'last'; all its blocks lie below B. -/
def Chain (B : Nat) (w : World) : List Wrap → Value → Value → Prop
  | [], last, v => v = last
  | x :: l, last, v => ∃ b u, v = .iface 58 (.pointer (some ⟨b, 0, none⟩)) ∧ b < B ∧ w.cell? ⟨b, 0, none⟩ = some (.string x.1) ∧ w.cell? ⟨b, 1, none⟩ = some (.int .i64 x.2) ∧ w.cell? ⟨b, 2, none⟩ = some u ∧ Chain B w l last u

theorem Chain.mono {B B' : Nat} {w w' : World} (hb : Below B w w') (hB : B ≤ B') : ∀ {l : List Wrap} {last v : Value}, Chain B w l last v → Chain B' w' l last v
  | [], _, _, h => h
  | _ :: _, _, _, ⟨b, u, h1, h2, h3, h4, h5, h6⟩ => ⟨b, u, h1, by omega, (hb.cell (p := ⟨b, 0, none⟩) h2).trans h3, (hb.cell (p := ⟨b, 1, none⟩) h2).trans h4, (hb.cell (p := ⟨b, 2, none⟩) h2).trans h5, Chain.mono hb hB h6⟩

/-- A chain around a code is an interface value that isn't nil. -/
theorem Chain.some {B : Nat} {w : World} {l : List Wrap} {c : Int} {v : Value} (h : Chain B w l (.iface 32 (.int .i64 c)) v) : ∃ T x, v = .iface T x := by
  cases l with
  | nil => exact ⟨_, _, h⟩
  | cons x r =>
    obtain ⟨b, u, h1, _⟩ := h
    exact ⟨_, _, h1⟩

/-- A chain that isn't empty is an *Error's pointer; what its cells hold. -/
theorem Chain.place {B : Nat} {w : World} {x : Wrap} {l : List Wrap} {last v : Value} (h : Chain B w (x :: l) last v) : ∃ b, v = .iface 58 (.pointer (Option.some ⟨b, 0, none⟩)) := by
  obtain ⟨b, u, h1, _⟩ := h
  exact ⟨b, h1⟩
theorem Chain.cells {B : Nat} {w : World} {x : Wrap} {l : List Wrap} {last : Value} {b : Nat} (h : Chain B w (x :: l) last (.iface 58 (.pointer (Option.some ⟨b, 0, none⟩)))) : w.cell? ⟨b, 0, none⟩ = Option.some (.string x.1) ∧ w.cell? ⟨b, 1, none⟩ = Option.some (.int .i64 x.2) := by
  obtain ⟨b', u, h1, _, h3, h4, _⟩ := h
  obtain rfl : b = b' := by simpa using h1
  exact ⟨h3, h4⟩
/-- What fail.At makes of a chain. -/
theorem at_chain (s : ByteArray) (n : Int) (l : List Wrap) (c : Int) (v : Value) (w : World) (h : Chain w.heap.size w l (.iface 32 (.int .i64 c)) v) :
    Calls Tryd.prog 14 #[.string s, .int .i64 n, v] w fun e w' => ∃ r, e = .returned r ∧ Chain w'.heap.size w' ((s, n) :: l) (.iface 32 (.int .i64 c)) r ∧ Below w.heap.size w w' := by
  obtain ⟨T, x, rfl⟩ := h.some
  refine (at_some s n T x w).mono ?_
  rintro e w' ⟨rfl, rfl⟩
  have hb : Below w.heap.size w (w.alloc (.cells #[.string s, .int .i64 n, .iface T x] 60)) := (Below.refl _ _).alloc (Nat.le_refl _) _
  exact ⟨_, rfl, ⟨w.heap.size, .iface T x, rfl, by simp, by simp, by simp, by simp, h.mono hb (by simp)⟩, hb⟩
end Go.Proofs.YtlgofepmdjlpgaaDoor
namespace Go.Proofs.YtlgofepmdjlpgaaDoor
open Go.RowKit Go.Extern.Stop Go.Stop Go.Extern

theorem unwrap_some (b : Nat) (v : Value) (w : World) (h2 : w.cell? ⟨b, 2, none⟩ = some v) :
    Calls Tryd.prog 103 #[.pointer (some ⟨b, 0, none⟩)] w fun e w' => e = .returned v ∧ w' = w := by
  go_enter Tryd.func103, Tryd.ntmps103
  go_wp2
  go_ret
  exact ⟨rfl, rfl⟩

theorem ta42_73 (v : Value) (w : World) : (Instr.typeAssert (.iface 58 v) 26 75 true).run Tryd.prog w = .ok (.tuple #[.iface 58 v, .bool true]) w :=
  run_typeAssert_hasB Tryd.underlying75 (by kernel_rfl) v 26 w

theorem call25 (args : Array Value) (w : World) : (callFunc 19 args).run Tryd.prog w = ((ReflectliteType.typeOf args).run Tryd.prog w).andThen fun v w' => .ok (.value v) w' :=
  run_callFunc_extern (e := ReflectliteType.typeOf) Tryd.func19 (by kernel_rfl) (by kernel_rfl) (by kernel_rfl) (by kernel_rfl) args w
end Go.Proofs.YtlgofepmdjlpgaaDoor
