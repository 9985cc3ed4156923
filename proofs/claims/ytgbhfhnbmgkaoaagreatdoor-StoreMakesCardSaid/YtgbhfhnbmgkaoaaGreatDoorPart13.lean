/-
  Texts of one claim, merged.
  ErrBase: What errors.Is and fail.Place both ask of an *Error: Unwrap, that it unwraps to one error, what reflectlite.TypeOf calls. No conditions but on the cells that are read.
  IsCode: The contract of errors.Is over chains of wraps around a code, asked for a code. No conditions but those typed.
  ErrIs: Errors that wrap a code, and those whose first place is known. The conditions: the chain typed.
-/
import Derived.Test.YtgbhfhnbmgkaoaaGreatDoorPart12
import Derived.Defers
import Derived.Recover
import Derived.RegionTactic
import Derived.ChangeAlike
import Derived.Laws.Pointers
import Derived.Laws.EntriesVeiled
import Derived.Deep.LoopGhost
namespace Go.Proofs.YtgbhfhnbmgkaoaaGreatDoor
open Go.RowKit Go.Extern.Stop Go.Stop Go.Extern

theorem unwrap_some (b : Nat) (v : Value) (w : World) (h2 : w.cell? ⟨b, 2, none⟩ = some v) :
    Calls Tryz.prog 119 #[.pointer (some ⟨b, 0, none⟩)] w fun e w' => e = .returned v ∧ w' = w := by
  go_enter Tryz.func119, Tryz.ntmps119
  go_wp2
  go_ret
  exact ⟨rfl, rfl⟩

theorem ta42_73 (v : Value) (w : World) : (Instr.typeAssert (.iface 66 v) 38 112 true).run Tryz.prog w = .ok (.tuple #[.iface 66 v, .bool true]) w :=
  run_typeAssert_hasB Tryz.underlying112 (by kernel_rfl) v 38 w

theorem call25 (args : Array Value) (w : World) : (callFunc 25 args).run Tryz.prog w = ((ReflectliteType.typeOf args).run Tryz.prog w).andThen fun v w' => .ok (.value v) w' :=
  run_callFunc_extern (e := ReflectliteType.typeOf) Tryz.func25 (by kernel_rfl) (by kernel_rfl) (by kernel_rfl) (by kernel_rfl) args w
end Go.Proofs.YtgbhfhnbmgkaoaaGreatDoor
namespace Go.Proofs.YtgbhfhnbmgkaoaaGreatDoor
open Go.RowKit Go.Extern.Stop Go.Stop Go.Extern

theorem ta35_73 (v : Value) (w : World) : (Instr.typeAssert (.iface 47 v) 38 112 true).run Tryz.prog w = .ok (.tuple #[.nilIface, .bool false]) w :=
  run_typeAssert_lacksB Tryz.underlying112 (by kernel_rfl) (by kernel_rfl) v 38 w

theorem ta35_74 (v : Value) (w : World) : (Instr.typeAssert (.iface 47 v) 38 114 true).run Tryz.prog w = .ok (.tuple #[.nilIface, .bool false]) w :=
  run_typeAssert_lacksB Tryz.underlying114 (by kernel_rfl) (by kernel_rfl) v 38 w

theorem typeOf35 (v : Value) (w : World) : (ReflectliteType.typeOf #[.iface 47 v]).run Tryz.prog w = .ok (.iface 108 (.agg #[.pointer (some ⟨1, 47, none⟩)])) w := by kernel_rfl

theorem ta35_71 (v : Value) (w : World) : (Instr.typeAssert (.iface 47 v) 38 110 true).run Tryz.prog w = .ok (.tuple #[.nilIface, .bool false]) w :=
  run_typeAssert_lacksB Tryz.underlying110 (by kernel_rfl) (by kernel_rfl) v 38 w

theorem ta42_71 (v : Value) (w : World) : (Instr.typeAssert (.iface 66 v) 38 110 true).run Tryz.prog w = .ok (.tuple #[.nilIface, .bool false]) w :=
  run_typeAssert_lacksB Tryz.underlying110 (by kernel_rfl) (by kernel_rfl) v 38 w

theorem eql35_35 (a b : Int) (w : World) : (binOp .eql 38 (.iface 47 (.int .i64 a)) (.iface 47 (.int .i64 b))).run Tryz.prog w = .ok (.bool (a == b)) w := by kernel_rfl

theorem eql42_35 (a b : Value) (w : World) : (binOp .eql 38 (.iface 66 a) (.iface 47 b)).run Tryz.prog w = .ok (.bool false) w := by kernel_rfl

theorem methodComparable (h : Value) (w : World) : (Go.method 304 108 (.agg #[h]) "Comparable").run Tryz.prog w = .ok (122, .agg #[h]) w := by kernel_rfl

theorem call62 (args : Array Value) (w : World) : (callFunc 122 args).run Tryz.prog w = ((ReflectliteType.method (fun t => do Rtype.noPackHeld "Comparable" t; pure (.bool (← typeInfo t).comparable)) args).run Tryz.prog w).andThen fun v w' => .ok (.value v) w' :=
  run_callFunc_extern Tryz.func122 (by kernel_rfl) (by kernel_rfl) (by kernel_rfl) (by kernel_rfl) args w

theorem comparable35 (w : World) : (ReflectliteType.method (fun t => do Rtype.noPackHeld "Comparable" t; (fun a => Value.bool a.comparable) <$> typeInfo t) #[.agg #[.pointer (some ⟨1, 47, none⟩)]]).run Tryz.prog w = .ok (.bool true) w := by kernel_rfl

set_option maxHeartbeats 4000000 in
theorem is_chain (B : Nat) (l : List Wrap) (c other : Int) (v : Value) (w : World) (hch : Chain B w l (.iface 47 (.int .i64 c)) v) :
    Calls Tryz.prog 26 #[v, .iface 47 (.int .i64 other), .bool true] w fun e w' => e = .returned (.bool (c == other)) ∧ w' = w := by
  have HC := Lib.hid hch
  clear hch
  go_enter Tryz.func26, Tryz.ntmps26
  go_wp2
  go_loopg [0] l.length (fun k s0 wx => ∃ r : List Wrap, r.length = k ∧ Hid (Chain B w r (.iface 47 (.int .i64 c)) s0) ∧ wx = w)
  case atStart => exact ⟨l, rfl, HC, rfl⟩
  case round =>
    obtain ⟨r, hr, hc, rfl⟩ := hrel
    clear HC
    cases r with
    | nil =>
      have hc' : u0 = .iface 47 (.int .i64 c) := hc.out
      subst hc'
      clear hc
      have q1 := eql35_35
      have q2 := ta35_71
      have q3 := ta35_73
      have q4 := ta35_74
      by_cases hco : c = other
      · subst hco
        go_wp2
        go_ret
        exact ⟨by simp, rfl⟩
      · have b0 := beq_eq_false_iff_ne.2 hco
        clear hco
        go_wp2
        go_ret
        exact ⟨by rw [b0]; rfl, rfl⟩
    | cons x r =>
      obtain ⟨b, u, hu1, hb, hx0, hx1, hx2, hcr⟩ := hc.out
      clear hc
      subst hu1
      obtain ⟨T, y, rfl⟩ := hcr.some
      have HR := Lib.hid hcr
      clear hcr hx0 hx1
      have q1 := eql42_35
      have q2 := ta42_71
      have q3 := ta42_73
      go_wp2_with (go_at_call 119; refine (unwrap_some b _ _ hx2).mono ?_; rintro e w' ⟨rfl, rfl⟩)
      go_roundg r.length
      case measure => simp at hr; omega
      case rel => exact ⟨r, rfl, HR, rfl⟩

set_option maxHeartbeats 4000000 in
theorem Is_chain (B : Nat) (l : List Wrap) (c other : Int) (v : Value) (w : World) (hch : Chain B w l (.iface 47 (.int .i64 c)) v) :
    Calls Tryz.prog 10 #[v, .iface 47 (.int .i64 other)] w fun e w' => e = .returned (.bool (c == other)) ∧ w' = w := by
  obtain ⟨T, y, rfl⟩ := hch.some
  have HC := Lib.hid (is_chain B l c other _ w hch)
  clear hch
  have k25 := call25
  have k62 := call62
  have f1 := typeOf35
  have f2 := methodComparable
  have f3 := comparable35
  go_enter Tryz.func10, Tryz.ntmps10
  go_wp2_with (go_at_call 26; refine HC.out.mono ?_; rintro e w' ⟨rfl, rfl⟩)
  go_ret
  exact ⟨rfl, rfl⟩
end Go.Proofs.YtgbhfhnbmgkaoaaGreatDoor
namespace Go.Proofs.YtgbhfhnbmgkaoaaGreatDoor
open Go.RowKit

/-- An error of this code: wraps around it. -/
def ErrIs (w : World) (c : Int) (x : Value) : Prop := ∃ l, Chain w.heap.size w l (.iface 47 (.int .i64 c)) x
theorem ErrIs.below {w w' : World} {c : Int} {x : Value} (h : ErrIs w c x) (hb : Below w.heap.size w w') : ErrIs w' c x := by
  obtain ⟨l, h⟩ := h
  exact ⟨l, h.mono hb hb.size⟩
theorem ErrIs.iface {w : World} {c : Int} {x : Value} (h : ErrIs w c x) : ∃ T y, x = .iface T y := by
  obtain ⟨l, h⟩ := h
  exact h.some
theorem is_err {w : World} {c : Int} {x : Value} (h : ErrIs w c x) (other : Int) : Calls Tryz.prog 10 #[x, .iface 47 (.int .i64 other)] w fun e w' => e = .returned (.bool (c == other)) ∧ w' = w := by
  obtain ⟨l, h⟩ := h
  exact Is_chain _ l c other x w h
/-- An error of this code whose first place is this one. -/
def ErrAt (w : World) (s : ByteArray) (n c : Int) (x : Value) : Prop := ∃ l, Chain w.heap.size w ((s, n) :: l) (.iface 47 (.int .i64 c)) x
theorem ErrAt.below {w w' : World} {s : ByteArray} {n c : Int} {x : Value} (h : ErrAt w s n c x) (hb : Below w.heap.size w w') : ErrAt w' s n c x := by
  obtain ⟨l, h⟩ := h
  exact ⟨l, h.mono hb hb.size⟩
theorem ErrAt.is {w : World} {s : ByteArray} {n c : Int} {x : Value} (h : ErrAt w s n c x) : ErrIs w c x := by
  obtain ⟨l, h⟩ := h
  exact ⟨_, h⟩
end Go.Proofs.YtgbhfhnbmgkaoaaGreatDoor
