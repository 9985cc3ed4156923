/-
  Texts of one claim, merged.
  StorePlain: Plain of chapter 16's laws: rows as the document has them. The conditions: the rows lie in memory; at most 50,000.
  PlaceRefl: The contracts of what reflectlite answers for *fail.Error and a pointer to it; type assertions on *fail.Error. No conditions but on the cells that are read.
  Place: The contract of fail.Place at an *Error. The condition: the variable errors.errorType reads as the type error's own handle.
-/
import Derived.Test.YtgbhfhnbmgkaoaaGreatDoorPart09
import Derived.Test.YtgbhfhnbmgkaoaaGreatDoorPart13
import Derived.Defers
import Derived.Recover
import Derived.RegionTactic
import Derived.ChangeAlike
import Derived.Laws.Pointers
import Derived.Laws.EntriesVeiled
import Derived.Test.YtgbhfhnbmgkaoaaGreatDoorPart04
import Derived.Deep.LoopGhost
namespace Go.Proofs.YtgbhfhnbmgkaoaaGreatDoor
open Go.RowKit TextNat RegMath

set_option maxRecDepth 100000 in
set_option maxHeartbeats 4000000 in
theorem plain16 (pp : Option Addr) (c : Nat) (xs : List RowV) (w : World) (h : RowsIn w pp xs) (hn : xs.length ≤ 50000) :
    Calls Tryz.prog 36 #[.slice pp xs.length c] w fun e w' => (∃ v, e = .returned v ∧ OwnS 35 w' w.heap.size v xs) ∧ Below w.heap.size w w' := by
  obtain ⟨N, hN⟩ : ∃ N, N = xs.length := ⟨_, rfl⟩
  have HN := Lib.hid hN
  have HI := Lib.hid h
  rw [← hN] at hn ⊢
  clear h hN
  go_enter Tryz.func36, Tryz.ntmps36
  go_wp2_with fail
  go_loopg [3, 8] N (fun gh s3 s8 wx => ∃ i : Nat, i + gh = N ∧ s8 = .int .i64 (i : Int) ∧ Hid (OwnS 35 wx w.heap.size s3 (xs.take i)) ∧ Hid (Below w.heap.size w wx))
  case atStart => exact ⟨0, by omega, by go_num, Lib.hid (OwnS.nil _ _ _), Lib.hid (Below.refl _ _)⟩
  case round =>
    obtain ⟨i, hi, rfl, HO, HB⟩ := hrel
    rename World => W1
    by_cases hlt : i < N
    · have t1 : decide ((i : Int) < (N : Int)) = true := decide_eq_true (by omega)
      have t1' : decide (i < N) = true := decide_eq_true hlt
      have q0 : (i : Int) < (N : Int) := by omega
      obtain ⟨x, hx⟩ : ∃ x, xs[i]? = some x := ⟨_, List.getElem?_eq_getElem (by rw [← HN.out]; exact hlt)⟩
      obtain ⟨b1, o1, rfl⟩ := HI.out.addr (by rw [← HN.out]; omega)
      obtain ⟨d0, d1, d2, d3, d4, d5, d6⟩ := (HI.out.grown HB.out).look hx
      have HX := Lib.hid hx
      have HIn := Lib.hid (And.intro hi hlt)
      have HT := Lib.hid (show xs.take (i + 1) = xs.take i ++ [x] by rw [List.take_add_one, hx]; rfl)
      have HLn := Lib.hid (show (xs.take i).length ≤ 50000 by rw [List.length_take]; omega)
      have al2 : Below W1.heap.size W1 ((W1.alloc (.cells x.cells.toArray 60)).alloc (.cells x.cells.toArray 35)) := ((Below.refl _ _).alloc (Nat.le_refl _) _).alloc (by simp) _
      have hone := one_rows (Lies.new (W1.alloc (.cells x.cells.toArray 60)) x.cells 35)
      rw [show (W1.alloc (.cells x.cells.toArray 60)).heap.size = W1.heap.size + 1 by simp] at hone
      have HON := Lib.hid hone
      have HBa := Lib.hid (HB.out.trans (al2.mono HB.out.size))
      have HOa := Lib.hid (HO.out.below al2)
      obtain ⟨A, hA⟩ : ∃ A, A = xs.take i := ⟨_, rfl⟩
      rw [← hA] at HO HT HLn HOa
      obtain ⟨p5, c5, hs5, _, _⟩ := HO.out.shape
      subst hs5
      clear hone al2 hA
      obtain ⟨xs1, xk, ⟨xt, xr, xv, xg, xl⟩⟩ := x
      simp only [RowV.cells] at d0 d1 d2 d3 d4 d5 d6 HON HBa HOa
      clear hx hi hlt
      go_wp2_with (at_builtin; refine app_rows rfl _ _ 22 35 info_refrow Tryz.underlying22 rfl w.heap.size _ _ [_] rfl HOa.out (some ⟨W1.heap.size + 1, 0, none⟩) 1 1 rfl rfl HON.out (by have := HLn.out; show _ + 1 ≤ 100000; omega) HBa.out.size ?_; intro v5 w5 h1 h2 _ _; have HO5 := Lib.hid h1; have HB5 := Lib.hid (HBa.out.trans h2); clear h1 h2)
      go_roundg (N - (i + 1))
      case measure => have := HIn.out; omega
      case rel => exact ⟨i + 1, by have := HIn.out; omega, by go_num, by rw [HT.out]; exact HO5, HB5⟩
    · have t1 : decide ((i : Int) < (N : Int)) = false := decide_eq_false (by omega)
      have t1' : decide (i < N) = false := decide_eq_false hlt
      have HT := Lib.hid (show xs.take i = xs from List.take_of_length_le (by rw [← HN.out]; omega))
      rw [HT.out] at HO
      clear hlt hi
      go_wp2
      go_ret
      exact ⟨⟨_, rfl, HO.out⟩, HB.out⟩
end Go.Proofs.YtgbhfhnbmgkaoaaGreatDoor
namespace Go.Proofs.YtgbhfhnbmgkaoaaGreatDoor
open Go.RowKit Go.Extern.Stop Go.Stop Go.Extern

theorem ta35_42 (v : Value) (w : World) : (Instr.typeAssert (.iface 47 v) 38 66 true).run Tryz.prog w = .ok (.tuple #[.pointer none, .bool false]) w := by kernel_rfl

theorem ta42_42 (v : Value) (w : World) : (Instr.typeAssert (.iface 66 v) 38 66 true).run Tryz.prog w = .ok (.tuple #[v, .bool true]) w := by kernel_rfl

theorem isPlace_code (c : Value) (w : World) :
    Calls Tryz.prog 49 #[.iface 47 c] w fun e w' => e = .returned (.bool false) ∧ w' = w := by
  have ht := ta35_42
  go_enter Tryz.func49, Tryz.ntmps49
  go_wp2
  go_ret
  exact ⟨rfl, rfl⟩

theorem isPlace_place (p : Value) (w : World) :
    Calls Tryz.prog 49 #[.iface 66 p] w fun e w' => e = .returned (.bool true) ∧ w' = w := by
  have ht := ta42_42
  go_enter Tryz.func49, Tryz.ntmps49
  go_wp2
  go_ret
  exact ⟨rfl, rfl⟩

theorem where_some (b : Nat) (v : Value) (w : World) (h0 : w.cell? ⟨b, 0, none⟩ = some v) :
    Calls Tryz.prog 23 #[.pointer (some ⟨b, 0, none⟩)] w fun e w' => e = .returned v ∧ w' = w := by
  go_enter Tryz.func23, Tryz.ntmps23
  go_wp2
  go_ret
  exact ⟨rfl, rfl⟩

theorem at_of (b : Nat) (v : Value) (w : World) (h1 : w.cell? ⟨b, 1, none⟩ = some v) :
    Calls Tryz.prog 24 #[.pointer (some ⟨b, 0, none⟩)] w fun e w' => e = .returned v ∧ w' = w := by
  go_enter Tryz.func24, Tryz.ntmps24
  go_wp2
  go_ret
  exact ⟨rfl, rfl⟩

theorem hmf (fn : Fn) (first cap : Array Value) (w : World) : (Instr.makeFunc fn first cap).run Tryz.prog w = .ok (.func fn first cap) w := rfl

theorem idle28 (p : Addr) (w : World) :
    CallsD Tryz.prog 64 #[.pointer (some p)] .returning w fun e u' w' => e = .returned (.tuple #[]) ∧ u' = .returning ∧ w' = w := by
  refine callsD_of_wpS Tryz.func64 rfl fun c₀ cs hu => ?_
  apply wpS_seq
  apply wpS_region
  simp [wpOpsS, go_sem, recoverD, hu, Tryz.ntmps64, Exit.thenS]
  refine wpS_cond (t := false) (by simp [Act.eval, Array.replicate]) ?_
  simp only [Bool.false_eq_true, if_false]
  refine wpS_of_wp (wp_skip ?_)
  cases c₀
  simp_all [bodyPostS, results, Tryz.results64]

theorem valueOf67 (t : Addr) (w : World) : (ReflectliteValue.unpack (.iface 104 (.pointer (some t)))).run Tryz.prog w
    = .ok (.agg #[.pointer (some ⟨1, 104, none⟩), .pointer (some ⟨w.heap.size, 0, none⟩), .int .u64 150]) (w.alloc (.cells #[.pointer (some t)] 104)) := by kernel_rfl
theorem type67 (a : Addr) (w : World) : (ReflectliteValue.methodAny (ReflectliteValue.valueError "reflectlite.Value.Type" 0) (fun t _ _ _ => ReflectliteType.toType t) #[.agg #[.pointer (some ⟨1, 104, none⟩), .pointer (some a), .int .u64 150]]).run Tryz.prog w
    = .ok (.iface 108 (.agg #[.pointer (some ⟨1, 104, none⟩)])) w := by kernel_rfl
theorem methodKind (h : Value) (w : World) : (Go.method 304 108 (.agg #[h]) "Kind").run Tryz.prog w = .ok (112, h) w := by kernel_rfl
theorem kind67 (w : World) : ((ReflectliteType.abiMethod fun t => (fun a : Nat => Value.int IntKind.u8 (a : Int)) <$> Rtype.kind t) #[.pointer (some ⟨1, 104, none⟩)]).run Tryz.prog w = .ok (.int .u8 22) w := by kernel_rfl
theorem kind42 (w : World) : ((ReflectliteType.abiMethod fun t => (fun a : Nat => Value.int IntKind.u8 (a : Int)) <$> Rtype.kind t) #[.pointer (some ⟨1, 66, none⟩)]).run Tryz.prog w = .ok (.int .u8 22) w := by kernel_rfl
theorem methodElem (h : Value) (w : World) : (Go.method 304 108 (.agg #[h]) "Elem").run Tryz.prog w = .ok (123, .agg #[h]) w := by kernel_rfl
theorem elem67 (w : World) : (ReflectliteType.method ReflectliteType.elem #[.agg #[.pointer (some ⟨1, 104, none⟩)]]).run Tryz.prog w = .ok (.iface 108 (.agg #[.pointer (some ⟨1, 66, none⟩)])) w := by kernel_rfl
theorem methodImplements (h : Value) (w : World) : (Go.method 304 108 (.agg #[h]) "Implements").run Tryz.prog w = .ok (124, .agg #[h]) w := by kernel_rfl
theorem methodAssignableTo (h : Value) (w : World) : (Go.method 304 108 (.agg #[h]) "AssignableTo").run Tryz.prog w = .ok (121, .agg #[h]) w := by kernel_rfl
theorem implements42 (w : World) : (ReflectliteType.relation "Implements" ReflectliteType.implements_ #[.agg #[.pointer (some ⟨1, 66, none⟩)], .iface 108 (.agg #[.pointer (some ⟨1, 38, none⟩)])]).run Tryz.prog w = .ok (.bool true) w := by kernel_rfl
theorem typeOf42 (v : Value) (w : World) : (ReflectliteType.typeOf #[.iface 66 v]).run Tryz.prog w = .ok (.iface 108 (.agg #[.pointer (some ⟨1, 66, none⟩)])) w := by kernel_rfl
theorem asg42_42 (w : World) : (ReflectliteType.relation "AssignableTo" ReflectliteType.assignableTo #[.agg #[.pointer (some ⟨1, 66, none⟩)], .iface 108 (.agg #[.pointer (some ⟨1, 66, none⟩)])]).run Tryz.prog w = .ok (.bool true) w := by kernel_rfl
theorem valueOf42 (e : Addr) (w : World) : (ReflectliteValue.unpack (.iface 66 (.pointer (some e)))).run Tryz.prog w
    = .ok (.agg #[.pointer (some ⟨1, 66, none⟩), .pointer (some ⟨w.heap.size, 0, none⟩), .int .u64 150]) (w.alloc (.cells #[.pointer (some e)] 66)) := by kernel_rfl
theorem parts67 (a : Addr) (w : World) : (ReflectliteValue.parts (.agg #[.pointer (some ⟨1, 104, none⟩), .pointer (some a), .int .u64 150])).run Tryz.prog w = .ok (some (104, a, 150)) w := by kernel_rfl
theorem isNil67 (a p : Addr) (W : World) (ha : W.cell? a = some (.pointer (some p))) :
    (ReflectliteValue.method (ReflectliteValue.valueError "reflectlite.Value.IsNil" 0) ReflectliteValue.isNil #[.agg #[.pointer (some ⟨1, 104, none⟩), .pointer (some a), .int .u64 150]]).run Tryz.prog W = .ok (.bool false) W := by
  change (bind (ReflectliteValue.parts (.agg #[.pointer (some ⟨1, 104, none⟩), .pointer (some a), .int .u64 150])) _ : Sem Value).run Tryz.prog W = _
  simp only [Sem.run_bind, parts67, Result.andThen]
  simp [ReflectliteValue.isNil, loadVar, isAgg, underlying, Tryz.underlying104, ha, Result.andThen]
theorem elemOf67 (w : World) : (Rtype.elem? 104).run Tryz.prog w = .ok (some 66) w := by kernel_rfl
theorem mk42 (p : Addr) (w : World) : (ReflectliteValue.mk 66 p ReflectliteValue.flagAddr).run Tryz.prog w = .ok (.agg #[.pointer (some ⟨1, 66, none⟩), .pointer (some p), .int .u64 406]) w := by kernel_rfl
theorem elemV67 (a p : Addr) (W : World) (ha : W.cell? a = some (.pointer (some p))) :
    (ReflectliteValue.method (ReflectliteValue.valueError "reflectlite.Value.Elem" 0) ReflectliteValue.elem #[.agg #[.pointer (some ⟨1, 104, none⟩), .pointer (some a), .int .u64 150]]).run Tryz.prog W
      = .ok (.agg #[.pointer (some ⟨1, 66, none⟩), .pointer (some p), .int .u64 406]) W := by
  change (bind (ReflectliteValue.parts (.agg #[.pointer (some ⟨1, 104, none⟩), .pointer (some a), .int .u64 150])) _ : Sem Value).run Tryz.prog W = _
  simp only [Sem.run_bind, parts67, Result.andThen]
  simp [ReflectliteValue.elem, loadVar, isAgg, underlying, Tryz.underlying104, ha, Result.andThen, elemOf67, mk42]
theorem parts42a (a : Addr) (w : World) : (ReflectliteValue.parts (.agg #[.pointer (some ⟨1, 66, none⟩), .pointer (some a), .int .u64 406])).run Tryz.prog w = .ok (some (66, a, 406)) w := by kernel_rfl
theorem parts42 (a : Addr) (w : World) : (ReflectliteValue.parts (.agg #[.pointer (some ⟨1, 66, none⟩), .pointer (some a), .int .u64 150])).run Tryz.prog w = .ok (some (66, a, 150)) w := by kernel_rfl
theorem direct42 (w : World) : (Rtype.directlyAssignable 66 66).run Tryz.prog w = .ok true w := by kernel_rfl
theorem set42 (ta b e : Addr) (old : Value) (W : World) (hb : W.cell? b = some (.pointer (some e))) (ht : W.cell? ta = some old) (hf : W.frozen? ta = false) :
    (ReflectliteValue.set #[.agg #[.pointer (some ⟨1, 66, none⟩), .pointer (some ta), .int .u64 406], .agg #[.pointer (some ⟨1, 66, none⟩), .pointer (some b), .int .u64 150]]).run Tryz.prog W
      = .ok (.tuple #[]) (W.setCell ta (.pointer (some e))) := by
  change (bind (ReflectliteValue.parts (.agg #[.pointer (some ⟨1, 66, none⟩), .pointer (some ta), .int .u64 406])) fun p => bind (ReflectliteValue.parts (.agg #[.pointer (some ⟨1, 66, none⟩), .pointer (some b), .int .u64 150])) fun q => _ : Sem Value).run Tryz.prog W = _
  simp only [Sem.run_bind, parts42a, parts42, Result.andThen]
  simp [ReflectliteValue.flagAddr, loadVar, isAgg, underlying, Tryz.underlying66, hb, Result.andThen, direct42, storeVar, Value.cells, storeCells, Addr.add]
  rw [run_store Tryz.prog W ta _ _ (by rfl)]
  simp [ht, hf]
theorem call32 (args : Array Value) (w : World) : (callFunc 71 args).run Tryz.prog w = (((fun args => ReflectliteValue.unpack (args.getD 0 (.tuple #[]))) args).run Tryz.prog w).andThen fun v w' => .ok (.value v) w' :=
  run_callFunc_extern (e := (fun args => ReflectliteValue.unpack (args.getD 0 (.tuple #[])))) Tryz.func71 (by kernel_rfl) (by kernel_rfl) (by kernel_rfl) (by kernel_rfl) args w
theorem call33 (args : Array Value) (w : World) : (callFunc 72 args).run Tryz.prog w = (((ReflectliteValue.methodAny (ReflectliteValue.valueError "reflectlite.Value.Type" 0) (fun t _ _ _ => ReflectliteType.toType t)) args).run Tryz.prog w).andThen fun v w' => .ok (.value v) w' :=
  run_callFunc_extern (e := (ReflectliteValue.methodAny (ReflectliteValue.valueError "reflectlite.Value.Type" 0) (fun t _ _ _ => ReflectliteType.toType t))) Tryz.func72 (by kernel_rfl) (by kernel_rfl) (by kernel_rfl) (by kernel_rfl) args w
theorem call34 (args : Array Value) (w : World) : (callFunc 73 args).run Tryz.prog w = (((ReflectliteValue.method (ReflectliteValue.valueError "reflectlite.Value.IsNil" 0) ReflectliteValue.isNil) args).run Tryz.prog w).andThen fun v w' => .ok (.value v) w' :=
  run_callFunc_extern (e := (ReflectliteValue.method (ReflectliteValue.valueError "reflectlite.Value.IsNil" 0) ReflectliteValue.isNil)) Tryz.func73 (by kernel_rfl) (by kernel_rfl) (by kernel_rfl) (by kernel_rfl) args w
theorem call53 (args : Array Value) (w : World) : (callFunc 112 args).run Tryz.prog w = (((ReflectliteType.abiMethod fun t => do pure (.int .u8 (← Rtype.kind t))) args).run Tryz.prog w).andThen fun v w' => .ok (.value v) w' :=
  run_callFunc_extern (e := (ReflectliteType.abiMethod fun t => do pure (.int .u8 (← Rtype.kind t)))) Tryz.func112 (by kernel_rfl) (by kernel_rfl) (by kernel_rfl) (by kernel_rfl) args w
theorem call63 (args : Array Value) (w : World) : (callFunc 123 args).run Tryz.prog w = (((ReflectliteType.method ReflectliteType.elem) args).run Tryz.prog w).andThen fun v w' => .ok (.value v) w' :=
  run_callFunc_extern (e := (ReflectliteType.method ReflectliteType.elem)) Tryz.func123 (by kernel_rfl) (by kernel_rfl) (by kernel_rfl) (by kernel_rfl) args w
theorem call64 (args : Array Value) (w : World) : (callFunc 124 args).run Tryz.prog w = (((ReflectliteType.relation "Implements" ReflectliteType.implements_) args).run Tryz.prog w).andThen fun v w' => .ok (.value v) w' :=
  run_callFunc_extern (e := (ReflectliteType.relation "Implements" ReflectliteType.implements_)) Tryz.func124 (by kernel_rfl) (by kernel_rfl) (by kernel_rfl) (by kernel_rfl) args w
theorem call61 (args : Array Value) (w : World) : (callFunc 121 args).run Tryz.prog w = (((ReflectliteType.relation "AssignableTo" ReflectliteType.assignableTo) args).run Tryz.prog w).andThen fun v w' => .ok (.value v) w' :=
  run_callFunc_extern (e := (ReflectliteType.relation "AssignableTo" ReflectliteType.assignableTo)) Tryz.func121 (by kernel_rfl) (by kernel_rfl) (by kernel_rfl) (by kernel_rfl) args w
theorem call37 (args : Array Value) (w : World) : (callFunc 78 args).run Tryz.prog w = (((ReflectliteValue.method (ReflectliteValue.valueError "reflectlite.Value.Elem" 0) ReflectliteValue.elem) args).run Tryz.prog w).andThen fun v w' => .ok (.value v) w' :=
  run_callFunc_extern (e := (ReflectliteValue.method (ReflectliteValue.valueError "reflectlite.Value.Elem" 0) ReflectliteValue.elem)) Tryz.func78 (by kernel_rfl) (by kernel_rfl) (by kernel_rfl) (by kernel_rfl) args w
theorem call38 (args : Array Value) (w : World) : (callFunc 79 args).run Tryz.prog w = ((ReflectliteValue.set args).run Tryz.prog w).andThen fun v w' => .ok (.value v) w' :=
  run_callFunc_extern (e := ReflectliteValue.set) Tryz.func79 (by kernel_rfl) (by kernel_rfl) (by kernel_rfl) (by kernel_rfl) args w
theorem ta42_91 (v : Value) (w : World) : (Instr.typeAssert (.iface 66 v) 38 151 true).run Tryz.prog w = .ok (.tuple #[.nilIface, .bool false]) w :=
  run_typeAssert_lacksB Tryz.underlying151 (by kernel_rfl) (by kernel_rfl) v 38 w
end Go.Proofs.YtgbhfhnbmgkaoaaGreatDoor
namespace Go.Proofs.YtgbhfhnbmgkaoaaGreatDoor
open Go.RowKit Go.Extern.Stop Go.Stop Go.Extern

/-- The struct that through goes on with: at block pb; the function is 'f'. -/
structure Walk (pb f : Nat) (left : Int) (w : World) : Prop where
  stop : w.cell? ⟨pb, 0, none⟩ = some (.func (.func f) #[] #[])
  left : w.cell? ⟨pb, 1, none⟩ = some (.int .i64 left)
  endless : w.cell? ⟨pb, 2, none⟩ = some (.bool false)
  free : w.frozen? ⟨pb, 1, none⟩ = false

theorem Walk.set {pb f : Nat} {n m : Int} {w : World} (h : Walk pb f n w) : Walk pb f m (w.setCell ⟨pb, 1, none⟩ (.int .i64 m)) :=
  ⟨(World.cell?_setCell_other _ ⟨pb, 1, none⟩ ⟨pb, 0, none⟩ _ (by simp)).trans h.stop, World.cell?_setCell_same _ _ _ h.left, (World.cell?_setCell_other _ ⟨pb, 1, none⟩ ⟨pb, 2, none⟩ _ (by simp)).trans h.endless, by rw [World.frozen?_setCell]; exact h.free⟩

theorem Walk.below {pb f : Nat} {n : Int} {w w' : World} (h : Walk pb f n w) (hb : Below w.heap.size w w') : Walk pb f n w' :=
  have hp : pb < w.heap.size := cell_lt h.stop
  ⟨(hb.cell (p := ⟨pb, 0, none⟩) hp).trans h.stop, (hb.cell (p := ⟨pb, 1, none⟩) hp).trans h.left, (hb.cell (p := ⟨pb, 2, none⟩) hp).trans h.endless, (hb.frozen (p := ⟨pb, 1, none⟩) hp).trans h.free⟩

theorem Walk.lt {pb f : Nat} {n : Int} {w : World} (h : Walk pb f n w) : pb < w.heap.size := cell_lt h.stop

/-- Where the walk has come to, and what it has left behind. -/
def Thru (pb f : Nat) (w : World) (e : Ending) (b : Bool) (w' : World) : Prop := e = .returned (.bool b) ∧ (∃ n, Walk pb f n w') ∧ But pb w w'

set_option maxHeartbeats 1000000 in
theorem through_place (pb : Nat) (x : Value) (left : Int) (w : World) (hw : Walk pb 49 left w) (hf : 0 < left) (hm : left ≤ 2147483647) :
    Calls Tryz.prog 63 #[.pointer (some ⟨pb, 0, none⟩), .iface 66 x, .int .i64 0] w fun e w' => Thru pb 49 w e false w' := by
  have c0 := hw.stop
  have c1 := hw.left
  have f1 := hw.free
  have d2 : ((left : Int) == 0) = false := by simp; omega
  go_enter Tryz.func63, Tryz.ntmps63
  go_wp2
  refine wp_loop_rounds 1 ?_
  rw [rounds_succ]
  go_wp2_with (go_at_call 49; refine (isPlace_place _ _).mono ?_; rintro e w' ⟨rfl, rfl⟩)
  go_ret
  exact ⟨rfl, ⟨_, hw.set⟩, But.set pb 1 w _⟩

theorem ends_any (f : Nat) (b : Bool) (v : Value) (w : World)
    (h27 : ∀ w0 : World, Below w.heap.size w w0 → Walk w.heap.size f 2147483647 w0 → Calls Tryz.prog 63 #[.pointer (some ⟨w.heap.size, 0, none⟩), v, .int .i64 0] w0 fun e w' => Thru w.heap.size f w0 e b w') :
    Calls Tryz.prog 48 #[v, .func (.func f) #[] #[]] w fun e w' => e = .returned (.bool true) ∧ Below w.heap.size w w' := by
  have hb : Below w.heap.size w (w.alloc (.cells #[.func (.func f) #[] #[], .int .i64 2147483647, .bool false] 128)) := (Below.refl _ _).alloc (Nat.le_refl _) _
  have H := Lib.hid (h27 _ hb ⟨by simp, by simp, by simp, by simp⟩)
  clear h27
  go_enter Tryz.func48, Tryz.ntmps48
  go_wp2_with (go_at_call 63; refine H.out.mono ?_; rintro e w2 ⟨rfl, ⟨n, hW⟩, hB⟩; have hE := hW.endless)
  go_ret
  exact ⟨rfl, hb.trans (hB.below (by simp))⟩

theorem ends_place (x : Value) (w : World) :
    Calls Tryz.prog 48 #[.iface 66 x, .func (.func 49) #[] #[]] w fun e w' => e = .returned (.bool true) ∧ Below w.heap.size w w' :=
  ends_any 49 false (.iface 66 x) w fun w0 _ hW => through_place w.heap.size x 2147483647 w0 hW (by omega) (by omega)

/-- errors.As has found something: the target, at block tb, holds u. -/
def Hit (tb : Nat) (w : World) (u : Value) (e : Ending) (w' : World) : Prop := e = .returned (.bool true) ∧ w'.cell? ⟨tb, 0, none⟩ = some u ∧ But tb w w'

theorem hit_world {tb : Nat} {w : World} {u old : Value} (ht : w.cell? ⟨tb, 0, none⟩ = some old) (o p : Obj) :
    (((w.setCell ⟨tb, 0, none⟩ u).alloc o).alloc p).cell? ⟨tb, 0, none⟩ = some u ∧ But tb w (((w.setCell ⟨tb, 0, none⟩ u).alloc o).alloc p) := by
  have htl := cell_lt ht
  refine ⟨?_, ((But.set tb 0 w u).alloc o).alloc p⟩
  rw [World.cell?_alloc_lt _ _ ⟨tb, 0, none⟩ (by simp; omega), World.cell?_alloc_lt _ _ ⟨tb, 0, none⟩ (by simpa using htl)]
  exact World.cell?_setCell_same _ _ _ ht

set_option maxHeartbeats 4000000 in
theorem as_place (tb vb : Nat) (p : Addr) (old : Value) (w : World)
    (hv : w.cell? ⟨vb, 0, none⟩ = some (.pointer (some ⟨tb, 0, none⟩))) (ht : w.cell? ⟨tb, 0, none⟩ = some old) (hf : w.frozen? ⟨tb, 0, none⟩ = false) :
    Calls Tryz.prog 74 #[.iface 66 (.pointer (some p)), .iface 104 (.pointer (some ⟨tb, 0, none⟩)), .agg #[.pointer (some ⟨1, 104, none⟩), .pointer (some ⟨vb, 0, none⟩), .int .u64 150], .iface 108 (.agg #[.pointer (some ⟨1, 66, none⟩)])] w
      fun e w' => Hit tb w (.pointer (some p)) e w' := by
  have htl : tb < w.heap.size := cell_lt ht
  have hvl : vb < w.heap.size := cell_lt hv
  have k25 := call25
  have k32 := call32
  have k37 := call37
  have k38 := call38
  have k61 := call61
  have mA := methodAssignableTo
  have el := elemV67 ⟨vb, 0, none⟩ ⟨tb, 0, none⟩ (w.alloc (.cells #[.pointer (some ⟨1, 104, none⟩), .pointer (some ⟨vb, 0, none⟩), .int .u64 150] 139)) (by rw [World.cell?_alloc_lt _ _ ⟨vb, 0, none⟩ hvl]; exact hv)
  have st := set42 ⟨tb, 0, none⟩ ⟨w.heap.size + 1, 0, none⟩ p old ((w.alloc (.cells #[.pointer (some ⟨1, 104, none⟩), .pointer (some ⟨vb, 0, none⟩), .int .u64 150] 139)).alloc (.cells #[.pointer (some p)] 66))
    (by rw [World.cell?_alloc_at _ _ _ _ (by simp)]; rfl)
    (by rw [World.cell?_alloc_lt _ _ ⟨tb, 0, none⟩ (by simp; omega), World.cell?_alloc_lt _ _ ⟨tb, 0, none⟩ htl]; exact ht)
    (by rw [World.frozen?_alloc_old _ _ ⟨tb, 0, none⟩ (by simp; omega), World.frozen?_alloc_old _ _ ⟨tb, 0, none⟩ (Nat.ne_of_lt htl)]; exact hf)
  have t1 := typeOf42
  have t2 := asg42_42
  have t3 := valueOf42
  have HT := Lib.hid ht
  clear hv ht hf
  go_enter Tryz.func74, Tryz.ntmps74
  go_wp2
  refine wp_loop_rounds 1 ?_
  rw [rounds_succ]
  go_wp2
  go_ret
  exact ⟨rfl, hit_world HT.out _ _⟩

/-- What the variable errors.errorType holds. -/
def Handle (w : World) : Prop := w.cell? ⟨0, 0, none⟩ = some (.iface 108 (.agg #[.pointer (some ⟨1, 38, none⟩)]))

theorem Handle.below {B : Nat} {w w' : World} (h : Handle w) (hb : Below B w w') (hB : 0 < B) : Handle w' := (hb.cell (p := ⟨0, 0, none⟩) hB).trans h

theorem Handle.lt {w : World} (h : Handle w) : 0 < w.heap.size := cell_lt h

set_option maxHeartbeats 4000000 in
theorem As67 (b : Bool) (Q : World → Prop) (T : TypeId) (x : Value) (tb : Nat) (w : World) (hg : Handle w)
    (h35 : ∀ (w0 : World) (vb : Nat), Below w.heap.size w w0 → w0.cell? ⟨vb, 0, none⟩ = some (.pointer (some ⟨tb, 0, none⟩)) →
      Calls Tryz.prog 74 #[.iface T x, .iface 104 (.pointer (some ⟨tb, 0, none⟩)), .agg #[.pointer (some ⟨1, 104, none⟩), .pointer (some ⟨vb, 0, none⟩), .int .u64 150], .iface 108 (.agg #[.pointer (some ⟨1, 66, none⟩)])] w0 fun e w' => e = .returned (.bool b) ∧ Q w') :
    Calls Tryz.prog 65 #[.iface T x, .iface 104 (.pointer (some ⟨tb, 0, none⟩))] w fun e w' => e = .returned (.bool b) ∧ Q w' := by
  have HB : Below w.heap.size w ((w.alloc (.cells #[.pointer (some ⟨tb, 0, none⟩)] 104)).alloc (.cells #[.pointer (some ⟨1, 104, none⟩), .pointer (some ⟨w.heap.size, 0, none⟩), .int .u64 150] 139)) := ((Below.refl _ _).alloc (Nat.le_refl _) _).alloc (by simp) _
  have HA := Lib.hid (h35 _ w.heap.size HB (by rw [World.cell?_alloc_lt _ _ ⟨w.heap.size, 0, none⟩ (by simp)]; simp))
  have k32 := call32
  have k33 := call33
  have k34 := call34
  have k53 := call53
  have k63 := call63
  have k64 := call64
  have f1 := valueOf67
  have f2 := type67
  have f3 := methodKind
  have f4 := kind67
  have f5 := methodElem
  have f6 := elem67
  have f7 := kind42
  have f8 := methodImplements
  have f9 := implements42
  have n8 := isNil67 ⟨w.heap.size, 0, none⟩ ⟨tb, 0, none⟩ ((w.alloc (.cells #[.pointer (some ⟨tb, 0, none⟩)] 104)).alloc (.cells #[.pointer (some ⟨1, 104, none⟩), .pointer (some ⟨w.heap.size, 0, none⟩), .int .u64 150] 139)) (by simp)
  have g0 : ((w.alloc (.cells #[.pointer (some ⟨tb, 0, none⟩)] 104)).alloc (.cells #[.pointer (some ⟨1, 104, none⟩), .pointer (some ⟨w.heap.size, 0, none⟩), .int .u64 150] 139)).cell? ⟨0, 0, none⟩ = some (.iface 108 (.agg #[.pointer (some ⟨1, 38, none⟩)])) := hg.below HB hg.lt
  clear h35 HB hg
  go_enter Tryz.func65, Tryz.ntmps65
  go_wp2_with (first | (go_at_call 74; refine HA.out.mono ?_; rintro e w3 ⟨rfl, hq⟩))
  go_ret
  exact ⟨rfl, hq⟩

set_option maxHeartbeats 1000000 in
/-- fail's as, where errors.As doesn't panic. -/
theorem as21 (b : Bool) (Q : World → Prop) (T : TypeId) (x t : Value) (w : World)
    (h29 : Calls Tryz.prog 65 #[.iface T x, t] (w.alloc (.cells #[.bool false] 4)) fun e w' => e = .returned (.bool b) ∧ Q w')
    (hQ : ∀ w', Q w' → w'.cell? ⟨w.heap.size, 0, none⟩ = some (.bool false) ∧ w'.frozen? ⟨w.heap.size, 0, none⟩ = false) :
    Calls Tryz.prog 50 #[.iface T x, t] w fun e w' => e = .returned (.bool b) ∧ ∃ w2, Q w2 ∧ w' = w2.setCell ⟨w.heap.size, 0, none⟩ (.bool b) := by
  have HA := Lib.hid h29
  have HQ := Lib.hid hQ
  clear h29 hQ
  have h3 := hmf
  go_enter_defers Tryz.func50, Tryz.ntmps50
  go_wp2_with (go_at_call 65; refine HA.out.mono ?_; rintro e w3 ⟨rfl, hq⟩; obtain ⟨hc, hf⟩ := HQ.out _ hq)
  have hc2 : (w3.setCell ⟨w.heap.size, 0, none⟩ (.bool b)).cell? ⟨w.heap.size, 0, none⟩ = some (.bool b) := World.cell?_setCell_same _ _ _ hc
  refine leaves_cons (f := 64) (args := #[.pointer (some ⟨w.heap.size, 0, none⟩)]) (by simp) (by simp [go_sem]) ?_
  refine (idle28 ⟨w.heap.size, 0, none⟩ _).mono ?_
  rintro e u' w'' ⟨rfl, rfl, rfl⟩
  simp [Leaves, settle, results, Tryz.results50, go_sem, hc2]
  exact ⟨_, hq, rfl⟩

theorem okCell {tb : Nat} {w w2 : World} (htl : tb < w.heap.size) (h : But tb (w.alloc (.cells #[.bool false] 4)) w2) : w2.cell? ⟨w.heap.size, 0, none⟩ = some (.bool false) ∧ w2.frozen? ⟨w.heap.size, 0, none⟩ = false := by
  have hk := h.block w.heap.size (by simp) (by omega)
  refine ⟨?_, ?_⟩
  · rw [World.cell?_of_block (w := w.alloc (.cells #[.bool false] 4)) (a := ⟨w.heap.size, 0, none⟩) hk]; simp
  · rw [World.frozen?_of_block (w := w.alloc (.cells #[.bool false] 4)) (a := ⟨w.heap.size, 0, none⟩) hk]; simp

theorem sealed {tb : Nat} {w w2 : World} {u v : Value} (htl : tb < w.heap.size) (h : But tb (w.alloc (.cells #[.bool false] 4)) w2) (hu : w2.cell? ⟨tb, 0, none⟩ = some u) :
    (w2.setCell ⟨w.heap.size, 0, none⟩ v).cell? ⟨tb, 0, none⟩ = some u ∧ But tb w (w2.setCell ⟨w.heap.size, 0, none⟩ v) := by
  refine ⟨(World.cell?_setCell_other _ ⟨w.heap.size, 0, none⟩ ⟨tb, 0, none⟩ _ (by simp)).trans hu, h.os, h.tape, h.output, ?_, ?_⟩
  · have := h.size
    simp [World.setCell] at this ⊢
    omega
  · intro k hk hn
    rw [Below.heap_setCell _ _ _ _ (by show k ≠ w.heap.size; omega), h.block k (by simp; omega) hn, Below.heap_alloc _ _ _ hk]

theorem fas_place (tb : Nat) (p : Addr) (old : Value) (w : World) (hg : Handle w)
    (ht : w.cell? ⟨tb, 0, none⟩ = some old) (hf : w.frozen? ⟨tb, 0, none⟩ = false) :
    Calls Tryz.prog 50 #[.iface 66 (.pointer (some p)), .iface 104 (.pointer (some ⟨tb, 0, none⟩))] w fun e w' => Hit tb w (.pointer (some p)) e w' := by
  have htl := cell_lt ht
  have hB : Below w.heap.size w (w.alloc (.cells #[.bool false] 4)) := (Below.refl _ _).alloc (Nat.le_refl _) _
  refine (as21 true (fun w' => w'.cell? ⟨tb, 0, none⟩ = some (.pointer (some p)) ∧ But tb (w.alloc (.cells #[.bool false] 4)) w') 66 _ _ w ?_ (fun w' h => okCell htl h.2)).mono ?_
  · refine As67 true _ 66 _ tb _ (hg.below hB hg.lt) ?_
    intro w0 vb hB0 hv
    have hB1 : Below w.heap.size w w0 := hB.trans (hB0.mono (by simp))
    refine (as_place tb vb p old w0 hv ((hB1.cell (p := ⟨tb, 0, none⟩) htl).trans ht) ((hB1.frozen (p := ⟨tb, 0, none⟩) htl).trans hf)).mono ?_
    rintro e w' ⟨rfl, hh, hb⟩
    exact ⟨rfl, hh, (But.of hB0).trans hb⟩
  · rintro e w' ⟨rfl, w2, ⟨hh, hb⟩, rfl⟩
    exact ⟨rfl, sealed htl hb hh⟩

/-- first of an *Error. -/
theorem first_place (p : Addr) (w : World) (hg : Handle w) :
    Calls Tryz.prog 22 #[.iface 66 (.pointer (some p))] w fun e w' => e = .returned (.tuple #[.pointer (some p), .bool true]) ∧ Below w.heap.size w w' := by
  have hB : Below w.heap.size w (w.alloc (.cells #[.pointer none] 66)) := (Below.refl _ _).alloc (Nat.le_refl _) _
  have HG := Lib.hid hg
  clear hg
  go_enter Tryz.func22, Tryz.ntmps22
  go_wp2_with (go_at_call 48; refine (ends_place _ _).mono ?_; rintro e w1 ⟨rfl, hb1⟩)
  have hB1 : Below w.heap.size w w1 := hB.trans (hb1.mono (by simp))
  have HC := Lib.hid (fas_place w.heap.size p (.pointer none) w1 (HG.out.below hB1 HG.out.lt) ((hb1.cell (p := ⟨w.heap.size, 0, none⟩) (by simp)).trans (by simp)) ((hb1.frozen (p := ⟨w.heap.size, 0, none⟩) (by simp)).trans (by simp)))
  go_wp2_with (go_at_call 50; refine HC.out.mono ?_; rintro e w2 ⟨rfl, hh, hb2⟩)
  have hs := hb1.size
  simp only [World.size_alloc] at hs
  have hB2 : Below w.heap.size w w2 := hB1.trans (hb2.below (by omega))
  go_ret2
  exact ⟨rfl, hB2⟩

theorem place_some (b : Nat) (s n : Value) (w : World) (hg : Handle w) (h0 : w.cell? ⟨b, 0, none⟩ = some s) (h1 : w.cell? ⟨b, 1, none⟩ = some n) :
    Calls Tryz.prog 9 #[.iface 66 (.pointer (some ⟨b, 0, none⟩))] w fun e w' => e = .returned (.tuple #[s, n, .bool true]) ∧ Below w.heap.size w w' := by
  have hb := cell_lt h0
  have HC := Lib.hid (first_place ⟨b, 0, none⟩ w hg)
  have H0 := Lib.hid h0
  have H1 := Lib.hid h1
  clear hg h0 h1
  go_enter Tryz.func9, Tryz.ntmps9
  go_wp2_with (go_at_call 22; refine HC.out.mono ?_; rintro e w2 ⟨rfl, hb2⟩)
  have g0 : w2.cell? ⟨b, 0, none⟩ = some s := (hb2.cell (p := ⟨b, 0, none⟩) hb).trans H0.out
  have g1 : w2.cell? ⟨b, 1, none⟩ = some n := (hb2.cell (p := ⟨b, 1, none⟩) hb).trans H1.out
  go_wp2_with (first | (go_at_call 23; refine (where_some b s _ g0).mono ?_; rintro e w' ⟨rfl, rfl⟩) | (go_at_call 24; refine (at_of b n _ g1).mono ?_; rintro e w' ⟨rfl, rfl⟩))
  go_ret3
  exact ⟨rfl, hb2⟩
end Go.Proofs.YtgbhfhnbmgkaoaaGreatDoor
