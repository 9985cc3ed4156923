/-
  Texts of one claim, merged.
  IsCode: The contract of errors.Is over chains of wraps around a code, asked for a code. No conditions but those typed.
  ErrIs: Errors that wrap a code, and those whose first place is known. The conditions: the chain typed.
  Lies: A row of cells that lies in a block: what its cells are, and that it stays. No program is run here.
  Results: Results that lie in blocks of their own: a struct (or an array) first, a plain value behind it. For any program; no conditions but those typed.
  BlockLaws: The contracts of the program's functions of chapter 8, as sentences that its laws start from; however a device lies in memory. No conditions but those typed.
  FrameMath: Plain mathematics of chapter 9: a payload's frame, what stands at a place of a text. No program, no conditions but those typed.
  FrameMath2: Plain mathematics of chapter 9: a frame that is turned at a place, cut, or has noughts, is none. No program, no conditions but those typed.
  WireMath: Plain mathematics of chapter 5 over lists of numbers: a number's groups of seven bits, what stands next in some bytes, things one behind the other. No program, no conditions but those typed.
  WireState: Plain mathematics of chapter 5: what is read from some bytes, thing by thing, and what is put, thing by thing. No program, no conditions but those typed.
  JournalMath: Plain mathematics of chapter 10: parts, what some bytes tell, and what Open, Put and Start do to two devices. No program, no conditions but those typed.
  JournalParts: Plain mathematics of chapter 10: parts as bytes, what is read of them, and what is left of them when bytes are lost. No program, no conditions but those typed.
  BlockKeepMath: Plain mathematics of BlockKeeps: what a crash leaves. No program, no conditions but those typed.
-/
import Derived.Test.YtajkldmpllphjaaDoorPart01
import Derived.Deep.LoopGhost
import Derived.WalkKit
import Derived.Handy
import Derived.Outline
import Derived.Lib.Hide
import Derived.Deep.RegionWith
import Derived.Deep.RegionLaw
import Derived.StillTailTactics
import Derived.BigQuiet
namespace Go.Proofs.YtajkldmpllphjaaDoor
open Go.RowKit Go.Extern.Stop Go.Stop Go.Extern

theorem ta35_73 (v : Value) (w : World) : (Instr.typeAssert (.iface 33 v) 29 76 true).run Tryd.prog w = .ok (.tuple #[.nilIface, .bool false]) w :=
  run_typeAssert_lacksB Tryd.underlying76 (by kernel_rfl) (by kernel_rfl) v 29 w

theorem ta35_74 (v : Value) (w : World) : (Instr.typeAssert (.iface 33 v) 29 78 true).run Tryd.prog w = .ok (.tuple #[.nilIface, .bool false]) w :=
  run_typeAssert_lacksB Tryd.underlying78 (by kernel_rfl) (by kernel_rfl) v 29 w

theorem typeOf35 (v : Value) (w : World) : (ReflectliteType.typeOf #[.iface 33 v]).run Tryd.prog w = .ok (.iface 71 (.agg #[.pointer (some ⟨3, 33, none⟩)])) w := by kernel_rfl

theorem ta35_71 (v : Value) (w : World) : (Instr.typeAssert (.iface 33 v) 29 73 true).run Tryd.prog w = .ok (.tuple #[.nilIface, .bool false]) w :=
  run_typeAssert_lacksB Tryd.underlying73 (by kernel_rfl) (by kernel_rfl) v 29 w

theorem ta42_71 (v : Value) (w : World) : (Instr.typeAssert (.iface 67 v) 29 73 true).run Tryd.prog w = .ok (.tuple #[.nilIface, .bool false]) w :=
  run_typeAssert_lacksB Tryd.underlying73 (by kernel_rfl) (by kernel_rfl) v 29 w

theorem eql35_35 (a b : Int) (w : World) : (binOp .eql 29 (.iface 33 (.int .i64 a)) (.iface 33 (.int .i64 b))).run Tryd.prog w = .ok (.bool (a == b)) w := by kernel_rfl

theorem eql42_35 (a b : Value) (w : World) : (binOp .eql 29 (.iface 67 a) (.iface 33 b)).run Tryd.prog w = .ok (.bool false) w := by kernel_rfl

theorem methodComparable (h : Value) (w : World) : (Go.method 272 71 (.agg #[h]) "Comparable").run Tryd.prog w = .ok (105, .agg #[h]) w := by kernel_rfl

theorem call62 (args : Array Value) (w : World) : (callFunc 105 args).run Tryd.prog w = ((ReflectliteType.method (fun t => do Rtype.noPackHeld "Comparable" t; pure (.bool (← typeInfo t).comparable)) args).run Tryd.prog w).andThen fun v w' => .ok (.value v) w' :=
  run_callFunc_extern Tryd.func105 (by kernel_rfl) (by kernel_rfl) (by kernel_rfl) (by kernel_rfl) args w

theorem comparable35 (w : World) : (ReflectliteType.method (fun t => do Rtype.noPackHeld "Comparable" t; (fun a => Value.bool a.comparable) <$> typeInfo t) #[.agg #[.pointer (some ⟨3, 33, none⟩)]]).run Tryd.prog w = .ok (.bool true) w := by kernel_rfl

set_option maxHeartbeats 4000000 in
theorem is_chain (B : Nat) (l : List Wrap) (c other : Int) (v : Value) (w : World) (hch : Chain B w l (.iface 33 (.int .i64 c)) v) :
    Calls Tryd.prog 17 #[v, .iface 33 (.int .i64 other), .bool true] w fun e w' => e = .returned (.bool (c == other)) ∧ w' = w := by
  have HC := Lib.hid hch
  clear hch
  go_enter Tryd.func17, Tryd.ntmps17
  go_wp2
  go_loopg [0] l.length (fun k s0 wx => ∃ r : List Wrap, r.length = k ∧ Hid (Chain B w r (.iface 33 (.int .i64 c)) s0) ∧ wx = w)
  case atStart => exact ⟨l, rfl, HC, rfl⟩
  case round =>
    obtain ⟨r, hr, hc, rfl⟩ := hrel
    clear HC
    cases r with
    | nil =>
      have hc' : u0 = .iface 33 (.int .i64 c) := hc.out
      subst hc'
      clear hc
      have q1 := eql35_35
      have q2 := ta35_71
      have q3 := ta35_73
      have q4 := ta35_74
      by_cases hco : c = other
      · subst hco
        go_wp2
        go_ret
        exact ⟨by simp, rfl⟩
      · have b0 := beq_eq_false_iff_ne.2 hco
        clear hco
        go_wp2
        go_ret
        exact ⟨by rw [b0]; rfl, rfl⟩
    | cons x r =>
      obtain ⟨b, u, hu1, hb, hx0, hx1, hx2, hcr⟩ := hc.out
      clear hc
      subst hu1
      obtain ⟨T, y, rfl⟩ := hcr.some
      have HR := Lib.hid hcr
      clear hcr hx0 hx1
      have q1 := eql42_35
      have q2 := ta42_71
      have q3 := ta42_73
      go_wp2_with (go_at_call 101; refine (unwrap_some b _ _ hx2).mono ?_; rintro e w' ⟨rfl, rfl⟩)
      go_roundg r.length
      case measure => simp at hr; omega
      case rel => exact ⟨r, rfl, HR, rfl⟩

set_option maxHeartbeats 4000000 in
theorem Is_chain (B : Nat) (l : List Wrap) (c other : Int) (v : Value) (w : World) (hch : Chain B w l (.iface 33 (.int .i64 c)) v) :
    Calls Tryd.prog 7 #[v, .iface 33 (.int .i64 other)] w fun e w' => e = .returned (.bool (c == other)) ∧ w' = w := by
  obtain ⟨T, y, rfl⟩ := hch.some
  have HC := Lib.hid (is_chain B l c other _ w hch)
  clear hch
  have k25 := call25
  have k62 := call62
  have f1 := typeOf35
  have f2 := methodComparable
  have f3 := comparable35
  go_enter Tryd.func7, Tryd.ntmps7
  go_wp2_with (go_at_call 17; refine HC.out.mono ?_; rintro e w' ⟨rfl, rfl⟩)
  go_ret
  exact ⟨rfl, rfl⟩
end Go.Proofs.YtajkldmpllphjaaDoor
namespace Go.Proofs.YtajkldmpllphjaaDoor
open Go.RowKit

/-- An error of this code: wraps around it. -/
def ErrIs (w : World) (c : Int) (x : Value) : Prop := ∃ l, Chain w.heap.size w l (.iface 33 (.int .i64 c)) x
theorem ErrIs.below {w w' : World} {c : Int} {x : Value} (h : ErrIs w c x) (hb : Below w.heap.size w w') : ErrIs w' c x := by
  obtain ⟨l, h⟩ := h
  exact ⟨l, h.mono hb hb.size⟩
theorem ErrIs.iface {w : World} {c : Int} {x : Value} (h : ErrIs w c x) : ∃ T y, x = .iface T y := by
  obtain ⟨l, h⟩ := h
  exact h.some
theorem is_err {w : World} {c : Int} {x : Value} (h : ErrIs w c x) (other : Int) : Calls Tryd.prog 7 #[x, .iface 33 (.int .i64 other)] w fun e w' => e = .returned (.bool (c == other)) ∧ w' = w := by
  obtain ⟨l, h⟩ := h
  exact Is_chain _ l c other x w h
/-- An error of this code whose first place is this one. -/
def ErrAt (w : World) (s : ByteArray) (n c : Int) (x : Value) : Prop := ∃ l, Chain w.heap.size w ((s, n) :: l) (.iface 33 (.int .i64 c)) x
theorem ErrAt.below {w w' : World} {s : ByteArray} {n c : Int} {x : Value} (h : ErrAt w s n c x) (hb : Below w.heap.size w w') : ErrAt w' s n c x := by
  obtain ⟨l, h⟩ := h
  exact ⟨l, h.mono hb hb.size⟩
theorem ErrAt.is {w : World} {s : ByteArray} {n c : Int} {x : Value} (h : ErrAt w s n c x) : ErrIs w c x := by
  obtain ⟨l, h⟩ := h
  exact ⟨_, h⟩
end Go.Proofs.YtajkldmpllphjaaDoor
namespace Go.Proofs.YtajkldmpllphjaaDoor
open Go.RowKit

/-- A row of cells that lies in block b. -/
def Lies (w : World) (b : Nat) (l : List Value) (T : TypeId) : Prop := w.heap[b]? = some (.cells l.toArray T (0, 0))
theorem Lies.lt {w : World} {b : Nat} {l : List Value} {T : TypeId} (h : Lies w b l T) : b < w.heap.size := (Array.getElem?_eq_some_iff.1 h).1
theorem Lies.cell {w : World} {b i : Nat} {l : List Value} {T : TypeId} {v : Value} (h : Lies w b l T) (hv : l[i]? = some v) : w.cell? ⟨b, i, none⟩ = some v := by
  rw [cell_of_row w b i _ T (0, 0) h]
  simp [hv]
theorem Lies.free {w : World} {b : Nat} {l : List Value} {T : TypeId} (h : Lies w b l T) (i : Nat) : w.frozen? ⟨b, i, none⟩ = false := frozen_of_row w b i _ T h
theorem Lies.set {w : World} {b : Nat} {l : List Value} {T : TypeId} (h : Lies w b l T) (i : Nat) (v : Value) : Lies (w.setCell ⟨b, i, none⟩ v) b (l.set i v) T := by
  have := heap_setCell_same (i := i) w b _ T v h
  unfold Lies
  rw [this]
  simp
theorem Lies.but {w w' : World} {b pb : Nat} {l : List Value} {T : TypeId} (h : Lies w b l T) (hb : But pb w w') (hn : b ≠ pb) : Lies w' b l T := (hb.block b h.lt hn).trans h
theorem Lies.below {w w' : World} {b : Nat} {l : List Value} {T : TypeId} (h : Lies w b l T) (hb : Below w.heap.size w w') : Lies w' b l T := (hb.block b h.lt).trans h
theorem Lies.new (w : World) (l : List Value) (T : TypeId) : Lies (w.alloc (.cells l.toArray T)) w.heap.size l T := heap_alloc_new w _
end Go.Proofs.YtajkldmpllphjaaDoor
namespace Go.Proofs.YtajkldmpllphjaaDoor
open Go.RowKit

theorem results_cell_tmp {P : Program} {fn : Func} {p t : Tmp} {ty : TypeId} (h : fn.results = #[.cell p ty, .tmp t]) (tmps : Array Value) (w : World) (g : Nat) (T : TypeId) (cs : Array Value) (fr : Nat × Nat) (d : TypeDesc)
    (hp : tmps.getD p undef = .pointer (some ⟨g, 0, none⟩)) (hg : w.heap[g]? = some (.cells cs T fr))
    (hu : P.underlying ty = some d) (hd : (match d with | .struct _ | .array _ _ => true | _ => false) = true) (hi : (P.info? ty).map (·.size) = some cs.size) :
    (results fn tmps).run P w = .ok (.tuple #[.agg cs, tmps.getD t undef]) w := by
  have hp' : tmps[p]?.getD undef = .pointer (some ⟨g, 0, none⟩) := by simpa using hp
  simp [results, h, hp', asAddr, run_loadVar_row w g T ty cs fr d hg hu hd hi]
end Go.Proofs.YtajkldmpllphjaaDoor
namespace Go.Proofs.YtajkldmpllphjaaDoor
open Go.RowKit BlockMath TextNat

theorem drawn_below {B : Nat} {a w : World} (n : Nat) (h : Below B a w) : Below B a (w.drewN n) := ⟨h.os, h.tape, h.output, h.size, h.block⟩
/-- How a device of the program lies in memory: in which blocks, and that it stays while they do. -/
structure Dev where
  at_ : World → Nat → (Nat → Prop) → Dk → Prop
  stays : ∀ {w w' : World} {b : Nat} {S : Nat → Prop} {d : Dk}, at_ w b S d → w.heap.size ≤ w'.heap.size → (∀ k, S k → w'.heap[k]? = w.heap[k]?) → at_ w' b S d
  lt : ∀ {w : World} {b : Nat} {S : Nat → Prop} {d : Dk}, at_ w b S d → ∀ k, S k → k < w.heap.size
/-- A device of one's own: its blocks are new, behind B. -/
structure Has (D : Dev) (B : Nat) (w : World) (b : Nat) (d : Dk) : Prop where
  own : ∃ S, D.at_ w b S d ∧ ∀ k, S k → B ≤ k
theorem Has.below {D : Dev} {B b : Nat} {w w' : World} {d : Dk} (h : Has D B w b d) (hb : Below w.heap.size w w') : Has D B w' b d := by
  obtain ⟨S, h, k⟩ := h.own
  exact ⟨S, D.stays h hb.size fun j hj => hb.block j (D.lt h j hj), k⟩
abbrev ptr (b : Nat) : Value := .pointer (some ⟨b, 0, none⟩)
abbrev name : ByteArray := ⟨#[98, 108, 111, 99, 107]⟩
/-- An error that lies in a block of its own, from B on. -/
def ErrNew (B : Nat) (w : World) (n c : Int) (x : Value) : Prop := ∃ b, B ≤ b ∧ x = .iface 67 (.pointer (some ⟨b, 0, none⟩)) ∧ Lies w b [.string name, .int .i64 n, .iface 33 (.int .i64 c)] 69
theorem ErrNew.here {B : Nat} {w : World} {n c : Int} {x : Value} (h : ErrNew B w n c x) : ErrAt w name n c x := by
  obtain ⟨b, _, rfl, h⟩ := h
  exact ⟨[], ⟨b, _, rfl, h.lt, h.cell (i := 0) rfl, h.cell (i := 1) rfl, h.cell (i := 2) rfl, rfl⟩⟩
theorem ErrNew.is {B : Nat} {w : World} {n c : Int} {x : Value} (h : ErrNew B w n c x) : ErrIs w c x := h.here.is
theorem ErrNew.keep {B : Nat} {w w2 : World} {n c : Int} {x : Value} (h : ErrNew B w n c x) (_hs : w.heap.size ≤ w2.heap.size) (hk : ∀ k, B ≤ k → k < w.heap.size → w2.heap[k]? = w.heap[k]?) : ErrNew B w2 n c x := by
  obtain ⟨b, h1, h2, h3⟩ := h
  exact ⟨b, h1, h2, (hk b h1 h3.lt).trans h3⟩
theorem ErrNew.fn {B : Nat} {w : World} {n c : Int} {x : Value} (h : ErrNew B w n c x) : ∀ w2 : World, w.heap.size ≤ w2.heap.size → (∀ k, B ≤ k → k < w.heap.size → w2.heap[k]? = w.heap[k]?) → ErrAt w2 name n c x := fun _ hs hk => (h.keep hs hk).here
/-- The error that a number says: none of 0. -/
def ErrOf (B : Nat) (w : World) (c n : Int) (x : Value) : Prop := if c = 0 then x = .nilIface else ErrNew B w n c x
theorem ErrOf.zero {B : Nat} {w : World} {n : Int} {x : Value} {c : Int} (h : ErrOf B w c n x) (hc : c = 0) : x = .nilIface := by rwa [ErrOf, if_pos hc] at h
theorem ErrOf.not {B : Nat} {w : World} {n : Int} {x : Value} {c : Int} (h : ErrOf B w c n x) (hc : c ≠ 0) : ErrNew B w n c x := by rwa [ErrOf, if_neg hc] at h
/-- A call of a device whose blocks lie from B on: what is there afterwards; nothing ahead of B is changed. -/
def Does (D : Dev) (w : World) (b : Nat) (S : Nat → Prop) (d' : Dk) (w' : World) : Prop := (∃ S', D.at_ w' b S' d' ∧ ∀ k, S' k → S k ∨ w.heap.size ≤ k) ∧ Apart S w w'
theorem Does.has {D : Dev} {w w' : World} {B b : Nat} {S : Nat → Prop} {d' : Dk} (h : Does D w b S d' w') (hB : B ≤ w.heap.size) (hS : ∀ k, S k → B ≤ k) : Has D B w' b d' ∧ Below B w w' := by
  obtain ⟨⟨S', h1, h2⟩, h3⟩ := h
  refine ⟨⟨S', h1, fun k hk => ?_⟩, ⟨h3.os, h3.tape, h3.output, h3.size, fun k hk => h3.block k (by omega) fun hs => ?_⟩⟩
  · rcases h2 k hk with h | h
    · exact hS k h
    · omega
  · have := hS k hs
    omega
/-- A device of one's own whose blocks spare those from lo up to hi. -/
structure HasH (D : Dev) (B lo hi : Nat) (w : World) (b : Nat) (d : Dk) : Prop where
  own : ∃ S, D.at_ w b S d ∧ ∀ k, S k → B ≤ k ∧ (k < lo ∨ hi ≤ k)
theorem HasH.has {D : Dev} {B lo hi b : Nat} {w : World} {d : Dk} (h : HasH D B lo hi w b d) : Has D B w b d := by
  obtain ⟨S, h, k⟩ := h.own
  exact ⟨S, h, fun j hj => (k j hj).1⟩
theorem HasH.below {D : Dev} {B lo hi b : Nat} {w w' : World} {d : Dk} (h : HasH D B lo hi w b d) (hb : Below w.heap.size w w') : HasH D B lo hi w' b d := by
  obtain ⟨S, h, k⟩ := h.own
  exact ⟨S, D.stays h hb.size fun j hj => hb.block j (D.lt h j hj), k⟩
theorem Does.hasH {D : Dev} {w w' : World} {B lo hi b : Nat} {S : Nat → Prop} {d' : Dk} (h : Does D w b S d' w') (hB : B ≤ w.heap.size) (hh : hi ≤ w.heap.size) (hS : ∀ k, S k → B ≤ k ∧ (k < lo ∨ hi ≤ k)) :
    HasH D B lo hi w' b d' ∧ Below B w w' ∧ ∀ k, lo ≤ k → k < hi → w'.heap[k]? = w.heap[k]? := by
  obtain ⟨⟨S', h1, h2⟩, h3⟩ := h
  refine ⟨⟨S', h1, fun k hk => ?_⟩, ⟨h3.os, h3.tape, h3.output, h3.size, fun k hk => h3.block k (by omega) fun hs => ?_⟩, fun k hl hk => h3.block k (by omega) fun hs => ?_⟩
  · rcases h2 k hk with h | h
    · exact hS k h
    · omega
  · have := hS k hs
    omega
  · have := hS k hs
    omega
def NewOk (D : Dev) : Prop := ∀ (r : Int) (w : World), I64 r → Calls Tryd.prog 13 #[.int .i64 r] w fun e w' =>
  (if 0 ≤ r ∧ r ≤ 1048576 then ∃ b, e = .returned (.tuple #[ptr b, .nilIface]) ∧ Has D w.heap.size w' b (new r) else ∃ x, e = .returned (.tuple #[.pointer none, x]) ∧ ErrIs w' 1 x) ∧ Below w.heap.size w w'
def AppendOk (D : Dev) : Prop := ∀ (b : Nat) (S : Nat → Prop) (d : Dk) (s : ByteArray) (w : World), D.at_ w b S d → Ok d → s.size ≤ 100000 →
  Calls Tryd.prog 42 #[ptr b, .string s] w fun e w' => (∃ x, e = .returned x ∧ ErrOf w.heap.size w' (append s d).1 (size (append s d).2) x) ∧ Does D w b S (append s d).2 w'
def SyncOk (D : Dev) : Prop := ∀ (b : Nat) (S : Nat → Prop) (d : Dk) (w : World), D.at_ w b S d → Ok d →
  Calls Tryd.prog 56 #[ptr b] w fun e w' => (∃ x, e = .returned x ∧ ErrOf w.heap.size w' (sync d).1 (size (sync d).2) x) ∧ Does D w b S (sync d).2 w'
def CutOk (D : Dev) : Prop := ∀ (b : Nat) (S : Nat → Prop) (d : Dk) (n : Int) (w : World), D.at_ w b S d → Ok d → I64 n →
  Calls Tryd.prog 44 #[ptr b, .int .i64 n] w fun e w' => (∃ x, e = .returned x ∧ ErrOf w.heap.size w' (cut n d).1 (size (cut n d).2) x) ∧ Does D w b S (cut n d).2 w'
def ReadOk (D : Dev) : Prop := ∀ (b : Nat) (S : Nat → Prop) (d : Dk) (n m : Int) (w : World), D.at_ w b S d → Ok d → I64 n → I64 m →
  Calls Tryd.prog 46 #[ptr b, .int .i64 n, .int .i64 m] w fun e w' => (∃ x, e = .returned (.tuple #[.string (read n m d).1, x]) ∧ ErrOf w.heap.size w' (read n m d).2 (size d) x) ∧ Below w.heap.size w w'
def LenOk (D : Dev) : Prop := ∀ (b : Nat) (S : Nat → Prop) (d : Dk) (w : World), D.at_ w b S d → Ok d →
  Calls Tryd.prog 25 #[ptr b] w fun e w' => e = .returned (.int .i64 (size d)) ∧ Below w.heap.size w w'
def safe (d : Dk) : Int := if d.off then 0 else (d.done.size : Int)
def SafeOk (D : Dev) : Prop := ∀ (b : Nat) (S : Nat → Prop) (d : Dk) (w : World), D.at_ w b S d → Ok d →
  Calls Tryd.prog 36 #[ptr b] w fun e w' => e = .returned (.int .i64 (safe d)) ∧ Below w.heap.size w w'
def RoomOk (D : Dev) : Prop := ∀ (b : Nat) (S : Nat → Prop) (d : Dk) (n : Int) (w : World), D.at_ w b S d → Ok d → I64 n →
  Calls Tryd.prog 28 #[ptr b, .int .i64 n] w fun e w' => (∃ x, e = .returned x ∧ ErrOf w.heap.size w' (room n d).1 (size (room n d).2) x) ∧ Does D w b S (room n d).2 w'
def DownOk (D : Dev) : Prop := ∀ (b : Nat) (S : Nat → Prop) (d : Dk) (w : World), D.at_ w b S d → Ok d →
  Calls Tryd.prog 29 #[ptr b] w fun e w' => e = .returned (.bool d.off) ∧ Below w.heap.size w w'
def CrashOk (D : Dev) : Prop := ∀ (b : Nat) (S : Nat → Prop) (d : Dk) (k : Int) (mask : ByteArray) (w : World), D.at_ w b S d → Ok d → I64 k → mask.size ≤ 1000000 →
  Calls Tryd.prog 12 #[ptr b, .int .i64 k, .string mask] w fun e w' => e = .returned (.tuple #[]) ∧ Does D w b S (crash k mask d) w'
section
variable {D : Dev} {B b : Nat} {d : Dk} {w : World}
theorem append_has (hA : AppendOk D) (h : Has D B w b d) (hB : B ≤ w.heap.size) (ok : Ok d) (s : ByteArray) (hs : s.size ≤ 100000) :
    Calls Tryd.prog 42 #[ptr b, .string s] w fun e w' => (∃ x, e = .returned x ∧ ErrOf w.heap.size w' (append s d).1 (size (append s d).2) x) ∧ Has D B w' b (append s d).2 ∧ Below B w w' := by
  obtain ⟨S, h, k⟩ := h.own
  refine (hA b S d s w h ok hs).mono ?_
  rintro e w' ⟨h1, h2⟩
  exact ⟨h1, h2.has hB k⟩
theorem sync_has (hA : SyncOk D) (h : Has D B w b d) (hB : B ≤ w.heap.size) (ok : Ok d) :
    Calls Tryd.prog 56 #[ptr b] w fun e w' => (∃ x, e = .returned x ∧ ErrOf w.heap.size w' (sync d).1 (size (sync d).2) x) ∧ Has D B w' b (sync d).2 ∧ Below B w w' := by
  obtain ⟨S, h, k⟩ := h.own
  refine (hA b S d w h ok).mono ?_
  rintro e w' ⟨h1, h2⟩
  exact ⟨h1, h2.has hB k⟩
theorem cut_has (hA : CutOk D) (h : Has D B w b d) (hB : B ≤ w.heap.size) (ok : Ok d) (n : Int) (hn : I64 n) :
    Calls Tryd.prog 44 #[ptr b, .int .i64 n] w fun e w' => (∃ x, e = .returned x ∧ ErrOf w.heap.size w' (cut n d).1 (size (cut n d).2) x) ∧ Has D B w' b (cut n d).2 ∧ Below B w w' := by
  obtain ⟨S, h, k⟩ := h.own
  refine (hA b S d n w h ok hn).mono ?_
  rintro e w' ⟨h1, h2⟩
  exact ⟨h1, h2.has hB k⟩
theorem crash_has (hA : CrashOk D) (h : Has D B w b d) (hB : B ≤ w.heap.size) (ok : Ok d) (n : Int) (hn : I64 n) (s : ByteArray) (hs : s.size ≤ 1000000) :
    Calls Tryd.prog 12 #[ptr b, .int .i64 n, .string s] w fun e w' => e = .returned (.tuple #[]) ∧ Has D B w' b (crash n s d) ∧ Below B w w' := by
  obtain ⟨S, h, k⟩ := h.own
  refine (hA b S d n s w h ok hn hs).mono ?_
  rintro e w' ⟨h1, h2⟩
  exact ⟨h1, h2.has hB k⟩
theorem read_has (hA : ReadOk D) (h : Has D B w b d) (ok : Ok d) (n m : Int) (hn : I64 n) (hm : I64 m) :
    Calls Tryd.prog 46 #[ptr b, .int .i64 n, .int .i64 m] w fun e w' => (∃ x, e = .returned (.tuple #[.string (read n m d).1, x]) ∧ ErrOf w.heap.size w' (read n m d).2 (size d) x) ∧ Has D B w' b d ∧ Below w.heap.size w w' := by
  obtain ⟨S, h0, k⟩ := h.own
  refine (hA b S d n m w h0 ok hn hm).mono ?_
  rintro e w' ⟨h1, h2⟩
  exact ⟨h1, h.below h2, h2⟩
theorem len_has (hA : LenOk D) (h : Has D B w b d) (ok : Ok d) :
    Calls Tryd.prog 25 #[ptr b] w fun e w' => e = .returned (.int .i64 (size d)) ∧ Has D B w' b d ∧ Below w.heap.size w w' := by
  obtain ⟨S, h0, k⟩ := h.own
  refine (hA b S d w h0 ok).mono ?_
  rintro e w' ⟨h1, h2⟩
  exact ⟨h1, h.below h2, h2⟩
theorem safe_has (hA : SafeOk D) (h : Has D B w b d) (ok : Ok d) :
    Calls Tryd.prog 36 #[ptr b] w fun e w' => e = .returned (.int .i64 (safe d)) ∧ Has D B w' b d ∧ Below w.heap.size w w' := by
  obtain ⟨S, h0, k⟩ := h.own
  refine (hA b S d w h0 ok).mono ?_
  rintro e w' ⟨h1, h2⟩
  exact ⟨h1, h.below h2, h2⟩
theorem down_has (hA : DownOk D) (h : Has D B w b d) (ok : Ok d) :
    Calls Tryd.prog 29 #[ptr b] w fun e w' => e = .returned (.bool d.off) ∧ Has D B w' b d ∧ Below w.heap.size w w' := by
  obtain ⟨S, h0, k⟩ := h.own
  refine (hA b S d w h0 ok).mono ?_
  rintro e w' ⟨h1, h2⟩
  exact ⟨h1, h.below h2, h2⟩
end
end Go.Proofs.YtajkldmpllphjaaDoor
namespace FrameMath
open CrcMath
def four (s : Nat) : List Nat := [s % 256, s / 256 % 256, s / 65536 % 256, s / 16777216]
def head (n : Nat) : List Nat := [n / 256, n % 256]
def rawF (p : List Nat) : List Nat := head p.length ++ four (sum (head p.length)) ++ p ++ four (sum (head p.length ++ p))
def nibs : List Nat → List Nat
  | [] => []
  | b :: r => (64 + b / 16) :: (64 + b % 16) :: nibs r
def framed (p : List Nat) : List Nat := 1 :: nibs (rawF p)
/-- What is read of pairs of letters, as far as they are such. -/
def bytesOf : List Nat → List Nat
  | a :: b :: r => if 64 ≤ a ∧ a < 80 ∧ 64 ≤ b ∧ b < 80 then (16 * (a - 64) + (b - 64)) :: bytesOf r else []
  | _ => []
def Oct (l : List Nat) : Prop := ∀ b ∈ l, b < 256
theorem four_len (s : Nat) : (four s).length = 4 := rfl
theorem head_len (n : Nat) : (head n).length = 2 := rfl
theorem nibs_len : ∀ l : List Nat, (nibs l).length = 2 * l.length
  | [] => rfl
  | _ :: r => by
    show (nibs r).length + 1 + 1 = 2 * (r.length + 1)
    rw [nibs_len r]
    omega
theorem rawF_len (p : List Nat) : (rawF p).length = 10 + p.length := by
  unfold rawF
  simp [four_len, head_len]
  omega
theorem framed_len (p : List Nat) : (framed p).length = 21 + 2 * p.length := by
  show (nibs (rawF p)).length + 1 = _
  rw [nibs_len, rawF_len]
  omega
theorem four_bytes {s : Nat} (h : s < 2 ^ 32) : Oct (four s) := by
  intro b hb
  simp [four] at hb
  omega
theorem head_bytes {n : Nat} (h : n ≤ 65535) : Oct (head n) := by
  intro b hb
  simp [head] at hb
  omega
theorem Oct.append {a b : List Nat} (ha : Oct a) (hb : Oct b) : Oct (a ++ b) := fun x hx => by
  rcases List.mem_append.1 hx with h | h
  · exact ha x h
  · exact hb x h
theorem rawF_bytes {p : List Nat} (h : p.length ≤ 65535) (hp : Oct p) : Oct (rawF p) :=
  (((head_bytes h).append (four_bytes (sum_lt _))).append hp).append (four_bytes (sum_lt _))
theorem bytesOf_nibs : ∀ (l m : List Nat), Oct l → bytesOf (nibs l ++ m) = l ++ bytesOf m
  | [], _, _ => rfl
  | b :: r, m, h => by
    have hb := h b (by simp)
    show bytesOf ((64 + b / 16) :: (64 + b % 16) :: (nibs r ++ m)) = b :: (r ++ bytesOf m)
    rw [bytesOf, if_pos (by omega), bytesOf_nibs r m (fun x hx => h x (by simp [hx]))]
    congr 1
    omega
theorem nibs_bytesOf : ∀ (n : Nat) (l : List Nat), n ≤ (bytesOf l).length → l.take (2 * n) = nibs ((bytesOf l).take n)
  | 0, _, _ => by simp [nibs]
  | n + 1, [], h => by simp [bytesOf] at h
  | n + 1, [_], h => by simp [bytesOf] at h
  | n + 1, a :: b :: r, h => by
    unfold bytesOf at h ⊢
    split at h
    · rename_i hc
      rw [if_pos hc]
      rw [List.length_cons] at h
      rw [show 2 * (n + 1) = 2 * n + 1 + 1 by omega, List.take_succ_cons, List.take_succ_cons, List.take_succ_cons, nibs, nibs_bytesOf n r (by omega)]
      congr 1
      · omega
      · congr 1
        omega
    · simp at h
theorem nibs_append : ∀ a b : List Nat, nibs (a ++ b) = nibs a ++ nibs b
  | [], _ => rfl
  | x :: a, b => by
    show _ :: _ :: nibs (a ++ b) = _ :: _ :: (nibs a ++ nibs b)
    rw [nibs_append a b]
theorem nibs_inj : ∀ a b : List Nat, nibs a = nibs b → a = b
  | [], [], _ => rfl
  | [], _ :: _, h => by simp [nibs] at h
  | _ :: _, [], h => by simp [nibs] at h
  | x :: a, y :: b, h => by
    simp only [nibs, List.cons.injEq] at h
    rw [nibs_inj a b h.2.2]
    congr 1
    omega
theorem nibs_mem : ∀ {l : List Nat}, Oct l → ∀ b ∈ nibs l, 64 ≤ b ∧ b < 80
  | [], _, b, hb => by simp [nibs] at hb
  | x :: r, h, b, hb => by
    have hx := h x (by simp)
    simp only [nibs, List.mem_cons] at hb
    rcases hb with rfl | rfl | hb
    · omega
    · omega
    · exact nibs_mem (fun y hy => h y (by simp [hy])) b hb
/-- Does a frame stand at the beginning? -/
def stands (l : List Nat) : Option (List Nat) :=
  match l with
  | 1 :: r =>
    let raw := bytesOf r
    let n := raw.getD 0 0 * 256 + raw.getD 1 0
    if raw.length < 10 then none
    else if 8192 < n ∨ raw.length - 10 < n then none
    else if rawF ((raw.drop 6).take n) = raw.take (10 + n) then some ((raw.drop 6).take n) else none
  | _ => none
theorem stands_framed {p : List Nat} (h : p.length ≤ 8192) (hp : Oct p) (m : List Nat) : stands (framed p ++ m) = some p := by
  have hb : bytesOf (nibs (rawF p) ++ m) = rawF p ++ bytesOf m := bytesOf_nibs _ _ (rawF_bytes (by omega) hp)
  have hl := rawF_len p
  show stands (1 :: (nibs (rawF p) ++ m)) = _
  unfold stands
  simp only []
  rw [hb]
  have h0 : (rawF p ++ bytesOf m).getD 0 0 = p.length / 256 := by simp [rawF, head]
  have h1 : (rawF p ++ bytesOf m).getD 1 0 = p.length % 256 := by simp [rawF, head]
  rw [h0, h1]
  have hn : p.length / 256 * 256 + p.length % 256 = p.length := by omega
  rw [hn, if_neg (by rw [List.length_append]; omega), if_neg (by rw [List.length_append]; omega)]
  have hd : ((rawF p ++ bytesOf m).drop 6).take p.length = p := by
    have : rawF p ++ bytesOf m = (head p.length ++ four (sum (head p.length))) ++ (p ++ (four (sum (head p.length ++ p)) ++ bytesOf m)) := by
      unfold rawF
      simp [List.append_assoc]
    rw [this, List.drop_left' (by simp [head, four]), List.take_left' rfl]
  rw [hd, if_pos (by rw [List.take_left' (by rw [rawF_len])])]
theorem stands_is {l p : List Nat} (h : stands l = some p) : ∃ m, l = framed p ++ m ∧ p.length ≤ 8192 := by
  unfold stands at h
  split at h
  · rename_i r
    simp only [] at h
    split at h
    · cases h
    · rename_i h10
      split at h
      · cases h
      · rename_i hn
        split at h
        · rename_i hr
          obtain rfl := Option.some.inj h
          have hnn : (bytesOf r).getD 0 0 * 256 + (bytesOf r).getD 1 0 ≤ (bytesOf r).length - 10 := by omega
          have h8 : (bytesOf r).getD 0 0 * 256 + (bytesOf r).getD 1 0 ≤ 8192 := by omega
          generalize (bytesOf r).getD 0 0 * 256 + (bytesOf r).getD 1 0 = n at *
          refine ⟨r.drop (2 * (10 + n)), ?_, by rw [List.length_take]; omega⟩
          have h2 := nibs_bytesOf (10 + n) r (by omega)
          show 1 :: r = 1 :: (nibs (rawF _) ++ _)
          rw [hr, ← h2, List.take_append_drop]
        · cases h
  · cases h
/-- Just one payload's frame is there. -/
theorem framed_one {p q x y : List Nat} (hp : p.length ≤ 8192) (hq : q.length ≤ 8192) (bp : Oct p) (bq : Oct q) (h : framed p ++ x = framed q ++ y) : p = q := by
  have h1 := stands_framed hp bp x
  rw [h, stands_framed hq bq y] at h1
  exact (Option.some.inj h1).symm
theorem four_inj {s t : Nat} (h : four s = four t) : s = t := by
  simp [four] at h
  omega
theorem head_inj {n m : Nat} (h : head n = head m) : n = m := by
  simp [head] at h
  omega
/-- The bytes of what stands there are bytes. -/
theorem stands_bytes {l p : List Nat} (h : stands l = some p) (hl : Oct l) : Oct p := by
  obtain ⟨m, rfl, _⟩ := stands_is h
  unfold stands at h
  have hb : ∀ l : List Nat, Oct (bytesOf l) := by
    intro l
    induction l using bytesOf.induct with
    | case1 a b r hc ih =>
      unfold bytesOf
      rw [if_pos hc]
      intro x hx
      rcases List.mem_cons.1 hx with rfl | hx
      · omega
      · exact ih x hx
    | case2 a b r hc =>
      unfold bytesOf
      rw [if_neg hc]
      intro x hx
      cases hx
    | case3 l hl =>
      intro x hx
      unfold bytesOf at hx
      split at hx
      · rename_i a b r
        exact absurd rfl (hl a b r)
      · cases hx
  split at h
  · rename_i r hr
    simp only [] at h
    split at h
    · cases h
    · split at h
      · cases h
      · split at h
        · obtain rfl := Option.some.inj h
          intro x hx
          exact hb _ x (List.mem_of_mem_drop (List.mem_of_mem_take hx))
        · cases h
  · cases h
end FrameMath
namespace FrameMath
open CrcMath
theorem framed_mem {p : List Nat} (h : p.length ≤ 65535) (hp : Oct p) : ∀ b ∈ framed p, b = 1 ∨ (64 ≤ b ∧ b < 80) := by
  intro b hb
  rcases List.mem_cons.1 hb with rfl | hb
  · exact Or.inl rfl
  · exact Or.inr (nibs_mem (rawF_bytes h hp) b hb)
/-- The first five letters tell how long the payload is. -/
theorem framed_head (p : List Nat) : (framed p).take 5 = 1 :: nibs (head p.length) := rfl
theorem framed_sum (p : List Nat) : ((framed p).drop 5).take 8 = nibs (four (sum (head p.length))) := by
  show (((1 :: nibs (rawF p)).drop 5).take 8) = _
  rw [List.drop_succ_cons]
  unfold rawF
  rw [List.append_assoc, List.append_assoc, nibs_append, List.drop_left' (by rfl), nibs_append]
  exact List.take_left' rfl
theorem len_of_head {p q : List Nat} (h : (framed p).take 5 = (framed q).take 5) : p.length = q.length := by
  rw [framed_head, framed_head] at h
  exact head_inj (nibs_inj _ _ (List.cons.inj h).2)
theorem take_prefix {l a b : List Nat} (h : l = a ++ b) {n : Nat} (hn : n ≤ a.length) : l.take n = a.take n := by
  rw [h, List.take_append_of_le_length hn]
theorem head_differ {n m : Nat} (hn : n ≤ 8192) (hm : m ≤ 8192) (hne : n ≠ m) (hs : sum (head n) = sum (head m)) : n / 256 ≠ m / 256 ∧ n % 256 ≠ m % 256 := by
  constructor
  · intro h
    have h2 : n % 256 = m % 256 := by
      unfold head at hs
      rw [h] at hs
      exact (sum_tells [m / 256] [] (n % 256) (m % 256) (by omega) (by omega)).1 hs
    omega
  · intro h
    have h2 : n / 256 = m / 256 := by
      unfold head at hs
      rw [h] at hs
      exact (sum_tells [] [m % 256] (n / 256) (m / 256) (by omega) (by omega)).1 hs
    omega
theorem behind (X Y : List Nat) {n : Nat} (hX : X.length = n) (k : Nat) : (X ++ Y)[k + n]? = Y[k]? := by
  rw [List.getElem?_append_right (by omega), hX, show k + n - n = k by omega]
/-- Of one length, and of unlike letters at one place alone: that can't be. -/
theorem no_single {p q : List Nat} (hl : p.length = q.length) (bp : Oct p) (bq : Oct q) (i : Nat) (h : ∀ j, j ≠ i → (framed p)[j]? = (framed q)[j]?) : p = q := by
  -- the raw bytes are unlike at one place at most
  have hlen : p.length = q.length := hl
  have hr : ∀ k, k ≠ (i - 1) / 2 → (rawF p)[k]? = (rawF q)[k]? := by
    intro k hk
    have nib_at : ∀ (l : List Nat) (k : Nat), (nibs l)[2 * k]? = (l[k]?).map (fun b => 64 + b / 16) ∧ (nibs l)[2 * k + 1]? = (l[k]?).map (fun b => 64 + b % 16) := by
      intro l
      induction l with
      | nil => intro k; simp [nibs]
      | cons b r ih =>
        intro k
        cases k with
        | zero => simp [nibs]
        | succ k =>
          have := ih k
          rw [show 2 * (k + 1) = 2 * k + 1 + 1 by omega]
          simp only [nibs, List.getElem?_cons_succ]
          exact this
    have e1 := h (2 * k + 1) (by omega)
    have e2 := h (2 * k + 2) (by omega)
    have f : ∀ p : List Nat, (framed p)[2 * k + 1]? = ((rawF p)[k]?).map (fun b => 64 + b / 16) ∧ (framed p)[2 * k + 2]? = ((rawF p)[k]?).map (fun b => 64 + b % 16) := fun p => by
      unfold framed
      rw [show 2 * k + 2 = (2 * k + 1) + 1 by omega, List.getElem?_cons_succ, List.getElem?_cons_succ]
      exact nib_at (rawF p) k
    rw [(f p).1, (f q).1] at e1
    rw [(f p).2, (f q).2] at e2
    cases ha : (rawF p)[k]? with
    | none =>
      rw [ha] at e1
      cases hb : (rawF q)[k]? with
      | none => rfl
      | some b => rw [hb] at e1; simp at e1
    | some a =>
      rw [ha] at e1 e2
      cases hb : (rawF q)[k]? with
      | none => rw [hb] at e1; simp at e1
      | some b =>
        rw [hb] at e1 e2
        simp at e1 e2
        congr 1
        omega
  have hraw : ∀ p : List Nat, rawF p = (head p.length ++ four (sum (head p.length))) ++ (p ++ four (sum (head p.length ++ p))) := fun p => by
    unfold rawF
    simp [List.append_assoc]
  have h6 : (head p.length ++ four (sum (head p.length))).length = 6 := rfl
  have h6' : (head q.length ++ four (sum (head q.length))).length = 6 := rfl
  have hpq : ∀ k, k + 6 ≠ (i - 1) / 2 → (p ++ four (sum (head p.length ++ p)))[k]? = (q ++ four (sum (head q.length ++ q)))[k]? := by
    intro k hk
    have := hr (k + 6) hk
    rw [hraw p, hraw q, behind _ _ h6 k, behind _ _ h6' k] at this
    exact this
  have pay : ∀ k, k < p.length → k + 6 ≠ (i - 1) / 2 → p[k]? = q[k]? := by
    intro k hk hne
    have := hpq k hne
    rwa [List.getElem?_append_left hk, List.getElem?_append_left (by omega)] at this
  by_cases hin : 6 ≤ (i - 1) / 2 ∧ (i - 1) / 2 < 6 + p.length
  · -- the place lies in the payload: the sums are alike
    obtain ⟨k, hk⟩ : ∃ k, (i - 1) / 2 = k + 6 := ⟨(i - 1) / 2 - 6, by omega⟩
    have hkp : k < p.length := by omega
    have hkq : k < q.length := by omega
    have hsum : four (sum (head p.length ++ p)) = four (sum (head q.length ++ q)) := by
      apply List.ext_getElem?
      intro j
      have := hpq (p.length + j) (by omega)
      rw [List.getElem?_append_right (by omega), List.getElem?_append_right (by omega)] at this
      rwa [show p.length + j - p.length = j by omega, show p.length + j - q.length = j by omega] at this
    have hs := four_inj hsum
    have hq : q = p.take k ++ q[k]'hkq :: p.drop (k + 1) := by
      apply List.ext_getElem?
      intro j
      by_cases h1 : j < k
      · rw [List.getElem?_append_left (by rw [List.length_take]; omega), List.getElem?_take, if_pos h1]
        exact (pay j (by omega) (by omega)).symm
      · rw [List.getElem?_append_right (by rw [List.length_take]; omega), List.length_take, show min k p.length = k by omega]
        by_cases h2 : j = k
        · rw [h2, show k - k = 0 by omega]
          simp [hkq]
        · obtain ⟨m, rfl⟩ : ∃ m, j = k + 1 + m := ⟨j - k - 1, by omega⟩
          rw [show k + 1 + m - k = m + 1 by omega, List.getElem?_cons_succ, List.getElem?_drop]
          by_cases h3 : k + 1 + m < p.length
          · exact (pay _ h3 (by omega)).symm
          · rw [List.getElem?_eq_none (by omega), List.getElem?_eq_none (by omega)]
    have hp : p = p.take k ++ p[k]'hkp :: p.drop (k + 1) := by
      rw [List.getElem_cons_drop, List.take_append_drop]
    have ht := (sum_tells (head p.length ++ p.take k) (p.drop (k + 1)) (p[k]'hkp) (q[k]'hkq) (bp _ (List.getElem_mem hkp)) (bq _ (List.getElem_mem hkq))).1 (by
      have e1 : head p.length ++ p.take k ++ p[k]'hkp :: p.drop (k + 1) = head p.length ++ p := by rw [List.append_assoc, ← hp]
      have e2 : head p.length ++ p.take k ++ q[k]'hkq :: p.drop (k + 1) = head q.length ++ q := by rw [List.append_assoc, ← hq, hl]
      rw [e1, e2]
      exact hs)
    rw [hq, ← ht]
    exact hp
  · -- elsewhere: the payloads are alike
    apply List.ext_getElem?
    intro k
    by_cases hk : k < p.length
    · exact pay k hk (by omega)
    · rw [List.getElem?_eq_none (by omega), List.getElem?_eq_none (by omega)]
theorem framed_zero (p : List Nat) : (framed p)[0]? = some 1 := rfl
theorem framed_at {p : List Nat} : (framed p)[1]? = some (64 + p.length / 256 / 16) ∧ (framed p)[2]? = some (64 + p.length / 256 % 16) ∧ (framed p)[3]? = some (64 + p.length % 256 / 16) ∧ (framed p)[4]? = some (64 + p.length % 256 % 16) := ⟨rfl, rfl, rfl, rfl⟩
/-- A frame of which one letter is another one is none, whatever stands behind it. -/
theorem turned {p q x y : List Nat} (hp : p.length ≤ 8192) (hq : q.length ≤ 8192) (bp : Oct p) (bq : Oct q) {i z c : Nat} (hz : (framed p)[i]? = some z) (hc : c ≠ z) (he : (framed p).set i c ++ x = framed q ++ y) : False := by
  have hi : i < (framed p).length := (List.getElem?_eq_some_iff.1 hz).1
  have lp := framed_len p
  have lq := framed_len q
  have hall : ∀ j, j ≠ i → j < (framed p).length → j < (framed q).length → (framed p)[j]? = (framed q)[j]? := by
    intro j hj h1 h2
    have : ((framed p).set i c ++ x)[j]? = (framed q ++ y)[j]? := by rw [he]
    rw [List.getElem?_append_left (by rw [List.length_set]; exact h1), List.getElem?_append_left h2, List.getElem?_set_ne (Ne.symm hj)] at this
    exact this
  have hat : i < (framed q).length → (framed q)[i]? = some c := by
    intro h2
    have : ((framed p).set i c ++ x)[i]? = (framed q ++ y)[i]? := by rw [he]
    rw [List.getElem?_append_left (by rw [List.length_set]; exact hi), List.getElem?_append_left h2, List.getElem?_set_self hi] at this
    exact this.symm
  have same : p.length = q.length → False := by
    intro hl
    have hpq := no_single hl bp bq i (fun j hj => by
      by_cases h1 : j < (framed p).length
      · exact hall j hj h1 (by omega)
      · rw [List.getElem?_eq_none (by omega), List.getElem?_eq_none (by omega)])
    subst hpq
    have := hat hi
    rw [hz] at this
    exact hc (Option.some.inj this).symm
  by_cases h0 : i = 0
  · subst h0
    have h1 := hat (by omega)
    rw [framed_zero] at h1 hz
    exact hc ((Option.some.inj h1).symm.trans (Option.some.inj hz))
  obtain ⟨a1, a2, a3, a4⟩ := framed_at (p := p)
  obtain ⟨b1, b2, b3, b4⟩ := framed_at (p := q)
  by_cases h5 : 5 ≤ i
  · have e1 := hall 1 (by omega) (by omega) (by omega)
    have e2 := hall 2 (by omega) (by omega) (by omega)
    have e3 := hall 3 (by omega) (by omega) (by omega)
    have e4 := hall 4 (by omega) (by omega) (by omega)
    rw [a1, b1] at e1
    rw [a2, b2] at e2
    rw [a3, b3] at e3
    rw [a4, b4] at e4
    simp only [Option.some.injEq] at e1 e2 e3 e4
    exact same (by omega)
  · have hsum : four (sum (head p.length)) = four (sum (head q.length)) := by
      apply nibs_inj
      rw [← framed_sum, ← framed_sum]
      apply List.ext_getElem?
      intro k
      rw [List.getElem?_take, List.getElem?_take]
      by_cases hk : k < 8
      · rw [if_pos hk, if_pos hk, List.getElem?_drop, List.getElem?_drop]
        exact hall (5 + k) (by omega) (by omega) (by omega)
      · rw [if_neg hk, if_neg hk]
    by_cases hl : p.length = q.length
    · exact same hl
    · obtain ⟨d1, d2⟩ := head_differ hp hq hl (four_inj hsum)
      by_cases h3 : i ≤ 2
      · have e3 := hall 3 (by omega) (by omega) (by omega)
        have e4 := hall 4 (by omega) (by omega) (by omega)
        rw [a3, b3] at e3
        rw [a4, b4] at e4
        simp only [Option.some.injEq] at e3 e4
        omega
      · have e1 := hall 1 (by omega) (by omega) (by omega)
        have e2 := hall 2 (by omega) (by omega) (by omega)
        rw [a1, b1] at e1
        rw [a2, b2] at e2
        simp only [Option.some.injEq] at e1 e2
        omega
/-- A frame that is cut is none. -/
theorem cut_none {p q y : List Nat} (hp : p.length ≤ 8192) (hq : q.length ≤ 8192) (bp : Oct p) (bq : Oct q) {i : Nat} (hi : i < (framed p).length) (he : (framed p).take i = framed q ++ y) : False := by
  have h1 : framed p ++ [] = framed q ++ (y ++ (framed p).drop i) := by
    rw [← List.append_assoc, ← he, List.take_append_drop, List.append_nil]
  have hpq := framed_one hp hq bp bq h1
  subst hpq
  have := congrArg List.length he
  rw [List.length_take, List.length_append] at this
  omega
/-- A frame of which some letters are noughts is none, whatever stands behind it. -/
theorem lost {p q b x y : List Nat} (hp : p.length ≤ 8192) (hq : q.length ≤ 8192) (bp : Oct p) (bq : Oct q) (hb : b.length = (framed p).length) (hall : ∀ j z : Nat, (framed p)[j]? = some z → b[j]? = some z ∨ b[j]? = some 0) {k : Nat} (hk : b[k]? = some 0) (he : b ++ x = framed q ++ y) : False := by
  have hkl : k < b.length := (List.getElem?_eq_some_iff.1 hk).1
  have hat : ∀ j : Nat, j < b.length → j < (framed q).length → b[j]? = (framed q)[j]? := by
    intro j h1 h2
    have : (b ++ x)[j]? = (framed q ++ y)[j]? := by rw [he]
    rwa [List.getElem?_append_left h1, List.getElem?_append_left h2] at this
  have hno : ∀ j : Nat, (framed q)[j]? ≠ some 0 := by
    intro j h
    rcases framed_mem (by omega) bq 0 (List.mem_of_getElem? h) with h | h <;> omega
  by_cases h1 : k < (framed q).length
  · have := hat k hkl h1
    rw [hk] at this
    exact hno k this.symm
  · have hpre : framed p = framed q ++ (framed p).drop (framed q).length := by
      apply List.ext_getElem?
      intro j
      by_cases hj : j < (framed q).length
      · rw [List.getElem?_append_left hj]
        have h2 : j < (framed p).length := by omega
        have hz := List.getElem?_eq_getElem h2
        rcases hall j _ hz with h | h
        · rw [hz, ← h]
          exact hat j (by omega) hj
        · rw [hat j (by omega) hj] at h
          exact absurd h (hno j)
      · rw [List.getElem?_append_right (by omega), List.getElem?_drop]
        congr 1
        omega
    have hpq := framed_one hp hq bp bq (show framed p ++ [] = _ by rw [List.append_nil]; exact hpre)
    subst hpq
    omega
end FrameMath
namespace WireMath

/-- A number's bytes; f: how many at most. -/
def numF : Nat → Nat → List Nat
  | 0, n => [n]
  | f + 1, n => if n < 128 then [n] else (n % 128 + 128) :: numF f (n / 128)
def num (n : Nat) : List Nat := numF 8 n

theorem numF_len_pos : ∀ f n, 0 < (numF f n).length
  | 0, _ => by simp [numF]
  | f + 1, n => by unfold numF; split <;> simp
theorem numF_len : ∀ f n, (numF f n).length ≤ f + 1
  | 0, _ => by simp [numF]
  | f + 1, n => by
    unfold numF
    split
    · simp
    · have := numF_len f (n / 128)
      simp only [List.length_cons]
      omega
theorem numF_lt : ∀ f n, n < 128 ^ (f + 1) → ∀ b ∈ numF f n, b < 256
  | 0, n, h, b, hb => by
    simp [numF] at hb
    simp at h
    omega
  | f + 1, n, h, b, hb => by
    unfold numF at hb
    split at hb
    · simp at hb; omega
    · rcases List.mem_cons.1 hb with rfl | hb
      · omega
      · exact numF_lt f (n / 128) (Nat.div_lt_of_lt_mul (by rw [Nat.pow_succ, Nat.mul_comm] at h; exact h)) b hb
theorem num_lt (n : Nat) (h : n < 9223372036854775808) : ∀ b ∈ num n, b < 256 := numF_lt 8 n h
theorem num_len (n : Nat) : (num n).length ≤ 9 := numF_len 8 n
theorem num_len_pos (n : Nat) : 0 < (num n).length := numF_len_pos 8 n
/-- More room changes nothing. -/
theorem numF_more : ∀ f n, n < 128 ^ (f + 1) → numF (f + 1) n = numF f n
  | 0, n, h => by
    simp at h
    simp [numF, h]
  | f + 1, n, h => by
    have h2 : n / 128 < 128 ^ (f + 1) := Nat.div_lt_of_lt_mul (by rw [Nat.pow_succ, Nat.mul_comm] at h; exact h)
    unfold numF
    split
    · rfl
    · rw [numF_more f _ h2]
theorem num_step (n : Nat) (h : 128 ≤ n) (h2 : n < 9223372036854775808) : num n = (n % 128 + 128) :: num (n / 128) := by
  unfold num
  rw [show (8 : Nat) = 7 + 1 from rfl]
  conv => lhs; unfold numF
  rw [if_neg (by omega), numF_more 7 (n / 128) (by show n / 128 < 128 ^ 8; omega)]
theorem num_small (n : Nat) (h : n < 128) : num n = [n] := by
  show numF (7 + 1) n = [n]
  unfold numF
  rw [if_pos h]

/-- The number that stands at the beginning, and of how many bytes; f: how many at most. -/
def rawF : Nat → List Nat → Option (Nat × Nat)
  | 0, _ => none
  | _ + 1, [] => none
  | f + 1, c :: r => if c < 128 then some (c, 1) else
    match rawF f r with
    | none => none
    | some (v, k) => if v = 0 then none else some (c - 128 + 128 * v, k + 1)
def top : Nat := 4611686018427387903
/-- The number that stands next, at most so great. -/
def next (l : List Nat) (most : Int) : Option (Nat × Nat) :=
  match rawF 9 l with
  | none => none
  | some (v, k) => if (v : Int) ≤ most ∧ v ≤ top then some (v, k) else none

/-- What a number is written as is read as it. -/
theorem rawF_num : ∀ (f n : Nat) (r : List Nat), n < 128 ^ (f + 1) → rawF (f + 1) (numF f n ++ r) = some (n, (numF f n).length)
  | 0, n, r, h => by
    simp at h
    simp [numF, rawF, h]
  | f + 1, n, r, h => by
    unfold numF
    split
    · rename_i h1
      simp [rawF, h1]
    · rename_i h1
      have h2 : n / 128 < 128 ^ (f + 1) := Nat.div_lt_of_lt_mul (by rw [Nat.pow_succ, Nat.mul_comm] at h; exact h)
      have ih := rawF_num f (n / 128) r h2
      rw [List.cons_append, rawF, if_neg (by omega), ih]
      simp only
      rw [if_neg (by omega)]
      simp only [List.length_cons, Option.some.injEq, Prod.mk.injEq, and_true]
      omega
/-- What is read as a number is what it is written as. -/
theorem rawF_says : ∀ (f : Nat) (l : List Nat) (v k : Nat), (∀ b ∈ l, b < 256) → rawF (f + 1) l = some (v, k) → v < 128 ^ (f + 1) ∧ k = (numF f v).length ∧ ∃ r, l = numF f v ++ r
  | _, [], _, _, _, h => by simp [rawF] at h
  | 0, c :: r, v, k, _, h => by
    unfold rawF at h
    split at h
    · rename_i h1
      simp only [Option.some.injEq, Prod.mk.injEq] at h
      obtain ⟨rfl, rfl⟩ := h
      exact ⟨by simpa using h1, rfl, r, rfl⟩
    · simp [rawF] at h
  | f + 1, c :: r, v, k, hl, h => by
    unfold rawF at h
    split at h
    · rename_i h1
      simp only [Option.some.injEq, Prod.mk.injEq] at h
      obtain ⟨rfl, rfl⟩ := h
      refine ⟨?_, ?_, r, ?_⟩
      · have : 128 ≤ 128 ^ (f + 1 + 1) := by rw [Nat.pow_succ]; have := Nat.pow_pos (n := f + 1) (show 0 < 128 by omega); omega
        omega
      · unfold numF; rw [if_pos h1]; rfl
      · unfold numF; rw [if_pos h1]; rfl
    · rename_i h1
      cases hr : rawF (f + 1) r with
      | none => rw [hr] at h; simp at h
      | some p =>
        obtain ⟨v2, k2⟩ := p
        rw [hr] at h
        simp only at h
        split at h
        · cases h
        · rename_i h3
          simp only [Option.some.injEq, Prod.mk.injEq] at h
          obtain ⟨rfl, rfl⟩ := h
          obtain ⟨e1, e2, r2, e3⟩ := rawF_says f r v2 k2 (fun b hb => hl b (List.mem_cons_of_mem _ hb)) hr
          have hc : c < 256 := hl c (List.mem_cons_self ..)
          have hd : (c - 128 + 128 * v2) / 128 = v2 := by omega
          have hm : (c - 128 + 128 * v2) % 128 + 128 = c := by omega
          refine ⟨?_, ?_, r2, ?_⟩
          · rw [Nat.pow_succ]; omega
          · rw [numF, if_neg (by omega), hd, e2]; rfl
          · rw [numF, if_neg (by omega), hd, hm, List.cons_append, ← e3]
theorem next_num (n : Nat) (r : List Nat) (most : Int) (h1 : (n : Int) ≤ most) (h2 : n ≤ top) : next (num n ++ r) most = some (n, (num n).length) := by
  unfold next num
  rw [rawF_num 8 n r (by unfold top at h2; show n < 128 ^ 9; omega)]
  simp only
  rw [if_pos ⟨h1, h2⟩]
theorem next_says {l : List Nat} {most : Int} {v k : Nat} (hl : ∀ b ∈ l, b < 256) (h : next l most = some (v, k)) : (v : Int) ≤ most ∧ v ≤ top ∧ k = (num v).length ∧ ∃ r, l = num v ++ r := by
  unfold next at h
  cases hr : rawF 9 l with
  | none => rw [hr] at h; cases h
  | some p =>
    obtain ⟨v2, k2⟩ := p
    rw [hr] at h
    simp only at h
    split at h
    · rename_i h3
      simp only [Option.some.injEq, Prod.mk.injEq] at h
      obtain ⟨rfl, rfl⟩ := h
      obtain ⟨_, e2, e3⟩ := rawF_says 8 l v2 k2 hl hr
      exact ⟨h3.1, h3.2, e2, e3⟩
    · cases h
/-- A number that is cut is none. -/
theorem rawF_cut : ∀ (f n j : Nat), n < 128 ^ (f + 1) → j < (numF f n).length → rawF (f + 1) ((numF f n).take j) = none
  | 0, n, j, _, hj => by
    simp [numF] at hj
    subst hj
    rfl
  | f + 1, n, j, h, hj => by
    unfold numF at hj ⊢
    cases j with
    | zero => rfl
    | succ j =>
      split at hj
      · simp at hj
      · rename_i h1
        rw [if_neg h1]
        have h2 : n / 128 < 128 ^ (f + 1) := Nat.div_lt_of_lt_mul (by rw [Nat.pow_succ, Nat.mul_comm] at h; exact h)
        rw [List.take_succ_cons, rawF, if_neg (by omega), rawF_cut f (n / 128) j h2 (by simpa using hj)]
end WireMath
namespace WireMath

/-- Where a reader stands, and where its fault is. -/
structure At where
  at_ : Nat
  bad : Option Nat
def readNum (l : List Nat) (st : At) (most : Int) : Nat × At :=
  match st.bad with
  | some _ => (0, st)
  | none => match next (l.drop st.at_) most with
    | some (v, k) => (v, ⟨st.at_ + k, none⟩)
    | none => (0, ⟨st.at_, some st.at_⟩)
def readText (l : List Nat) (st : At) (most : Int) : List Nat × At :=
  match st.bad with
  | some _ => ([], st)
  | none => match (readNum l st most).2.bad with
    | some _ => ([], ⟨st.at_, some st.at_⟩)
    | none => if l.length < (readNum l st most).2.at_ + (readNum l st most).1 then ([], ⟨st.at_, some st.at_⟩)
      else ((l.drop (readNum l st most).2.at_).take (readNum l st most).1, ⟨(readNum l st most).2.at_ + (readNum l st most).1, none⟩)
def readFlag (l : List Nat) (st : At) : Bool × At := (decide ((readNum l st 1).1 = 1), (readNum l st 1).2)
def big : Nat := 1099511627776
/-- So many counts. -/
def readCounts (l : List Nat) : Nat → At → List Nat × At
  | 0, st => ([], st)
  | n + 1, st => ((readNum l st big).1 :: (readCounts l n (readNum l st big).2).1, (readCounts l n (readNum l st big).2).2)
/-- May a vector be? -/
def trimmed (v : List Int) (most : Int) : Bool := decide (v.length ≤ 16) && v.all (fun n => decide (0 ≤ n) && decide (n ≤ most)) && !(v.getLast? == some 0)
def readVec (l : List Nat) (st : At) : List Nat × At :=
  match st.bad with
  | some _ => ([], st)
  | none => match (readCounts l (readNum l st 16).1 (readNum l st 16).2).2.bad with
    | some _ => ([], ⟨st.at_, some st.at_⟩)
    | none => if trimmed ((readCounts l (readNum l st 16).1 (readNum l st 16).2).1.map Int.ofNat) big then readCounts l (readNum l st 16).1 (readNum l st 16).2
      else ([], ⟨st.at_, some st.at_⟩)
/-- Where the fault is, if it isn't read to its end. -/
def faultAt (l : List Nat) (st : At) : Option Nat :=
  match st.bad with
  | some b => some b
  | none => if st.at_ < l.length then some st.at_ else none

/-- A thing: k 0 a number, 1 a text, 2 a flag, 3 a vector. -/
structure Thing where
  k : Int
  n : Int
  s : List Nat
  b : Bool
  v : List Int
def vecBytes (v : List Int) : List Nat := num v.length ++ v.flatMap fun n => num n.toNat
def bytes (x : Thing) : Option (List Nat) :=
  if x.k = 1 then some (num x.s.length ++ x.s)
  else if x.k = 2 then some (num (if x.b then 1 else 0))
  else if x.k = 3 then if trimmed x.v top then some (vecBytes x.v) else none
  else if 0 ≤ x.n ∧ x.n ≤ top then some (num x.n.toNat) else none
/-- What has been put: the bytes, or the first fault with its place. -/
structure Put where
  out : List Nat
  bad : Option (Nat × Nat)
def put (p : Put) (x : Thing) : Put :=
  match p.bad with
  | some _ => p
  | none => match bytes x with
    | none => ⟨p.out, some (1, p.out.length)⟩
    | some b => if 65536 < p.out.length + b.length then ⟨p.out, some (3, p.out.length)⟩ else ⟨p.out ++ b, none⟩
def written (l : List Thing) : Put := l.foldl put ⟨[], none⟩

theorem put_stays (p : Put) (q : Nat × Nat) (h : p.bad = some q) : ∀ l : List Thing, l.foldl put p = p
  | [] => rfl
  | x :: r => by
    have : put p x = p := by unfold put; rw [h]
    rw [List.foldl_cons, this, put_stays p q h r]

/-- What k groups, of value n, and what is read behind them come to. -/
def comb (k n : Nat) : Option (Nat × Nat) → Option (Nat × Nat)
  | none => none
  | some (v, j) => if 0 < k ∧ v = 0 then none else some (n + 128 ^ k * v, k + j)
theorem comb_zero (x : Option (Nat × Nat)) : comb 0 0 x = x := by
  cases x with
  | none => rfl
  | some p => simp [comb]
theorem comb_go {l : List Nat} {k n c : Nat} (hk : k < 9) (hc : l[k]? = some c) (h : 128 ≤ c) (h2 : c < 256) :
    comb k n (rawF (9 - k) (l.drop k)) = comb (k + 1) (n + c % 128 * 128 ^ k) (rawF (9 - (k + 1)) (l.drop (k + 1))) := by
  have hlt : k < l.length := by
    rcases Nat.lt_or_ge k l.length with h | h
    · exact h
    · rw [List.getElem?_eq_none h] at hc; cases hc
  have hd : l.drop k = c :: l.drop (k + 1) := by
    rw [List.drop_eq_getElem_cons hlt]
    rw [List.getElem?_eq_getElem hlt] at hc
    rw [Option.some.inj hc]
  rw [hd, show 9 - k = (9 - (k + 1)) + 1 by omega, rawF, if_neg (by omega)]
  cases rawF (9 - (k + 1)) (l.drop (k + 1)) with
  | none => rfl
  | some p =>
    obtain ⟨v, j⟩ := p
    simp only
    by_cases hv : v = 0
    · rw [if_pos hv]
      simp [comb, hv]
    · rw [if_neg hv]
      unfold comb
      simp only
      rw [if_neg (by omega), if_neg (by omega)]
      have e : c % 128 = c - 128 := by omega
      rw [e, Nat.pow_succ, Nat.mul_add, Nat.add_assoc, Nat.mul_comm (c - 128), Nat.mul_assoc]
      congr 2
      omega
theorem comb_end {l : List Nat} {k n c : Nat} (hk : k < 9) (hc : l[k]? = some c) (h : c < 128) :
    comb k n (rawF (9 - k) (l.drop k)) = if 0 < k ∧ c = 0 then none else some (n + c % 128 * 128 ^ k, k + 1) := by
  have hlt : k < l.length := by
    rcases Nat.lt_or_ge k l.length with h | h
    · exact h
    · rw [List.getElem?_eq_none h] at hc; cases hc
  have hd : l.drop k = c :: l.drop (k + 1) := by
    rw [List.drop_eq_getElem_cons hlt]
    rw [List.getElem?_eq_getElem hlt] at hc
    rw [Option.some.inj hc]
  rw [hd, show 9 - k = (9 - (k + 1)) + 1 by omega, rawF, if_pos h]
  unfold comb
  simp only
  rw [Nat.mod_eq_of_lt h, Nat.mul_comm]
theorem comb_none {l : List Nat} {k n : Nat} (h : 9 ≤ k ∨ l.length ≤ k) : comb k n (rawF (9 - k) (l.drop k)) = none := by
  rcases h with h | h
  · rw [show 9 - k = 0 by omega]
    rfl
  · rw [List.drop_of_length_le h]
    cases 9 - k <;> rfl
theorem readNum_ok {l : List Nat} {a v k : Nat} {most : Int} (h : rawF 9 (l.drop a) = some (v, k)) (h1 : (v : Int) ≤ most) (h2 : v ≤ top) : readNum l ⟨a, none⟩ most = (v, ⟨a + k, none⟩) := by
  unfold readNum next
  simp only [h]
  rw [if_pos ⟨h1, h2⟩]
theorem readNum_none {l : List Nat} {a : Nat} {most : Int} (h : rawF 9 (l.drop a) = none) : readNum l ⟨a, none⟩ most = (0, ⟨a, some a⟩) := by
  unfold readNum next
  simp only [h]
theorem readNum_big {l : List Nat} {a v k : Nat} {most : Int} (h : rawF 9 (l.drop a) = some (v, k)) (h1 : ¬ ((v : Int) ≤ most ∧ v ≤ top)) : readNum l ⟨a, none⟩ most = (0, ⟨a, some a⟩) := by
  unfold readNum next
  simp only [h]
  rw [if_neg h1]
/-- A number that is read, or a fault. -/
theorem readNum_cases (l : List Nat) (a : Nat) (most : Int) (hl : ∀ b ∈ l, b < 256) (ha : a ≤ l.length) :
    (∃ v k, readNum l ⟨a, none⟩ most = (v, ⟨a + k, none⟩) ∧ a + k ≤ l.length ∧ v ≤ top ∧ (v : Int) ≤ most) ∨ readNum l ⟨a, none⟩ most = (0, ⟨a, some a⟩) := by
  cases h : next (l.drop a) most with
  | none =>
    right
    unfold readNum
    simp only [h]
  | some p =>
    obtain ⟨v, k⟩ := p
    left
    obtain ⟨h1, h2, h3, r, h4⟩ := next_says (fun b hb => hl b (List.mem_of_mem_drop hb)) h
    have h5 := congrArg List.length h4
    rw [List.length_drop, List.length_append] at h5
    refine ⟨v, k, ?_, by omega, h2, h1⟩
    unfold readNum
    simp only [h]
theorem trimmed_long {v : List Int} {most : Int} (h : 16 < v.length) : trimmed v most = false := by
  unfold trimmed
  rw [decide_eq_false (by omega), Bool.false_and, Bool.false_and]
theorem trimmed_bad {v : List Int} {most z : Int} {i : Nat} (hz : v[i]? = some z) (h : z < 0 ∨ most < z ∨ (i + 1 = v.length ∧ z = 0)) : trimmed v most = false := by
  unfold trimmed
  rcases h with h | h | ⟨h, h0⟩
  · have : v.all (fun n => decide (0 ≤ n) && decide (n ≤ most)) = false := by
      rw [Bool.eq_false_iff]
      intro ha
      rw [List.all_eq_true] at ha
      have := ha z (List.mem_of_getElem? hz)
      simp at this
      omega
    rw [this, Bool.and_false, Bool.false_and]
  · have : v.all (fun n => decide (0 ≤ n) && decide (n ≤ most)) = false := by
      rw [Bool.eq_false_iff]
      intro ha
      rw [List.all_eq_true] at ha
      have := ha z (List.mem_of_getElem? hz)
      simp at this
      omega
    rw [this, Bool.and_false, Bool.false_and]
  · have : (v.getLast? == some 0) = true := by
      rw [List.getLast?_eq_getElem?, show v.length - 1 = i by omega, hz, h0]
      rfl
    rw [this, Bool.not_true, Bool.and_false]
theorem trimmed_ok {v : List Int} {most : Int} (hl : v.length ≤ 16) (h : ∀ (i : Nat) (z : Int), v[i]? = some z → 0 ≤ z ∧ z ≤ most ∧ ¬ (i + 1 = v.length ∧ z = 0)) : trimmed v most = true := by
  unfold trimmed
  rw [decide_eq_true hl, Bool.true_and, Bool.and_eq_true]
  constructor
  · rw [List.all_eq_true]
    intro z hz
    obtain ⟨i, hi⟩ := List.getElem?_of_mem hz
    have := h i z hi
    simp
    omega
  · rw [Bool.not_eq_true']
    cases hv : v.getLast? with
    | none => rfl
    | some z =>
      rw [List.getLast?_eq_getElem?] at hv
      have hlt : v.length - 1 < v.length := by
        rcases Nat.lt_or_ge (v.length - 1) v.length with h1 | h1
        · exact h1
        · rw [List.getElem?_eq_none h1] at hv; cases hv
      have := h _ z hv
      have hz : z ≠ 0 := fun h0 => this.2.2 ⟨by omega, h0⟩
      simpa using hz
/-- A reader stays within its text. -/
theorem readNum_le (l : List Nat) (st : At) (most : Int) (hl : ∀ b ∈ l, b < 256) (ha : st.at_ ≤ l.length) : (readNum l st most).2.at_ ≤ l.length := by
  obtain ⟨a, bad⟩ := st
  cases bad with
  | some b => exact ha
  | none =>
    rcases readNum_cases l a most hl ha with ⟨v, k, h, hk, _⟩ | h
    · rw [h]; exact hk
    · rw [h]; exact ha
theorem readCounts_step (l : List Nat) (n : Nat) (st : At) : readCounts l (n + 1) st = ((readNum l st big).1 :: (readCounts l n (readNum l st big).2).1, (readCounts l n (readNum l st big).2).2) := rfl
theorem readCounts_len (l : List Nat) : ∀ (n : Nat) (st : At), (readCounts l n st).1.length = n
  | 0, _ => rfl
  | n + 1, st => by rw [readCounts_step]; simp [readCounts_len l n]
theorem readNum_top (l : List Nat) (st : At) (most : Int) (hm : 0 ≤ most) (hl : ∀ b ∈ l, b < 256) (ha : st.at_ ≤ l.length) : ((readNum l st most).1 : Int) ≤ most ∧ (readNum l st most).1 ≤ top := by
  obtain ⟨a, bad⟩ := st
  cases bad with
  | some b => exact ⟨hm, Nat.zero_le _⟩
  | none =>
    rcases readNum_cases l a most hl ha with ⟨v, k, h, hk, h1, h2⟩ | h
    · rw [h]; exact ⟨h2, h1⟩
    · rw [h]; exact ⟨hm, Nat.zero_le _⟩
end WireMath
namespace JournalMath
open TextNat BlockMath
structure Part where
  kind : Nat
  gen : Nat
  place : Nat
  text : List Nat
deriving DecidableEq
def payload (p : Part) : List Nat := WireMath.num p.kind ++ (WireMath.num p.gen ++ (WireMath.num p.place ++ (WireMath.num p.text.length ++ p.text)))
def sealP (p : Part) : List Nat := FrameMath.framed (payload p)
def big : Nat := 1099511627776
/-- The part that a payload is. -/
def readP (t : List Nat) : Option Part :=
  let k := WireMath.readNum t ⟨0, none⟩ big
  let g := WireMath.readNum t k.2 big
  let p := WireMath.readNum t g.2 big
  let x := WireMath.readText t p.2 4096
  if (WireMath.faultAt t x.2).isSome ∨ k.1 < 1 ∨ 4 < k.1 ∨ g.1 < 1 ∨ (k.1 ≠ 2 ∧ x.1 ≠ []) then none else some ⟨k.1, g.1, p.1, x.1⟩
/-- The part that stands at a place, and the place behind it. -/
def atP (l : List Nat) (i : Nat) : Option (Part × Nat) :=
  match FrameMath.stands (l.drop i) with
  | none => none
  | some t => (readP t).map fun p => (p, i + (FrameMath.framed t).length)
/-- Parts one behind the other, from a place on, and where they end. -/
def run (l : List Nat) : Nat → Nat → List Part × Nat
  | 0, i => ([], i)
  | f + 1, i => match atP l i with
    | none => ([], i)
    | some (p, n) => (p :: (run l f n).1, (run l f n).2)
def partsOf (l : List Nat) : List Part := (run l (l.length + 1) 0).1
def endOf (l : List Nat) : Nat := (run l (l.length + 1) 0).2
/-- Behind where they end, is there a part that says that all was safe ahead of a place behind that? -/
def corrupt (l : List Nat) : Bool := (List.range l.length).any fun i => decide (endOf l < i) && (match atP l i with | some (p, _) => decide (endOf l < p.place) | none => false)
def wholeF (g : Nat) : Bool → Nat → List Part → Bool
  | _, ends, [] => ends == 1
  | first, ends, p :: r => if p.gen = g ∧ (p.kind = 1 ↔ first = true) ∧ ¬ (p.kind = 4 ∧ ends = 0) then wholeF g false (ends + if p.kind = 3 then 1 else 0) r else false
def whole (l : List Part) : Bool := wholeF ((l.head?.map Part.gen).getD 0) true 0 l
def genOf : List Part → Nat
  | [] => 0
  | p :: _ => if p.kind = 1 then p.gen else 0
def recs (l : List Part) : List (List Nat) := l.filterMap fun p => if p.kind = 2 then some p.text else none
/-- A Sync, a Mark, a Sync. -/
def marks (d : Dk) (gen : Nat) : Int × Dk :=
  if (sync d).1 ≠ 0 then sync d
  else if (append (txt (sealP ⟨4, gen, (sync d).2.done.size, []⟩)) (sync d).2).1 ≠ 0 then append (txt (sealP ⟨4, gen, (sync d).2.done.size, []⟩)) (sync d).2
  else sync (append (txt (sealP ⟨4, gen, (sync d).2.done.size, []⟩)) (sync d).2).2
/-- What was written goes, where there was no room. -/
def undo (c : Nat) (r : Int × Dk) : Int × Dk :=
  if r.1 = 4 then (if (cut c r.2).1 ≠ 0 then (cut c r.2).1 else 4, (cut c r.2).2) else r
def write (d : Dk) (gen c : Nat) (t : List Nat) : Int × Dk :=
  undo c (if (append (txt t) d).1 = 0 then marks (append (txt t) d).2 gen else append (txt t) d)
def enc (l : List Part) : List Nat := l.flatMap sealP
def recordsP (gen place : Nat) (l : List (List Nat)) : List Part := l.map fun t => ⟨2, gen, place, t⟩
def long (l : List (List Nat)) : Bool := l.any fun t => decide (4096 < t.length)
/-- Two devices, which is the present one (false: the first), the generation, whether all is over. -/
structure Jn where
  a : Dk
  b : Dk
  now : Bool
  gen : Nat
  over : Bool
def Jn.cur (j : Jn) : Dk := if j.now then j.b else j.a
def Jn.spare (j : Jn) : Dk := if j.now then j.a else j.b
def Jn.setCur (j : Jn) (d : Dk) : Jn := if j.now then { j with b := d } else { j with a := d }
def Jn.setSpare (j : Jn) (d : Dk) : Jn := if j.now then { j with a := d } else { j with b := d }
def Jn.ends (j : Jn) (e : Int) : Jn := { j with over := j.over || (decide (e ≠ 0) && decide (e ≠ 4)) }
def put (l : List (List Nat)) (j : Jn) : Int × Jn :=
  if j.over then (5, j)
  else if l.length = 0 then (0, j)
  else if 400 < l.length ∨ long l = true then (3, j)
  else ((write j.cur j.gen (all j.cur).size (enc (recordsP j.gen j.cur.done.size l))).1, (j.setCur (write j.cur j.gen (all j.cur).size (enc (recordsP j.gen j.cur.done.size l))).2).ends (write j.cur j.gen (all j.cur).size (enc (recordsP j.gen j.cur.done.size l))).1)
/-- What Start writes. -/
def anew (gen : Nat) (l : List (List Nat)) : List Part := ⟨1, gen, 0, []⟩ :: (recordsP gen 0 l ++ [⟨3, gen, 0, []⟩])
def start (l : List (List Nat)) (j : Jn) : Int × Jn :=
  if j.over then (5, j)
  else if big ≤ j.gen ∨ long l = true then (3, j)
  else if (cut 0 j.spare).1 ≠ 0 then ((cut 0 j.spare).1, (j.setSpare (cut 0 j.spare).2).ends (cut 0 j.spare).1)
  else if (write (cut 0 j.spare).2 (j.gen + 1) 0 (enc (anew (j.gen + 1) l))).1 = 0 then (0, { j.setSpare (write (cut 0 j.spare).2 (j.gen + 1) 0 (enc (anew (j.gen + 1) l))).2 with now := !j.now, gen := j.gen + 1 })
  else ((write (cut 0 j.spare).2 (j.gen + 1) 0 (enc (anew (j.gen + 1) l))).1, (j.setSpare (write (cut 0 j.spare).2 (j.gen + 1) 0 (enc (anew (j.gen + 1) l))).2).ends (write (cut 0 j.spare).2 (j.gen + 1) 0 (enc (anew (j.gen + 1) l))).1)
/-- How many parts there are up to the last Mark; 0: there is none. -/
def sealedN : List Part → Nat
  | [] => 0
  | p :: r => if sealedN r = 0 then (if p.kind = 4 then 1 else 0) else sealedN r + 1
/-- Where so many parts end. -/
def placeOf (l : List Part) (n : Nat) : Nat := (enc (l.take n)).length
/-- What Open does to the present device: the error, the parts that are told, the device. -/
def settle (d : Dk) (gen : Nat) (l : List Part) (e : Nat) : Int × List Part × Dk :=
  let c : Int × Dk := if e < (all d).size then cut e d else (0, d)
  if c.1 ≠ 0 then (c.1, l, c.2)
  else if (l.getLast?.map Part.kind) = some 4 then (0, l, c.2)
  else if (marks c.2 gen).1 ≠ 4 then ((marks c.2 gen).1, l, (marks c.2 gen).2)
  else if sealedN l = 0 then (0, l, (marks c.2 gen).2)
  else ((cut (placeOf l (sealedN l)) (marks c.2 gen).2).1, l.take (sealedN l), (cut (placeOf l (sealedN l)) (marks c.2 gen).2).2)
/-- Open: the error, the records, the two devices and what the journal is. -/
def opened (a b : Dk) : Int × List (List Nat) × Jn :=
  let x := nats (all a)
  let y := nats (all b)
  let xw := !corrupt x && whole (partsOf x)
  let yw := !corrupt y && whole (partsOf y)
  if a.off ∨ b.off then (5, [], ⟨a, b, false, 0, true⟩)
  else if (corrupt x ∧ ¬ (0 < genOf (partsOf x) ∧ yw ∧ genOf (partsOf x) < genOf (partsOf y))) ∨ (corrupt y ∧ ¬ (0 < genOf (partsOf y) ∧ xw ∧ genOf (partsOf y) < genOf (partsOf x))) then (6, [], ⟨a, b, false, 0, true⟩)
  else if xw = false ∧ yw = false then ((start [] ⟨a, b, false, 0, false⟩).1, [], (start [] ⟨a, b, false, 0, false⟩).2)
  else if xw = false ∨ (yw = true ∧ genOf (partsOf x) < genOf (partsOf y)) then
    ((settle b (genOf (partsOf y)) (partsOf y) (endOf y)).1, recs (settle b (genOf (partsOf y)) (partsOf y) (endOf y)).2.1, ⟨a, (settle b (genOf (partsOf y)) (partsOf y) (endOf y)).2.2, true, genOf (partsOf y), false⟩)
  else ((settle a (genOf (partsOf x)) (partsOf x) (endOf x)).1, recs (settle a (genOf (partsOf x)) (partsOf x) (endOf x)).2.1, ⟨(settle a (genOf (partsOf x)) (partsOf x) (endOf x)).2.2, b, false, genOf (partsOf x), false⟩)
end JournalMath
namespace JournalMath
open TextNat BlockMath FrameMath
structure Valid (p : Part) : Prop where
  k1 : 1 ≤ p.kind
  k4 : p.kind ≤ 4
  g1 : 1 ≤ p.gen
  gb : p.gen ≤ big
  pb : p.place ≤ big
  tl : p.text.length ≤ 4096
  tb : Oct p.text
  te : p.kind ≠ 2 → p.text = []
theorem Valid.len {p : Part} (h : Valid p) : (payload p).length ≤ 8192 := by
  unfold payload
  rw [List.length_append, List.length_append, List.length_append, List.length_append]
  have := WireMath.num_len p.kind
  have := WireMath.num_len p.gen
  have := WireMath.num_len p.place
  have := WireMath.num_len p.text.length
  have := h.tl
  omega
theorem Valid.oct {p : Part} (h : Valid p) : Oct (payload p) := by
  unfold payload
  have hk := h.k4
  have hg := h.gb
  have hp := h.pb
  have ht := h.tl
  unfold big at hg hp
  refine Oct.append (WireMath.num_lt _ (by omega)) (Oct.append (WireMath.num_lt _ (by omega)) (Oct.append (WireMath.num_lt _ (by omega)) (Oct.append (WireMath.num_lt _ (by omega)) h.tb)))
theorem readNum_at {l r : List Nat} {i n : Nat} {most : Int} (h : l.drop i = WireMath.num n ++ r) (h1 : (n : Int) ≤ most) (h2 : n ≤ WireMath.top) :
    WireMath.readNum l ⟨i, none⟩ most = (n, ⟨i + (WireMath.num n).length, none⟩) := by
  unfold WireMath.readNum
  simp only [h, WireMath.next_num n r most h1 h2]
theorem drop_more {l a r : List Nat} {i : Nat} (h : l.drop i = a ++ r) : l.drop (i + a.length) = r := by
  rw [← List.drop_drop, h, List.drop_left' rfl]
/-- A part's payload is read as that part. -/
theorem readP_payload {p : Part} (h : Valid p) : readP (payload p) = some p := by
  have e0 : (payload p).drop 0 = WireMath.num p.kind ++ (WireMath.num p.gen ++ (WireMath.num p.place ++ (WireMath.num p.text.length ++ p.text))) := rfl
  have e1 := drop_more e0
  have e2 := drop_more e1
  have e3 := drop_more e2
  have e4 := drop_more e3
  have hk := h.k4
  have hg := h.gb
  have hp := h.pb
  have ht := h.tl
  unfold big at hg hp
  have r0 := readNum_at (most := (big : Int)) e0 (by unfold big; omega) (by unfold WireMath.top; omega)
  have r1 := readNum_at (most := (big : Int)) e1 (by unfold big; omega) (by unfold WireMath.top; omega)
  have r2 := readNum_at (most := (big : Int)) e2 (by unfold big; omega) (by unfold WireMath.top; omega)
  have r3 := readNum_at (most := (4096 : Int)) e3 (by omega) (by unfold WireMath.top; omega)
  generalize hj : 0 + (WireMath.num p.kind).length + (WireMath.num p.gen).length + (WireMath.num p.place).length + (WireMath.num p.text.length).length = j at *
  have hl : (payload p).length = j + p.text.length := by
    rw [← hj]
    unfold payload
    simp only [List.length_append]
    omega
  have rt : WireMath.readText (payload p) ⟨0 + (WireMath.num p.kind).length + (WireMath.num p.gen).length + (WireMath.num p.place).length, none⟩ 4096 = (p.text, ⟨j + p.text.length, none⟩) := by
    unfold WireMath.readText
    simp only [r3]
    rw [if_neg (by omega), e4, List.take_of_length_le (Nat.le_refl _)]
  unfold readP
  simp only [r0, r1, r2, rt]
  rw [if_neg]
  have hf : WireMath.faultAt (payload p) ⟨j + p.text.length, none⟩ = none := by
    unfold WireMath.faultAt
    simp only []
    rw [if_neg (by omega)]
  rw [hf]
  have := h.k1
  have := h.g1
  rintro (h1 | h1 | h1 | h1 | ⟨h1, h2⟩)
  · cases h1
  · omega
  · omega
  · omega
  · exact h2 (h.te h1)
theorem stands_seal {p : Part} (h : Valid p) (r : List Nat) : stands (sealP p ++ r) = some (payload p) := stands_framed h.len h.oct r
theorem drop_pre (a b : List Nat) : (a ++ b).drop a.length = b := List.drop_left' rfl
/-- A part that stands behind other bytes. -/
theorem atP_seal {p : Part} (h : Valid p) (a r : List Nat) : atP (a ++ (sealP p ++ r)) a.length = some (p, a.length + (sealP p).length) := by
  unfold atP
  rw [drop_pre, stands_seal h]
  simp only [readP_payload h]
  rfl
theorem enc_cons (p : Part) (l : List Part) : enc (p :: l) = sealP p ++ enc l := rfl
theorem enc_append (a b : List Part) : enc (a ++ b) = enc a ++ enc b := by unfold enc; rw [List.flatMap_append]
theorem seal_len (p : Part) : 21 ≤ (sealP p).length := by
  unfold sealP
  rw [framed_len]
  omega
theorem enc_len : ∀ l : List Part, 21 * l.length ≤ (enc l).length
  | [] => Nat.le_refl _
  | p :: r => by
    rw [enc_cons, List.length_append, List.length_cons]
    have := enc_len r
    have := seal_len p
    omega
theorem run_enc : ∀ (ps : List Part), (∀ p ∈ ps, Valid p) → ∀ (a r : List Nat) (f : Nat), run (a ++ (enc ps ++ r)) (ps.length + f) a.length = (ps ++ (run (a ++ (enc ps ++ r)) f (a.length + (enc ps).length)).1, (run (a ++ (enc ps ++ r)) f (a.length + (enc ps).length)).2)
  | [], _, a, r, f => by
    show run _ (0 + f) _ = ([] ++ (run _ f (a.length + 0)).1, _)
    rw [Nat.zero_add]
    rfl
  | p :: ps, hv, a, r, f => by
    have ih := run_enc ps (fun q hq => hv q (by simp [hq])) (a ++ sealP p) r f
    rw [List.length_append] at ih
    have hl : a ++ (enc (p :: ps) ++ r) = (a ++ sealP p) ++ (enc ps ++ r) := by rw [enc_cons, List.append_assoc, List.append_assoc]
    have hat := atP_seal (hv p (by simp)) a (enc ps ++ r)
    rw [show a ++ (sealP p ++ (enc ps ++ r)) = (a ++ sealP p) ++ (enc ps ++ r) by rw [List.append_assoc]] at hat
    rw [hl, show (p :: ps).length + f = (ps.length + f) + 1 by rw [List.length_cons]; omega, run, hat]
    simp only [ih]
    rw [enc_cons, List.length_append, Nat.add_assoc]
    rfl
/-- What is read of parts with something behind them at which no part stands. -/
theorem run_parts {ps : List Part} (hv : ∀ p ∈ ps, Valid p) {r : List Nat} (hr : atP (enc ps ++ r) (enc ps).length = none) : partsOf (enc ps ++ r) = ps ∧ endOf (enc ps ++ r) = (enc ps).length := by
  have hl := enc_len ps
  obtain ⟨f, hf⟩ : ∃ f, (enc ps ++ r).length + 1 = ps.length + (f + 1) := ⟨(enc ps ++ r).length - ps.length, by rw [List.length_append]; omega⟩
  have h := run_enc ps hv [] r (f + 1)
  simp only [List.nil_append, List.length_nil, Nat.zero_add] at h
  have h2 : run (enc ps ++ r) (f + 1) (enc ps).length = ([], (enc ps).length) := by rw [run, hr]
  unfold partsOf endOf
  rw [hf, h, h2]
  exact ⟨List.append_nil _, rfl⟩
theorem corrupt_no {l : List Nat} (h : ∀ i p n, endOf l < i → atP l i = some (p, n) → p.place ≤ endOf l) : corrupt l = false := by
  unfold corrupt
  rw [Bool.eq_false_iff]
  intro hc
  rw [List.any_eq_true] at hc
  obtain ⟨i, _, hi⟩ := hc
  rw [Bool.and_eq_true, decide_eq_true_eq] at hi
  obtain ⟨h1, h2⟩ := hi
  cases hat : atP l i with
  | none => rw [hat] at h2; cases h2
  | some x =>
    obtain ⟨p, n⟩ := x
    rw [hat] at h2
    simp only [decide_eq_true_eq] at h2
    have := h i p n h1 hat
    omega
theorem corrupt_yes {l : List Nat} {i n : Nat} {p : Part} (hi : endOf l < i) (hl : i < l.length) (h : atP l i = some (p, n)) (hp : endOf l < p.place) : corrupt l = true := by
  unfold corrupt
  rw [List.any_eq_true]
  refine ⟨i, List.mem_range.2 hl, ?_⟩
  rw [decide_eq_true hi, h]
  simpa using hp
/-- Bytes of which some are lost. -/
def Lossy (r e : List Nat) : Prop := r.length ≤ e.length ∧ ∀ (i z c : Nat), r[i]? = some z → e[i]? = some c → z = c ∨ z = 0
theorem Lossy.drop {r e : List Nat} (h : Lossy r e) (n : Nat) : Lossy (r.drop n) (e.drop n) := by
  refine ⟨by rw [List.length_drop, List.length_drop]; have := h.1; omega, fun i z c hz hc => ?_⟩
  rw [List.getElem?_drop] at hz hc
  exact h.2 _ z c hz hc
theorem seal_ones {p : Part} (h : Valid p) {i : Nat} (hi : (sealP p)[i]? = some 1) : i = 0 := by
  match i, hi with
  | 0, _ => rfl
  | i + 1, hi =>
    have : (nibs (FrameMath.rawF (payload p)))[i]? = some 1 := hi
    have := nibs_mem (rawF_bytes (by have := h.len; omega) h.oct) 1 (List.mem_of_getElem? this)
    omega
/-- A byte 1 stands at a part's beginning. -/
theorem enc_ones : ∀ (qs : List Part), (∀ q ∈ qs, Valid q) → ∀ i, (enc qs)[i]? = some 1 → ∃ j, j < qs.length ∧ i = (enc (qs.take j)).length
  | [], _, i, h => by cases h
  | q :: qs, hv, i, h => by
    rw [enc_cons] at h
    by_cases hi : i < (sealP q).length
    · rw [List.getElem?_append_left hi] at h
      refine ⟨0, by simp, ?_⟩
      rw [seal_ones (hv q (by simp)) h]
      rfl
    · rw [List.getElem?_append_right (by omega)] at h
      obtain ⟨j, hj, he⟩ := enc_ones qs (fun x hx => hv x (by simp [hx])) _ h
      refine ⟨j + 1, by rw [List.length_cons]; omega, ?_⟩
      rw [List.take_succ_cons, enc_cons, List.length_append]
      omega
theorem enc_drop (qs : List Part) (j : Nat) : (enc qs).drop (enc (qs.take j)).length = enc (qs.drop j) := by
  have : enc qs = enc (qs.take j) ++ enc (qs.drop j) := by rw [← enc_append, List.take_append_drop]
  rw [this, drop_pre]
theorem framed_some (t : List Nat) (bt : Oct t) (hl : t.length ≤ 8192) : ∀ b ∈ framed t, b ≠ 0 := by
  intro b hb
  rcases framed_mem (by omega) bt b hb with h | h <;> omega
theorem enc_oct {qs : List Part} (hv : ∀ q ∈ qs, Valid q) : Oct (enc qs) := by
  intro b hb
  unfold enc at hb
  obtain ⟨q, hq, hb⟩ := List.mem_flatMap.1 hb
  rcases framed_mem (by have := (hv q hq).len; omega) (hv q hq).oct b hb with h | h <;> omega
theorem Lossy.oct {r e : List Nat} (h : Lossy r e) (he : Oct e) : Oct r := by
  intro b hb
  obtain ⟨i, hi⟩ := List.getElem?_of_mem hb
  have hl := (List.getElem?_eq_some_iff.1 hi).1
  have hc : e[i]? = some (e[i]'(by have := h.1; omega)) := List.getElem?_eq_getElem _
  rcases h.2 i b _ hi hc with h1 | h1
  · rw [h1]
    exact he _ (List.getElem_mem _)
  · omega
/-- What stands in bytes of which some are lost stood there before. -/
theorem lossy_stands {qs : List Part} (hv : ∀ q ∈ qs, Valid q) {r : List Nat} (h : Lossy r (enc qs)) {i : Nat} {t : List Nat} (ht : stands (r.drop i) = some t) :
    ∃ j, ∃ hj : j < qs.length, i = (enc (qs.take j)).length ∧ t = payload (qs[j]'hj) := by
  obtain ⟨m, hm, htl⟩ := stands_is ht
  have hro := h.oct (enc_oct hv)
  have bt : Oct t := stands_bytes ht fun b hb => hro b (List.mem_of_mem_drop hb)
  have hi : i < r.length := by
    have := congrArg List.length hm
    rw [List.length_drop, List.length_append, framed_len] at this
    omega
  have hpre : ∀ x z : Nat, (framed t)[x]? = some z → (enc qs)[i + x]? = some z := by
    intro x z hz
    have hx := (List.getElem?_eq_some_iff.1 hz).1
    have hr : r[i + x]? = some z := by
      rw [← List.getElem?_drop, hm, List.getElem?_append_left hx]
      exact hz
    have hrl := (List.getElem?_eq_some_iff.1 hr).1
    have hc : (enc qs)[i + x]? = some ((enc qs)[i + x]'(by have := h.1; omega)) := List.getElem?_eq_getElem _
    rcases h.2 _ _ _ hr hc with h1 | h1
    · rw [hc, ← h1]
    · exact absurd h1 (framed_some t bt htl z (List.mem_of_getElem? hz))
  obtain ⟨j, hj, hij⟩ := enc_ones qs hv i (hpre 0 1 rfl)
  refine ⟨j, hj, hij, ?_⟩
  have hd : (enc qs).drop i = sealP qs[j] ++ enc (qs.drop (j + 1)) := by
    rw [hij, enc_drop, List.drop_eq_getElem_cons hj]
    rfl
  have he : (enc qs).drop i = framed t ++ ((enc qs).drop i).drop (framed t).length := by
    have htk : ((enc qs).drop i).take (framed t).length = framed t := by
      apply List.ext_getElem?
      intro x
      rw [List.getElem?_take]
      split
      · rename_i hx
        rw [List.getElem?_drop, List.getElem?_eq_getElem hx]
        exact hpre x _ (List.getElem?_eq_getElem hx)
      · rename_i hx
        rw [List.getElem?_eq_none (by omega)]
    conv => lhs; rw [← List.take_append_drop (framed t).length ((enc qs).drop i)]
    rw [htk]
  have hq := hv qs[j] (List.getElem_mem hj)
  rw [he] at hd
  exact framed_one htl hq.len bt hq.oct hd
theorem lossy_at {qs : List Part} (hv : ∀ q ∈ qs, Valid q) {r : List Nat} (h : Lossy r (enc qs)) {i n : Nat} {p : Part} (hp : atP r i = some (p, n)) : p ∈ qs := by
  unfold atP at hp
  cases ht : stands (r.drop i) with
  | none => rw [ht] at hp; cases hp
  | some t =>
    rw [ht] at hp
    obtain ⟨j, hj, _, rfl⟩ := lossy_stands hv h ht
    simp only [readP_payload (hv _ (List.getElem_mem hj)), Option.map_some, Option.some.injEq, Prod.mk.injEq] at hp
    rw [← hp.1]
    exact List.getElem_mem hj
/-- Of parts of which bytes are lost the first ones are there as they were, and behind them none stands. -/
theorem lossy_split : ∀ {qs : List Part}, (∀ q ∈ qs, Valid q) → ∀ {r : List Nat}, Lossy r (enc qs) → ∃ k r', k ≤ qs.length ∧ r = enc (qs.take k) ++ r' ∧ Lossy r' (enc (qs.drop k)) ∧ stands r' = none
  | [], _, r, h => by
    have : r = [] := List.eq_nil_of_length_eq_zero (by have := h.1; simpa [enc] using this)
    subst this
    exact ⟨0, [], Nat.le_refl _, rfl, h, rfl⟩
  | q :: qs, hv, r, h => by
    cases hs : stands r with
    | none => exact ⟨0, r, Nat.zero_le _, rfl, h, hs⟩
    | some t =>
      obtain ⟨j, hj, hij, ht⟩ := lossy_stands hv h (i := 0) (by rw [List.drop_zero]; exact hs)
      have hj0 : j = 0 := by
        match j, hij with
        | 0, _ => rfl
        | j + 1, hij =>
          rw [List.take_succ_cons, enc_cons, List.length_append] at hij
          have := seal_len q
          omega
      subst hj0
      obtain ⟨m, hm, _⟩ := stands_is hs
      have hm2 : r = sealP q ++ m := by rw [hm, ht]; rfl
      have hd := h.drop (sealP q).length
      rw [hm2, drop_pre, enc_cons, drop_pre] at hd
      obtain ⟨k, r', hk, he, hl, hn⟩ := lossy_split (fun x hx => hv x (by simp [hx])) hd
      refine ⟨k + 1, r', by rw [List.length_cons]; omega, ?_, hl, hn⟩
      rw [hm2, he, List.take_succ_cons, enc_cons, List.append_assoc]
/-- What some bytes tell of which those at the end may be lost, if no part there says more than that what was ahead of it was safe. -/
theorem look_lossy {ps qs : List Part} (hp : ∀ p ∈ ps, Valid p) (hq : ∀ q ∈ qs, Valid q) (hpl : ∀ q ∈ qs, q.place ≤ (enc ps).length) {r : List Nat} (h : Lossy r (enc qs)) :
    ∃ k, k ≤ qs.length ∧ partsOf (enc ps ++ r) = ps ++ qs.take k ∧ endOf (enc ps ++ r) = (enc (ps ++ qs.take k)).length ∧ corrupt (enc ps ++ r) = false ∧ ∃ r', enc ps ++ r = enc (ps ++ qs.take k) ++ r' ∧ (k = qs.length → r' = []) := by
  obtain ⟨k, r', hk, he, hl, hn⟩ := lossy_split hq h
  have hall : enc ps ++ r = enc (ps ++ qs.take k) ++ r' := by rw [he, enc_append, List.append_assoc]
  have hv : ∀ p ∈ ps ++ qs.take k, Valid p := fun p hp' => by
    rcases List.mem_append.1 hp' with h1 | h1
    · exact hp p h1
    · exact hq p (List.mem_of_mem_take h1)
  have hnone : atP (enc (ps ++ qs.take k) ++ r') (enc (ps ++ qs.take k)).length = none := by
    unfold atP
    rw [drop_pre, hn]
  obtain ⟨h1, h2⟩ := run_parts hv hnone
  refine ⟨k, hk, by rw [hall]; exact h1, by rw [hall]; exact h2, ?_, r', hall, fun hkl => ?_⟩
  · rw [hall]
    apply corrupt_no
    intro i p n hi hat
    rw [h2] at hi ⊢
    obtain ⟨x, rfl⟩ : ∃ x, i = (enc (ps ++ qs.take k)).length + x := ⟨i - (enc (ps ++ qs.take k)).length, by omega⟩
    have hat2 : ∃ n', atP r' x = some (p, n') := by
      unfold atP at hat ⊢
      rw [← List.drop_drop, drop_pre] at hat
      cases hs : stands (r'.drop x) with
      | none => rw [hs] at hat; cases hat
      | some t =>
        rw [hs] at hat
        simp only at hat ⊢
        cases hrp : readP t with
        | none => rw [hrp] at hat; cases hat
        | some y =>
          rw [hrp] at hat
          simp only [Option.map_some, Option.some.injEq, Prod.mk.injEq] at hat
          exact ⟨_, by rw [Option.map_some, hat.1]⟩
    obtain ⟨n', hat2⟩ := hat2
    have hmem := lossy_at (fun q hq' => hq q (List.mem_of_mem_drop hq')) hl hat2
    have := hpl p (List.mem_of_mem_drop hmem)
    rw [enc_append, List.length_append]
    omega
  · have h3 := hl.1
    rw [hkl, List.drop_length] at h3
    exact List.eq_nil_of_length_eq_zero (by simpa [enc] using h3)
end JournalMath
namespace BlockMath
open TextNat
theorem nats_extract (s : ByteArray) (n : Nat) : nats (s.extract 0 n) = (nats s).take n := by
  unfold nats
  rw [← List.map_take]
  congr 1
  simp [ByteArray.data_extract]
theorem left_or (mask : ByteArray) (i c : Nat) : left mask i c = c ∨ left mask i c = 0 := by
  unfold left
  split
  · exact Or.inl rfl
  · split
    · exact Or.inr rfl
    · exact Or.inl rfl
theorem kept_at {l mask : ByteArray} {n i c : Nat} (hn : i < n) (hc : (nats l)[i]? = some c) : (kept l mask n)[i]? = some (left mask i c) := by
  unfold kept
  rw [List.getElem?_map, List.getElem?_zipIdx, List.getElem?_take, if_pos hn, hc]
  simp
theorem kept_lt (l mask : ByteArray) (n : Nat) : ∀ b ∈ kept l mask n, b < 256 := by
  intro b hb
  unfold kept at hb
  obtain ⟨⟨c, i⟩, h1, rfl⟩ := List.mem_map.1 hb
  have h2 : c ∈ nats l := by
    have := List.fst_mem_of_mem_zipIdx h1
    exact List.mem_of_mem_take this
  have h3 := nats_lt l c h2
  rcases left_or mask i c with h | h
  · show left mask i c < 256
    omega
  · show left mask i c < 256
    omega
theorem kept_nil (l : ByteArray) (n : Nat) : kept l ByteArray.empty n = (nats l).take n := by
  unfold kept
  apply List.ext_getElem?
  intro i
  rw [List.getElem?_map, List.getElem?_zipIdx]
  cases h : ((nats l).take n)[i]? with
  | none => simp
  | some c => simp [left]
theorem txt_take (l : ByteArray) (n : Nat) : txt ((nats l).take n) = l.extract 0 n := by
  rw [← nats_extract, txt_nats]
theorem take_left (a b : ByteArray) : (a ++ b).extract 0 a.size = a := ByteArray.extract_append_eq_left rfl
theorem take_right (a b : ByteArray) : (a ++ b).extract a.size (a ++ b).size = b := ByteArray.extract_append_eq_right rfl (by rw [ByteArray.size_append])
/-- The power is on, there is no fuse, and all the room. -/
structure On (d : Dk) : Prop where
  off : d.off = false
  fuse : d.fuse = -1
  room : d.room = 1048576
theorem On.new : On (new 1048576) := ⟨rfl, rfl, rfl⟩
theorem On.append {d : Dk} (h : On d) {s : ByteArray} (hs : (all d).size + s.size ≤ 1048576) : BlockMath.append s d = (0, { d with late := d.late ++ s }) := append_in h.off h.fuse (by rw [h.room]; omega)
theorem On.app {d : Dk} (h : On d) (s : ByteArray) : On { d with late := d.late ++ s } := ⟨h.off, h.fuse, h.room⟩
theorem app_size (d : Dk) (s : ByteArray) : (all { d with late := d.late ++ s }).size = (all d).size + s.size := by
  rw [all_size, all_size]
  show d.done.size + (d.late ++ s).size = _
  rw [ByteArray.size_append]
  omega
theorem On.cut {d : Dk} (h : On d) (n : Int) : On (cut n d).2 ∧ (all (cut n d).2).size ≤ (all d).size := by
  unfold BlockMath.cut
  split
  · exact ⟨h, Nat.le_refl _⟩
  · rw [if_pos (doesB_on h.off h.fuse), doesD_on h.off h.fuse]
    show On (cutD n.toNat d) ∧ _
    unfold cutD
    split
    · refine ⟨⟨h.off, h.fuse, h.room⟩, ?_⟩
      rw [all_size, all_size]
      show (d.done.extract 0 _).size + 0 ≤ _
      rw [ByteArray.size_extract]
      omega
    · refine ⟨⟨h.off, h.fuse, h.room⟩, ?_⟩
      rw [all_size, all_size]
      show d.done.size + (d.late.extract 0 _).size ≤ _
      rw [ByteArray.size_extract]
      omega
theorem On.sync {d : Dk} (h : On d) : BlockMath.sync d = (0, ⟨all d, ByteArray.empty, d.room, d.fuse, d.off⟩) := sync_in h.off h.fuse
theorem On.is {d : Dk} (h : On d) : BlockMath.sync d = (0, ⟨all d, ByteArray.empty, 1048576, -1, false⟩) := by rw [h.sync, h.room, h.fuse, h.off]
/-- A device that is on, with all the room. -/
abbrev dk (v l : ByteArray) : Dk := ⟨v, l, 1048576, -1, false⟩
theorem dk_size (v : ByteArray) : size (dk v ByteArray.empty) = (v.size : Int) := by
  rw [size_on rfl]
  show ((v ++ ByteArray.empty).size : Int) = _
  rw [ba_end]
theorem dk_read (v : ByteArray) : read 0 (v.size : Int) (dk v ByteArray.empty) = (v, 0) := by
  have := read_on (d := dk v ByteArray.empty) rfl
  rw [dk_size] at this
  rw [this]
  show ((v ++ ByteArray.empty, (0 : Int)) : ByteArray × Int) = _
  rw [ba_end]
theorem dk_append {v l : ByteArray} (h : v.size + l.size ≤ 1048576) : append l (dk v ByteArray.empty) = (0, dk v l) := by
  rw [append_in rfl rfl (by rw [← size_on (d := dk v ByteArray.empty) rfl, dk_size]; show _ ≤ (1048576 : Int); omega)]
  show (0, dk v (ByteArray.empty ++ l)) = _
  rw [ba_nil]
/-- What is there behind the crash. -/
def rest (late mask : ByteArray) (k : Int) : ByteArray := txt (kept late mask (k % ((late.size : Int) + 1)).toNat)
theorem rest_le (late mask : ByteArray) (k : Int) : (rest late mask k).size ≤ late.size := by
  have h := stays_le k ⟨ByteArray.empty, late, 0, 0, false⟩
  unfold stays at h
  unfold rest
  rw [txt_len, kept_len _ _ h]
  exact h
theorem rest_at (late mask : ByteArray) (k : Int) {i c : Nat} (hi : i < (rest late mask k).size) (hc : (nats late)[i]? = some c) : ∃ x, (nats (rest late mask k))[i]? = some x ∧ (x = c ∨ x = 0) := by
  have h := stays_le k ⟨ByteArray.empty, late, 0, 0, false⟩
  unfold stays at h
  unfold rest at *
  rw [txt_len, kept_len _ _ h] at hi
  rw [nats_txt _ (kept_lt _ _ _), kept_at hi hc]
  exact ⟨_, rfl, left_or _ _ _⟩
theorem rest_nil (late : ByteArray) (k : Int) : rest late ByteArray.empty k = late.extract 0 (rest late ByteArray.empty k).size := by
  have h := stays_le k ⟨ByteArray.empty, late, 0, 0, false⟩
  unfold stays at h
  have h2 : (rest late ByteArray.empty k).size = (k % ((late.size : Int) + 1)).toNat := by
    unfold rest
    rw [txt_len, kept_len _ _ h]
  rw [h2]
  unfold rest
  rw [kept_nil, txt_take]
theorem crash_is (k : Int) (mask : ByteArray) (d : Dk) : crash k mask d = ⟨d.done ++ rest d.late mask k, ByteArray.empty, d.room, -1, false⟩ := rfl
theorem dk_crash (k : Int) (v l m : ByteArray) : crash k m (dk v l) = dk (v ++ rest l m k) ByteArray.empty := rfl
theorem Ok.dk {v l : ByteArray} (h : v.size + l.size ≤ 1048576) : Ok (dk v l) := ⟨h, by show (0 : Int) ≤ 1048576; omega, by show (1048576 : Int) ≤ 1048576; omega, by show (-1 : Int) ≤ -1; omega, by show (-1 : Int) ≤ _; omega⟩
end BlockMath
