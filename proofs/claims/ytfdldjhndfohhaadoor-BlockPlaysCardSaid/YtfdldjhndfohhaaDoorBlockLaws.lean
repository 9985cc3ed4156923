/-
  The contracts of the program's functions of chapter 8, as sentences that its laws start from; however a device lies in memory. No conditions but those typed.
-/
import Derived.Test.YtfdldjhndfohhaaDoorBlockMath
import Derived.Test.YtfdldjhndfohhaaDoorErrIs
import Derived.Test.YtfdldjhndfohhaaDoorResults
import Derived.WalkKit
import Derived.Handy
import Derived.Outline
import Derived.Lib.Hide
import Derived.Deep.LoopGhost
import Derived.Deep.RegionWith
import Derived.Deep.RegionLaw
import Derived.StillTailTactics
import Derived.BigQuiet
namespace Go.Proofs.YtfdldjhndfohhaaDoor
open Go.RowKit BlockMath TextNat

/-- The world is as before but for these blocks, and what is new. -/
structure Apart (S : Nat → Prop) (w w' : World) : Prop where
  os : w'.os = w.os
  tape : w'.tape = w.tape
  output : w'.output = w.output
  size : w.heap.size ≤ w'.heap.size
  block : ∀ k, k < w.heap.size → ¬ S k → w'.heap[k]? = w.heap[k]?
theorem Apart.of {S : Nat → Prop} {w w' : World} (h : Below w.heap.size w w') : Apart S w w' := ⟨h.os, h.tape, h.output, h.size, fun k hk _ => h.block k hk⟩
theorem Apart.refl (S : Nat → Prop) (w : World) : Apart S w w := .of (Below.refl _ w)
theorem drawn_below {B : Nat} {a w : World} (n : Nat) (h : Below B a w) : Below B a (w.drewN n) := ⟨h.os, h.tape, h.output, h.size, h.block⟩
/-- How a device of the program lies in memory: in which blocks, and that it stays while they do. -/
structure Dev where
  at_ : World → Nat → (Nat → Prop) → Dk → Prop
  stays : ∀ {w w' : World} {b : Nat} {S : Nat → Prop} {d : Dk}, at_ w b S d → w.heap.size ≤ w'.heap.size → (∀ k, S k → w'.heap[k]? = w.heap[k]?) → at_ w' b S d
  lt : ∀ {w : World} {b : Nat} {S : Nat → Prop} {d : Dk}, at_ w b S d → ∀ k, S k → k < w.heap.size
/-- A device of one's own: its blocks are new, behind B. -/
structure Has (D : Dev) (B : Nat) (w : World) (b : Nat) (d : Dk) : Prop where
  own : ∃ S, D.at_ w b S d ∧ ∀ k, S k → B ≤ k
theorem Has.below {D : Dev} {B b : Nat} {w w' : World} {d : Dk} (h : Has D B w b d) (hb : Below w.heap.size w w') : Has D B w' b d := by
  obtain ⟨S, h, k⟩ := h.own
  exact ⟨S, D.stays h hb.size fun j hj => hb.block j (D.lt h j hj), k⟩
abbrev ptr (b : Nat) : Value := .pointer (some ⟨b, 0, none⟩)
abbrev name : ByteArray := ⟨#[98, 108, 111, 99, 107]⟩
/-- An error that lies in blocks from B on. -/
def ErrNew (B : Nat) (w : World) (n c : Int) (x : Value) : Prop := ∀ w2 : World, w.heap.size ≤ w2.heap.size → (∀ k, B ≤ k → k < w.heap.size → w2.heap[k]? = w.heap[k]?) → ErrAt w2 name n c x
theorem ErrNew.here {B : Nat} {w : World} {n c : Int} {x : Value} (h : ErrNew B w n c x) : ErrAt w name n c x := h w (Nat.le_refl _) fun _ _ _ => rfl
theorem ErrNew.is {B : Nat} {w : World} {n c : Int} {x : Value} (h : ErrNew B w n c x) : ErrIs w c x := h.here.is
theorem ErrNew.keep {B : Nat} {w w2 : World} {n c : Int} {x : Value} (h : ErrNew B w n c x) (hs : w.heap.size ≤ w2.heap.size) (hk : ∀ k, B ≤ k → k < w.heap.size → w2.heap[k]? = w.heap[k]?) : ErrNew B w2 n c x :=
  fun w3 h3 k3 => h w3 (Nat.le_trans hs h3) fun k h1 h2 => (k3 k h1 (Nat.lt_of_lt_of_le h2 hs)).trans (hk k h1 h2)
/-- The error that a number says: none of 0. -/
def ErrOf (B : Nat) (w : World) (c n : Int) (x : Value) : Prop := if c = 0 then x = .nilIface else ErrNew B w n c x
theorem ErrOf.zero {B : Nat} {w : World} {n : Int} {x : Value} {c : Int} (h : ErrOf B w c n x) (hc : c = 0) : x = .nilIface := by rwa [ErrOf, if_pos hc] at h
theorem ErrOf.not {B : Nat} {w : World} {n : Int} {x : Value} {c : Int} (h : ErrOf B w c n x) (hc : c ≠ 0) : ErrNew B w n c x := by rwa [ErrOf, if_neg hc] at h
/-- A call of a device whose blocks lie from B on: what is there afterwards; nothing ahead of B is changed. -/
def Does (D : Dev) (w : World) (b : Nat) (S : Nat → Prop) (d' : Dk) (w' : World) : Prop := (∃ S', D.at_ w' b S' d' ∧ ∀ k, S' k → S k ∨ w.heap.size ≤ k) ∧ Apart S w w'
theorem Does.has {D : Dev} {w w' : World} {B b : Nat} {S : Nat → Prop} {d' : Dk} (h : Does D w b S d' w') (hB : B ≤ w.heap.size) (hS : ∀ k, S k → B ≤ k) : Has D B w' b d' ∧ Below B w w' := by
  obtain ⟨⟨S', h1, h2⟩, h3⟩ := h
  refine ⟨⟨S', h1, fun k hk => ?_⟩, ⟨h3.os, h3.tape, h3.output, h3.size, fun k hk => h3.block k (by omega) fun hs => ?_⟩⟩
  · rcases h2 k hk with h | h
    · exact hS k h
    · omega
  · have := hS k hs
    omega
/-- A device of one's own whose blocks spare those from lo up to hi. -/
structure HasH (D : Dev) (B lo hi : Nat) (w : World) (b : Nat) (d : Dk) : Prop where
  own : ∃ S, D.at_ w b S d ∧ ∀ k, S k → B ≤ k ∧ (k < lo ∨ hi ≤ k)
theorem HasH.has {D : Dev} {B lo hi b : Nat} {w : World} {d : Dk} (h : HasH D B lo hi w b d) : Has D B w b d := by
  obtain ⟨S, h, k⟩ := h.own
  exact ⟨S, h, fun j hj => (k j hj).1⟩
theorem HasH.below {D : Dev} {B lo hi b : Nat} {w w' : World} {d : Dk} (h : HasH D B lo hi w b d) (hb : Below w.heap.size w w') : HasH D B lo hi w' b d := by
  obtain ⟨S, h, k⟩ := h.own
  exact ⟨S, D.stays h hb.size fun j hj => hb.block j (D.lt h j hj), k⟩
theorem Does.hasH {D : Dev} {w w' : World} {B lo hi b : Nat} {S : Nat → Prop} {d' : Dk} (h : Does D w b S d' w') (hB : B ≤ w.heap.size) (hh : hi ≤ w.heap.size) (hS : ∀ k, S k → B ≤ k ∧ (k < lo ∨ hi ≤ k)) :
    HasH D B lo hi w' b d' ∧ Below B w w' ∧ ∀ k, lo ≤ k → k < hi → w'.heap[k]? = w.heap[k]? := by
  obtain ⟨⟨S', h1, h2⟩, h3⟩ := h
  refine ⟨⟨S', h1, fun k hk => ?_⟩, ⟨h3.os, h3.tape, h3.output, h3.size, fun k hk => h3.block k (by omega) fun hs => ?_⟩, fun k hl hk => h3.block k (by omega) fun hs => ?_⟩
  · rcases h2 k hk with h | h
    · exact hS k h
    · omega
  · have := hS k hs
    omega
  · have := hS k hs
    omega
abbrev I64 (n : Int) : Prop := -9223372036854775808 ≤ n ∧ n ≤ 9223372036854775807
def NewOk (D : Dev) : Prop := ∀ (r : Int) (w : World), I64 r → Calls Tryd.prog 5 #[.int .i64 r] w fun e w' =>
  (if 0 ≤ r ∧ r ≤ 1048576 then ∃ b, e = .returned (.tuple #[ptr b, .nilIface]) ∧ Has D w.heap.size w' b (new r) else ∃ x, e = .returned (.tuple #[.pointer none, x]) ∧ ErrIs w' 1 x) ∧ Below w.heap.size w w'
def AppendOk (D : Dev) : Prop := ∀ (b : Nat) (S : Nat → Prop) (d : Dk) (s : ByteArray) (w : World), D.at_ w b S d → Ok d → s.size ≤ 100000 →
  Calls Tryd.prog 11 #[ptr b, .string s] w fun e w' => (∃ x, e = .returned x ∧ ErrOf w.heap.size w' (append s d).1 (size (append s d).2) x) ∧ Does D w b S (append s d).2 w'
def SyncOk (D : Dev) : Prop := ∀ (b : Nat) (S : Nat → Prop) (d : Dk) (w : World), D.at_ w b S d → Ok d →
  Calls Tryd.prog 12 #[ptr b] w fun e w' => (∃ x, e = .returned x ∧ ErrOf w.heap.size w' (sync d).1 (size (sync d).2) x) ∧ Does D w b S (sync d).2 w'
def CutOk (D : Dev) : Prop := ∀ (b : Nat) (S : Nat → Prop) (d : Dk) (n : Int) (w : World), D.at_ w b S d → Ok d → I64 n →
  Calls Tryd.prog 24 #[ptr b, .int .i64 n] w fun e w' => (∃ x, e = .returned x ∧ ErrOf w.heap.size w' (cut n d).1 (size (cut n d).2) x) ∧ Does D w b S (cut n d).2 w'
def ReadOk (D : Dev) : Prop := ∀ (b : Nat) (S : Nat → Prop) (d : Dk) (n m : Int) (w : World), D.at_ w b S d → Ok d → I64 n → I64 m →
  Calls Tryd.prog 14 #[ptr b, .int .i64 n, .int .i64 m] w fun e w' => (∃ x, e = .returned (.tuple #[.string (read n m d).1, x]) ∧ ErrOf w.heap.size w' (read n m d).2 (size d) x) ∧ Below w.heap.size w w'
def LenOk (D : Dev) : Prop := ∀ (b : Nat) (S : Nat → Prop) (d : Dk) (w : World), D.at_ w b S d → Ok d →
  Calls Tryd.prog 15 #[ptr b] w fun e w' => e = .returned (.int .i64 (size d)) ∧ Below w.heap.size w w'
def safe (d : Dk) : Int := if d.off then 0 else (d.done.size : Int)
def SafeOk (D : Dev) : Prop := ∀ (b : Nat) (S : Nat → Prop) (d : Dk) (w : World), D.at_ w b S d → Ok d →
  Calls Tryd.prog 32 #[ptr b] w fun e w' => e = .returned (.int .i64 (safe d)) ∧ Below w.heap.size w w'
def RoomOk (D : Dev) : Prop := ∀ (b : Nat) (S : Nat → Prop) (d : Dk) (n : Int) (w : World), D.at_ w b S d → Ok d → I64 n →
  Calls Tryd.prog 16 #[ptr b, .int .i64 n] w fun e w' => (∃ x, e = .returned x ∧ ErrOf w.heap.size w' (room n d).1 (size (room n d).2) x) ∧ Does D w b S (room n d).2 w'
def FuseOk (D : Dev) : Prop := ∀ (b : Nat) (S : Nat → Prop) (d : Dk) (n : Int) (w : World), D.at_ w b S d → Ok d → I64 n →
  Calls Tryd.prog 27 #[ptr b, .int .i64 n] w fun e w' => e = .returned (.tuple #[]) ∧ Does D w b S (fuse n d) w'
def DownOk (D : Dev) : Prop := ∀ (b : Nat) (S : Nat → Prop) (d : Dk) (w : World), D.at_ w b S d → Ok d →
  Calls Tryd.prog 31 #[ptr b] w fun e w' => e = .returned (.bool d.off) ∧ Below w.heap.size w w'
def CrashOk (D : Dev) : Prop := ∀ (b : Nat) (S : Nat → Prop) (d : Dk) (k : Int) (mask : ByteArray) (w : World), D.at_ w b S d → Ok d → I64 k → mask.size ≤ 1000000 →
  Calls Tryd.prog 13 #[ptr b, .int .i64 k, .string mask] w fun e w' => e = .returned (.tuple #[]) ∧ Does D w b S (crash k mask d) w'
def RotOk (D : Dev) : Prop := ∀ (b : Nat) (S : Nat → Prop) (d : Dk) (n : Int) (c : Nat) (w : World), D.at_ w b S d → Ok d → I64 n → c < 256 →
  Calls Tryd.prog 29 #[ptr b, .int .i64 n, .int .u8 (c : Int)] w fun e w' => e = .returned (.bool (rotB n c d)) ∧ Does D w b S (rotD n c d) w'
def NoneOk : Prop :=
  (∀ (n : Int) (w : World), I64 n → Calls Tryd.prog 27 #[.pointer none, .int .i64 n] w fun e w' => e = .returned (.tuple #[]) ∧ Below w.heap.size w w') ∧
  (∀ (n : Int) (s : ByteArray) (w : World), I64 n → Calls Tryd.prog 13 #[.pointer none, .int .i64 n, .string s] w fun e w' => e = .returned (.tuple #[]) ∧ Below w.heap.size w w') ∧
  (∀ (n m : Int) (w : World), I64 n → I64 m → Calls Tryd.prog 14 #[.pointer none, .int .i64 n, .int .i64 m] w fun e w' => (∃ x, e = .returned (.tuple #[.string ⟨#[]⟩, x]) ∧ ErrIs w' 5 x) ∧ Below w.heap.size w w') ∧
  (∀ w : World, Calls Tryd.prog 31 #[.pointer none] w fun e w' => e = .returned (.bool true) ∧ Below w.heap.size w w') ∧
  (∀ (s : ByteArray) (w : World), s.size ≤ 9223372036854775807 → Calls Tryd.prog 11 #[.pointer none, .string s] w fun e w' => (∃ x, e = .returned x ∧ ErrIs w' 5 x) ∧ Below w.heap.size w w') ∧
  (∀ w : World, Calls Tryd.prog 12 #[.pointer none] w fun e w' => (∃ x, e = .returned x ∧ ErrIs w' 5 x) ∧ Below w.heap.size w w') ∧
  (∀ (n : Int) (w : World), I64 n → Calls Tryd.prog 24 #[.pointer none, .int .i64 n] w fun e w' => (∃ x, e = .returned x ∧ ErrIs w' 5 x) ∧ Below w.heap.size w w') ∧
  (∀ (n : Int) (w : World), I64 n → Calls Tryd.prog 16 #[.pointer none, .int .i64 n] w fun e w' => (∃ x, e = .returned x ∧ ErrIs w' 5 x) ∧ Below w.heap.size w w') ∧
  (∀ w : World, Calls Tryd.prog 15 #[.pointer none] w fun e w' => e = .returned (.int .i64 0) ∧ Below w.heap.size w w') ∧
  (∀ w : World, Calls Tryd.prog 32 #[.pointer none] w fun e w' => e = .returned (.int .i64 0) ∧ Below w.heap.size w w') ∧
  (∀ (n : Int) (w : World), I64 n → Calls Tryd.prog 29 #[.pointer none, .int .i64 n, .int .u8 1] w fun e w' => e = .returned (.bool false) ∧ Below w.heap.size w w')
section
variable {D : Dev} {B b : Nat} {d : Dk} {w : World}
theorem append_has (hA : AppendOk D) (h : Has D B w b d) (hB : B ≤ w.heap.size) (ok : Ok d) (s : ByteArray) (hs : s.size ≤ 100000) :
    Calls Tryd.prog 11 #[ptr b, .string s] w fun e w' => (∃ x, e = .returned x ∧ ErrOf w.heap.size w' (append s d).1 (size (append s d).2) x) ∧ Has D B w' b (append s d).2 ∧ Below B w w' := by
  obtain ⟨S, h, k⟩ := h.own
  refine (hA b S d s w h ok hs).mono ?_
  rintro e w' ⟨h1, h2⟩
  exact ⟨h1, h2.has hB k⟩
theorem sync_has (hA : SyncOk D) (h : Has D B w b d) (hB : B ≤ w.heap.size) (ok : Ok d) :
    Calls Tryd.prog 12 #[ptr b] w fun e w' => (∃ x, e = .returned x ∧ ErrOf w.heap.size w' (sync d).1 (size (sync d).2) x) ∧ Has D B w' b (sync d).2 ∧ Below B w w' := by
  obtain ⟨S, h, k⟩ := h.own
  refine (hA b S d w h ok).mono ?_
  rintro e w' ⟨h1, h2⟩
  exact ⟨h1, h2.has hB k⟩
theorem cut_has (hA : CutOk D) (h : Has D B w b d) (hB : B ≤ w.heap.size) (ok : Ok d) (n : Int) (hn : I64 n) :
    Calls Tryd.prog 24 #[ptr b, .int .i64 n] w fun e w' => (∃ x, e = .returned x ∧ ErrOf w.heap.size w' (cut n d).1 (size (cut n d).2) x) ∧ Has D B w' b (cut n d).2 ∧ Below B w w' := by
  obtain ⟨S, h, k⟩ := h.own
  refine (hA b S d n w h ok hn).mono ?_
  rintro e w' ⟨h1, h2⟩
  exact ⟨h1, h2.has hB k⟩
theorem fuse_has (hA : FuseOk D) (h : Has D B w b d) (hB : B ≤ w.heap.size) (ok : Ok d) (n : Int) (hn : I64 n) :
    Calls Tryd.prog 27 #[ptr b, .int .i64 n] w fun e w' => e = .returned (.tuple #[]) ∧ Has D B w' b (fuse n d) ∧ Below B w w' := by
  obtain ⟨S, h, k⟩ := h.own
  refine (hA b S d n w h ok hn).mono ?_
  rintro e w' ⟨h1, h2⟩
  exact ⟨h1, h2.has hB k⟩
theorem crash_has (hA : CrashOk D) (h : Has D B w b d) (hB : B ≤ w.heap.size) (ok : Ok d) (n : Int) (hn : I64 n) (s : ByteArray) (hs : s.size ≤ 1000000) :
    Calls Tryd.prog 13 #[ptr b, .int .i64 n, .string s] w fun e w' => e = .returned (.tuple #[]) ∧ Has D B w' b (crash n s d) ∧ Below B w w' := by
  obtain ⟨S, h, k⟩ := h.own
  refine (hA b S d n s w h ok hn hs).mono ?_
  rintro e w' ⟨h1, h2⟩
  exact ⟨h1, h2.has hB k⟩
theorem rot_has (hA : RotOk D) (h : Has D B w b d) (hB : B ≤ w.heap.size) (ok : Ok d) (n : Int) (hn : I64 n) (c : Nat) (hc : c < 256) :
    Calls Tryd.prog 29 #[ptr b, .int .i64 n, .int .u8 (c : Int)] w fun e w' => e = .returned (.bool (rotB n c d)) ∧ Has D B w' b (rotD n c d) ∧ Below B w w' := by
  obtain ⟨S, h, k⟩ := h.own
  refine (hA b S d n c w h ok hn hc).mono ?_
  rintro e w' ⟨h1, h2⟩
  exact ⟨h1, h2.has hB k⟩
theorem read_has (hA : ReadOk D) (h : Has D B w b d) (ok : Ok d) (n m : Int) (hn : I64 n) (hm : I64 m) :
    Calls Tryd.prog 14 #[ptr b, .int .i64 n, .int .i64 m] w fun e w' => (∃ x, e = .returned (.tuple #[.string (read n m d).1, x]) ∧ ErrOf w.heap.size w' (read n m d).2 (size d) x) ∧ Has D B w' b d ∧ Below w.heap.size w w' := by
  obtain ⟨S, h0, k⟩ := h.own
  refine (hA b S d n m w h0 ok hn hm).mono ?_
  rintro e w' ⟨h1, h2⟩
  exact ⟨h1, h.below h2, h2⟩
theorem len_has (hA : LenOk D) (h : Has D B w b d) (ok : Ok d) :
    Calls Tryd.prog 15 #[ptr b] w fun e w' => e = .returned (.int .i64 (size d)) ∧ Has D B w' b d ∧ Below w.heap.size w w' := by
  obtain ⟨S, h0, k⟩ := h.own
  refine (hA b S d w h0 ok).mono ?_
  rintro e w' ⟨h1, h2⟩
  exact ⟨h1, h.below h2, h2⟩
theorem safe_has (hA : SafeOk D) (h : Has D B w b d) (ok : Ok d) :
    Calls Tryd.prog 32 #[ptr b] w fun e w' => e = .returned (.int .i64 (safe d)) ∧ Has D B w' b d ∧ Below w.heap.size w w' := by
  obtain ⟨S, h0, k⟩ := h.own
  refine (hA b S d w h0 ok).mono ?_
  rintro e w' ⟨h1, h2⟩
  exact ⟨h1, h.below h2, h2⟩
theorem down_has (hA : DownOk D) (h : Has D B w b d) (ok : Ok d) :
    Calls Tryd.prog 31 #[ptr b] w fun e w' => e = .returned (.bool d.off) ∧ Has D B w' b d ∧ Below w.heap.size w w' := by
  obtain ⟨S, h0, k⟩ := h.own
  refine (hA b S d w h0 ok).mono ?_
  rintro e w' ⟨h1, h2⟩
  exact ⟨h1, h.below h2, h2⟩
end
end Go.Proofs.YtfdldjhndfohhaaDoor
