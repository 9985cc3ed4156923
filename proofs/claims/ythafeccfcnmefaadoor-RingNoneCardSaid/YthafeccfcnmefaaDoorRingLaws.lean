/-
  The contracts of the program's functions of chapter 11, as sentences that its laws start from; however a ring lies in memory. No conditions but those typed.
-/
import Derived.Test.YthafeccfcnmefaaDoorI64
import Derived.Test.YthafeccfcnmefaaDoorApart
import Derived.Test.YthafeccfcnmefaaDoorErrIs
import Derived.Test.YthafeccfcnmefaaDoorText
import Derived.Test.YthafeccfcnmefaaDoorMacMix
import Derived.Test.YthafeccfcnmefaaDoorTextEq
namespace Go.Proofs.YthafeccfcnmefaaDoor
open Go.RowKit TextNat

/-- May a ring be? -/
def rightB (m : ByteArray) (c : Int) : Bool := decide (0 < m.size) && decide (m.size < 65) && decide (0 ≤ c) && decide (c ≤ 1099511627776)
/-- Is a number alive? -/
def aliveB (c n : Int) : Bool := decide (0 ≤ n) && decide (n ≤ 1099511627776) && decide (c - 2 ≤ n)
/-- Does a number become the current one? -/
def upB (c n : Int) : Bool := decide (c < n) && decide (n ≤ 1099511627776)
/-- The key of a number. -/
def keyOf (m : ByteArray) (n : Int) : ByteArray := txt (ShaMath.derive (nats m) (n % 18446744073709551616).toNat)
abbrev rptr (b : Nat) : Value := .pointer (some ⟨b, 0, none⟩)
/-- How a ring of the program lies in memory: in which blocks, its master and its current number, and that it stays while those blocks do. -/
structure Rng where
  at_ : World → Nat → (Nat → Prop) → ByteArray → Int → Prop
  stays : ∀ {w w' : World} {b : Nat} {S : Nat → Prop} {m : ByteArray} {c : Int}, at_ w b S m c → w.heap.size ≤ w'.heap.size → (∀ k, S k → w'.heap[k]? = w.heap[k]?) → at_ w' b S m c
  lt : ∀ {w : World} {b : Nat} {S : Nat → Prop} {m : ByteArray} {c : Int}, at_ w b S m c → ∀ k, S k → k < w.heap.size
/-- A ring of one's own. -/
def HasR (R : Rng) (B : Nat) (w : World) (b : Nat) (m : ByteArray) (c : Int) : Prop := ∃ S, R.at_ w b S m c ∧ ∀ k, S k → B ≤ k
theorem HasR.below {R : Rng} {B b : Nat} {w w' : World} {m : ByteArray} {c : Int} (h : HasR R B w b m c) (hb : Below w.heap.size w w') : HasR R B w' b m c := by
  obtain ⟨S, h1, h2⟩ := h
  exact ⟨S, R.stays h1 hb.size fun k hk => hb.block k (R.lt h1 k hk), h2⟩
def RNewOk (R : Rng) : Prop := ∀ (m : ByteArray) (c : Int) (w : World), m.size ≤ 9223372036854775807 → I64 c → Calls Tryd.prog 7 #[.string m, .int .i64 c] w fun e w' =>
  (if rightB m c = true then ∃ b, e = .returned (.tuple #[rptr b, .nilIface]) ∧ HasR R w.heap.size w' b m c else ∃ x, e = .returned (.tuple #[.pointer none, x]) ∧ ErrIs w' 1 x) ∧ Below w.heap.size w w'
def CurrentOk (R : Rng) : Prop := ∀ (b : Nat) (S : Nat → Prop) (m : ByteArray) (c : Int) (w : World), R.at_ w b S m c → rightB m c = true → Calls Tryd.prog 13 #[rptr b] w fun e w' => e = .returned (.int .i64 c) ∧ Below w.heap.size w w'
def AliveOk (R : Rng) : Prop := ∀ (b : Nat) (S : Nat → Prop) (m : ByteArray) (c n : Int) (w : World), R.at_ w b S m c → rightB m c = true → I64 n → Calls Tryd.prog 14 #[rptr b, .int .i64 n] w fun e w' => e = .returned (.bool (aliveB c n)) ∧ Below w.heap.size w w'
def KeyOk (R : Rng) : Prop := ∀ (b : Nat) (S : Nat → Prop) (m : ByteArray) (c n : Int) (w : World), R.at_ w b S m c → rightB m c = true → I64 n → Parts w → Calls Tryd.prog 11 #[rptr b, .int .i64 n] w fun e w' =>
  (if aliveB c n = true then e = .returned (.tuple #[.string (keyOf m n), .nilIface]) else ∃ x, e = .returned (.tuple #[.string ⟨#[]⟩, x]) ∧ ErrIs w' 9 x) ∧ Below w.heap.size w w'
def RaiseOk (R : Rng) : Prop := ∀ (b : Nat) (S : Nat → Prop) (m : ByteArray) (c n : Int) (w : World), R.at_ w b S m c → rightB m c = true → I64 n → Calls Tryd.prog 10 #[rptr b, .int .i64 n] w fun e w' =>
  e = .returned (.bool (upB c n)) ∧ (∃ S', R.at_ w' b S' m (if upB c n = true then n else c) ∧ ∀ k, S' k → S k ∨ w.heap.size ≤ k) ∧ Apart S w w'
def RNoneOk : Prop := ∀ (n : Int) (w : World), I64 n →
  Calls Tryd.prog 13 #[.pointer none] w (fun e w' => e = .returned (.int .i64 0) ∧ Below w.heap.size w w') ∧
  Calls Tryd.prog 14 #[.pointer none, .int .i64 n] w (fun e w' => e = .returned (.bool false) ∧ Below w.heap.size w w') ∧
  Calls Tryd.prog 11 #[.pointer none, .int .i64 n] w (fun e w' => (∃ x, e = .returned (.tuple #[.string ⟨#[]⟩, x]) ∧ ErrIs w' 9 x) ∧ Below w.heap.size w w') ∧
  Calls Tryd.prog 10 #[.pointer none, .int .i64 n] w (fun e w' => e = .returned (.bool false) ∧ Below w.heap.size w w')
section
variable {R : Rng} {B b : Nat} {w : World} {m : ByteArray} {c : Int}
theorem HasR.current (hC : CurrentOk R) (h : HasR R B w b m c) (hr : rightB m c = true) : Calls Tryd.prog 13 #[rptr b] w fun e w' => e = .returned (.int .i64 c) ∧ Below w.heap.size w w' := by
  obtain ⟨S, h1, h2⟩ := h
  exact hC b S m c w h1 hr
theorem HasR.alive (hA : AliveOk R) (h : HasR R B w b m c) (hr : rightB m c = true) {n : Int} (hn : I64 n) : Calls Tryd.prog 14 #[rptr b, .int .i64 n] w fun e w' => e = .returned (.bool (aliveB c n)) ∧ Below w.heap.size w w' := by
  obtain ⟨S, h1, h2⟩ := h
  exact hA b S m c n w h1 hr hn
theorem HasR.key (hK : KeyOk R) (h : HasR R B w b m c) (hr : rightB m c = true) {n : Int} (hn : I64 n) (hP : Parts w) : Calls Tryd.prog 11 #[rptr b, .int .i64 n] w fun e w' =>
    (if aliveB c n = true then e = .returned (.tuple #[.string (keyOf m n), .nilIface]) else ∃ x, e = .returned (.tuple #[.string ⟨#[]⟩, x]) ∧ ErrIs w' 9 x) ∧ Below w.heap.size w w' := by
  obtain ⟨S, h1, h2⟩ := h
  exact hK b S m c n w h1 hr hn hP
theorem HasR.raise (hU : RaiseOk R) (h : HasR R B w b m c) (hB : B ≤ w.heap.size) (hr : rightB m c = true) {n : Int} (hn : I64 n) : Calls Tryd.prog 10 #[rptr b, .int .i64 n] w fun e w' =>
    e = .returned (.bool (upB c n)) ∧ HasR R B w' b m (if upB c n = true then n else c) ∧ Below B w w' := by
  obtain ⟨S, h1, h2⟩ := h
  refine (hU b S m c n w h1 hr hn).mono ?_
  rintro e w' ⟨rfl, ⟨S', h3, h4⟩, h5⟩
  exact ⟨rfl, ⟨S', h3, fun k hk => (h4 k hk).elim (h2 k) fun h => Nat.le_trans hB h⟩, h5.under h2 hB⟩
end
theorem right_up {m : ByteArray} {c n : Int} (h : rightB m c = true) : rightB m (if upB c n = true then n else c) = true := by
  split
  · rename_i hu
    unfold upB at hu
    unfold rightB at h ⊢
    simp only [Bool.and_eq_true, decide_eq_true_eq] at h hu ⊢
    omega
  · exact h
theorem right_bounds {m : ByteArray} {c : Int} (h : rightB m c = true) : 0 ≤ c ∧ c ≤ 1099511627776 ∧ 0 < m.size ∧ m.size ≤ 64 := by
  unfold rightB at h
  simp only [Bool.and_eq_true, decide_eq_true_eq] at h
  omega
end Go.Proofs.YthafeccfcnmefaaDoor
