/-
  Texts of one claim, merged.
  StoreLaws: The contracts of the program's functions of chapter 16, as sentences that its laws start from; however a store lies in memory. No conditions but those typed.
  StoreGreat: Writes in memory, and whether chapter 16's laws play them: how many, how long their texts. No conditions but those typed.
  StoreMathEx: The example of chapter 16: its rows. No program is run here.
-/
import Derived.Test.YtgbhfhnbmgkaoaaGreatDoorStoreRef9
import Derived.Test.YtgbhfhnbmgkaoaaGreatDoorPart12
import Derived.Test.YtgbhfhnbmgkaoaaGreatDoorPart13
import Derived.Test.YtgbhfhnbmgkaoaaGreatDoorPart11
import Derived.Test.YtgbhfhnbmgkaoaaGreatDoorPart04
import Derived.Test.YtgbhfhnbmgkaoaaGreatDoorPart07
import Derived.Deep.LoopGhost
import Derived.BigQuiet
namespace Go.Proofs.YtgbhfhnbmgkaoaaGreatDoor
open Go.RowKit TextNat RegMath

/-- How a store of the program lies in memory: in which blocks, and that it stays while they do. -/
structure Sto where
  at_ : World → Nat → (Nat → Prop) → List RowV → Prop
  stays : ∀ {w w' : World} {b : Nat} {S : Nat → Prop} {xs : List RowV}, at_ w b S xs → w.heap.size ≤ w'.heap.size → (∀ k, S k → w'.heap[k]? = w.heap[k]?) → at_ w' b S xs
  lt : ∀ {w : World} {b : Nat} {S : Nat → Prop} {xs : List RowV}, at_ w b S xs → ∀ k, S k → k < w.heap.size
/-- A store of one's own: its blocks are new, behind B, and spare those from lo up to hi. -/
structure HasS (D : Sto) (B lo hi : Nat) (w : World) (b : Nat) (xs : List RowV) : Prop where
  own : ∃ S, D.at_ w b S xs ∧ ∀ k, S k → B ≤ k ∧ (k < lo ∨ hi ≤ k)
theorem HasS.below {D : Sto} {B lo hi b : Nat} {w w' : World} {xs : List RowV} (h : HasS D B lo hi w b xs) (hb : Below w.heap.size w w') : HasS D B lo hi w' b xs := by
  obtain ⟨S, h, k⟩ := h.own
  exact ⟨S, D.stays h hb.size fun j hj => hb.block j (D.lt h j hj), k⟩
/-- A call of a store: what it holds afterwards; nothing but its own blocks is changed. -/
def DoesS (D : Sto) (w : World) (b : Nat) (S : Nat → Prop) (xs : List RowV) (w' : World) : Prop := (∃ S', D.at_ w' b S' xs ∧ ∀ k, S' k → S k ∨ w.heap.size ≤ k) ∧ Apart S w w'
theorem DoesS.has {D : Sto} {w w' : World} {B lo hi b : Nat} {S : Nat → Prop} {xs : List RowV} (h : DoesS D w b S xs w') (hB : B ≤ w.heap.size) (hh : hi ≤ w.heap.size) (hS : ∀ k, S k → B ≤ k ∧ (k < lo ∨ hi ≤ k)) :
    HasS D B lo hi w' b xs ∧ Below B w w' ∧ ∀ k, lo ≤ k → k < hi → w'.heap[k]? = w.heap[k]? := by
  obtain ⟨⟨S', h1, h2⟩, h3⟩ := h
  refine ⟨⟨S', h1, fun k hk => ?_⟩, ⟨h3.os, h3.tape, h3.output, h3.size, fun k hk => h3.block k (by omega) fun hs => ?_⟩, fun k hl hk => h3.block k (by omega) fun hs => ?_⟩
  · rcases h2 k hk with h | h
    · exact hS k h
    · omega
  · have := hS k hs
    omega
  · have := hS k hs
    omega
abbrev ptr16 (b : Nat) : Value := .pointer (some ⟨b, 0, none⟩)
abbrev name16 : ByteArray := ⟨#[115, 116, 111, 114, 101]⟩
/-- Rows as the laws play them: rising, few, of short texts. -/
structure Short (xs : List RowV) : Prop where
  rises : StoreMath.Rising (xs.map RowV.r)
  few : xs.length ≤ 1000
  texts : ∀ x ∈ xs, x.session.size ≤ 1000 ∧ x.key.size ≤ 1000 ∧ x.cell.value.size ≤ 1000
/-- A write as the laws play them. -/
structure WriteV.short (y : WriteV) (w : World) : Prop where
  vec : Ints w y.dp y.dl
  texts : y.session.size ≤ 1000 ∧ y.key.size ≤ 1000 ∧ y.value.size ≤ 1000
def New16 (D : Sto) : Prop := ∀ w : World, Calls Tryz.prog 14 #[] w fun e w' =>
  (∃ b S, e = .returned (ptr16 b) ∧ D.at_ w' b S [] ∧ ∀ k, S k → w.heap.size ≤ k) ∧ Below w.heap.size w w'
def Apply16 (D : Sto) : Prop := ∀ (b : Nat) (S : Nat → Prop) (xs : List RowV) (y : WriteV) (w : World), D.at_ w b S xs → Short xs → xs.length ≤ 900 → y.short w →
  Calls Tryz.prog 12 #[ptr16 b, y.val] w fun e w' => e = .returned (.bool (applyV xs y).2) ∧ DoesS D w b S (applyV xs y).1 w'
/-- What Get answers: a value, or an error that wraps the one of this number. -/
def GetSays (w : World) (g : Sum ByteArray Nat) (e : Ending) : Prop := match g with
  | .inl v => e = .returned (.tuple #[.string v, .nilIface])
  | .inr c => ∃ x, e = .returned (.tuple #[.string ⟨#[]⟩, x]) ∧ ErrIs w (c : Int) x
def Get16 (D : Sto) : Prop := ∀ (b : Nat) (S : Nat → Prop) (xs : List RowV) (s k : ByteArray) (w : World), D.at_ w b S xs → Short xs → s.size ≤ 1000 → k.size ≤ 1000 →
  Calls Tryz.prog 16 #[ptr16 b, .string s, .string k] w fun e w' => GetSays w' (gotV xs s k) e ∧ Below w.heap.size w w'
def Head16 (D : Sto) : Prop := ∀ (b : Nat) (S : Nat → Prop) (xs : List RowV) (s : ByteArray) (w : World), D.at_ w b S xs → Short xs → s.size ≤ 1000 →
  Calls Tryz.prog 28 #[ptr16 b, .string s] w fun e w' => e = .returned (headV xs s).val ∧ Below w.heap.size w w'
def Keys16 (D : Sto) : Prop := ∀ (b : Nat) (S : Nat → Prop) (xs : List RowV) (s : ByteArray) (w : World), D.at_ w b S xs → Short xs → s.size ≤ 1000 →
  Calls Tryz.prog 31 #[ptr16 b, .string s] w fun e w' => (∃ p c, e = .returned (.slice p (keysV xs s).length c) ∧ (keysV xs s).length ≤ c ∧ c ≤ 9223372036854775807 ∧ TextsAt w' p (keysV xs s)) ∧ Below w.heap.size w w'
def Lives16 (D : Sto) : Prop := ∀ (b : Nat) (S : Nat → Prop) (xs : List RowV) (w : World), D.at_ w b S xs → Short xs →
  Calls Tryz.prog 33 #[ptr16 b] w fun e w' => (∃ p c, e = .returned (.slice p (livesV xs).length c) ∧ (livesV xs).length ≤ c ∧ c ≤ 9223372036854775807 ∧ TextsAt w' p (livesV xs)) ∧ Below w.heap.size w w'
def Rows16 (D : Sto) : Prop := ∀ (b : Nat) (S : Nat → Prop) (xs : List RowV) (w : World), D.at_ w b S xs → Short xs →
  Calls Tryz.prog 37 #[ptr16 b] w fun e w' => (∃ p c, e = .returned (.slice p xs.length c) ∧ xs.length ≤ c ∧ c ≤ 9223372036854775807 ∧ RowsIn w' p xs) ∧ Below w.heap.size w w'
def Shows16 (D : Sto) : Prop := ∀ (b : Nat) (S : Nat → Prop) (xs : List RowV) (w : World), D.at_ w b S xs → Short xs →
  Calls Tryz.prog 38 #[ptr16 b] w fun e w' => (∃ p c, e = .returned (.slice p (showsV xs).length c) ∧ (showsV xs).length ≤ c ∧ c ≤ 9223372036854775807 ∧ RowsIn w' p (showsV xs)) ∧ Below w.heap.size w w'
/-- Rows that rise make a store; of others the first one's number that can't be is told. -/
def Of16 (D : Sto) : Prop := ∀ (p : Option Addr) (c : Nat) (xs : List RowV) (w : World), RowsIn w p xs → xs.length ≤ c → c ≤ 9223372036854775807 → xs.length ≤ 1000 → (∀ x ∈ xs, x.session.size ≤ 1000 ∧ x.key.size ≤ 1000 ∧ x.cell.value.size ≤ 1000) →
  Calls Tryz.prog 6 #[.slice p xs.length c] w fun e w' => (match wrongV xs with
    | none => ∃ b S, e = .returned (.tuple #[ptr16 b, .nilIface]) ∧ D.at_ w' b S xs ∧ ∀ k, S k → w.heap.size ≤ k
    | some i => ∃ x, e = .returned (.tuple #[.pointer none, x]) ∧ ErrAt w' name16 ((i + 1 : Nat) : Int) 1 x) ∧ Below w.heap.size w w'
/-- What the program's functions answer. -/
structure Store16 (D : Sto) : Prop where
  new : New16 D
  apply : Apply16 D
  get : Get16 D
  head : Head16 D
  keys : Keys16 D
  lives : Lives16 D
  rows : Rows16 D
  shows : Shows16 D
end Go.Proofs.YtgbhfhnbmgkaoaaGreatDoor
namespace Go.Proofs.YtgbhfhnbmgkaoaaGreatDoor
open Go.RowKit TextNat

def WriteV.cells (x : WriteV) : List Value := [.int .i64 x.region, .int .i64 x.number, .int .i64 x.time, .int .i64 x.sreg, .slice x.dp x.dl.length x.dc, .string x.session, .string x.key, .string x.value, .bool x.gone, .int .i64 x.life]
/-- Writes that stand from the address pp on. -/
def WritesIn (w : World) (pp : Option Addr) (ys : List WriteV) : Prop := ∀ (i : Nat) (y : WriteV), ys[i]? = some y → ∃ b off, pp = some ⟨b, off, none⟩ ∧ (∀ (j : Nat) (u : Value), y.cells[j]? = some u → w.cell? ⟨b, off + i * 10 + j, none⟩ = some u) ∧ Ints w y.dp y.dl
theorem WritesIn.grown {w w' : World} {pp : Option Addr} {ys : List WriteV} (h : WritesIn w pp ys) (hb : Below w.heap.size w w') : WritesIn w' pp ys := fun i a ha => by
  obtain ⟨b, off, hp, hc, hi⟩ := h i a ha
  exact ⟨b, off, hp, fun j u hu => (hb.cell (p := ⟨b, off + i * 10 + j, none⟩) (World.block_lt_of_cell? w _ (hc j u hu))).trans (hc j u hu), hi.grown hb⟩
theorem WritesIn.look {w : World} {pp : Option Addr} {ys : List WriteV} (h : WritesIn w pp ys) {i : Nat} {y : WriteV} (hy : ys[i]? = some y) : ∃ b off, pp = some ⟨b, off, none⟩ ∧
    w.cell? ⟨b, off + i * 10, none⟩ = some (.int .i64 y.region) ∧ w.cell? ⟨b, off + i * 10 + 1, none⟩ = some (.int .i64 y.number) ∧ w.cell? ⟨b, off + i * 10 + 2, none⟩ = some (.int .i64 y.time) ∧ w.cell? ⟨b, off + i * 10 + 3, none⟩ = some (.int .i64 y.sreg) ∧
    w.cell? ⟨b, off + i * 10 + 4, none⟩ = some (.slice y.dp y.dl.length y.dc) ∧ w.cell? ⟨b, off + i * 10 + 5, none⟩ = some (.string y.session) ∧ w.cell? ⟨b, off + i * 10 + 6, none⟩ = some (.string y.key) ∧ w.cell? ⟨b, off + i * 10 + 7, none⟩ = some (.string y.value) ∧
    w.cell? ⟨b, off + i * 10 + 8, none⟩ = some (.bool y.gone) ∧ w.cell? ⟨b, off + i * 10 + 9, none⟩ = some (.int .i64 y.life) := by
  obtain ⟨b, off, hp, hc, _⟩ := h i y hy
  exact ⟨b, off, hp, hc 0 _ rfl, hc 1 _ rfl, hc 2 _ rfl, hc 3 _ rfl, hc 4 _ rfl, hc 5 _ rfl, hc 6 _ rfl, hc 7 _ rfl, hc 8 _ rfl, hc 9 _ rfl⟩
def bigW (y : WriteV) : Bool := decide (1000 < y.session.size) || (decide (1000 < y.key.size) || decide (1000 < y.value.size))
def greatW (ys : List WriteV) : Bool := decide (80 < ys.length) || ys.any bigW
theorem greatW_not {ys : List WriteV} (h : greatW ys = false) : ys.length ≤ 80 ∧ ∀ y ∈ ys, y.session.size ≤ 1000 ∧ y.key.size ≤ 1000 ∧ y.value.size ≤ 1000 := by
  unfold greatW at h
  rw [Bool.or_eq_false_iff, decide_eq_false_iff_not, List.any_eq_false] at h
  refine ⟨by omega, fun y hy => ?_⟩
  have := h.2 y hy
  unfold bigW at this
  simp only [Bool.or_eq_true, decide_eq_true_eq] at this
  omega
theorem greatW_go {ys : List WriteV} {i : Nat} {y : WriteV} (h : ∀ (j : Nat) (a : WriteV), j < i → ys[j]? = some a → bigW a = false) (hy : ys[i]? = some y) (hb : bigW y = false) : ∀ (j : Nat) (a : WriteV), j < i + 1 → ys[j]? = some a → bigW a = false := fun j a hj ha => by
  by_cases e : j < i
  · exact h j a e ha
  · obtain rfl : j = i := by omega
    obtain rfl : a = y := Option.some.inj (ha.symm.trans hy)
    exact hb
set_option maxRecDepth 100000 in
set_option maxHeartbeats 4000000 in
theorem great16 (p : Option Addr) (c : Nat) (ys : List WriteV) (w : World) (h : WritesIn w p ys) (hl : ys.length ≤ 9223372036854775807) :
    Calls Tryz.prog 5 #[.slice p ys.length c] w fun e w' => e = .returned (.bool (greatW ys)) ∧ Below w.heap.size w w' := by
  obtain ⟨N, hN⟩ : ∃ N, N = ys.length := ⟨_, rfl⟩
  have HI := Lib.hid h
  have HN := Lib.hid hN
  rw [← hN] at hl ⊢
  clear h hN
  by_cases h60 : 80 < N
  · have t1 : decide ((80 : Int) < (N : Int)) = true := decide_eq_true (by omega)
    have t1' : decide (80 < N) = true := decide_eq_true h60
    have HG := Lib.hid (show greatW ys = true by unfold greatW; rw [← HN.out, t1']; rfl)
    clear h60
    go_enter Tryz.func5, Tryz.ntmps5
    go_wp2
    go_ret
    exact ⟨by rw [HG.out]; rfl, Below.refl _ _⟩
  have t1 : decide ((80 : Int) < (N : Int)) = false := decide_eq_false (by omega)
  have t1' : decide (80 < N) = false := decide_eq_false h60
  have HG := Lib.hid (show greatW ys = ys.any bigW by unfold greatW; rw [← HN.out, t1']; rfl)
  go_enter Tryz.func5, Tryz.ntmps5
  go_wp2
  go_loopg [10] N (fun gh s10 wx => ∃ i : Nat, i + gh = N ∧ s10 = .int .i64 (i : Int) ∧ Hid (∀ (j : Nat) (a : WriteV), j < i → ys[j]? = some a → bigW a = false) ∧ Below w.heap.size w wx)
  case atStart => exact ⟨0, by omega, by go_num, Lib.hid (fun j a hj => by omega), Below.refl _ _⟩
  case round =>
    obtain ⟨i, hi, rfl, HJ, hb⟩ := hrel
    rename World => W1
    have HB := Lib.hid hb
    clear hb
    by_cases hiN : i < N
    · have q1 : decide ((i : Int) < (N : Int)) = true := decide_eq_true (by omega)
      have q1' : decide (i < N) = true := decide_eq_true hiN
      have q0 : (i : Int) < (N : Int) := by omega
      obtain ⟨a, ha⟩ : ∃ a, ys[i]? = some a := ⟨_, List.getElem?_eq_getElem (by rw [← HN.out]; exact hiN)⟩
      obtain ⟨b, off, hp, x0, x1, x2, x3, x4, x5, x6, x7, x8, x9⟩ := (HI.out.grown HB.out).look ha
      subst hp
      have HA := Lib.hid ha
      obtain ⟨y1, y2, y3, y4, yp, yl, yc, y7, yk, yv, yg, yi⟩ := a
      simp only at x0 x1 x2 x3 x4 x5 x6 x7 x8 x9
      clear ha
      by_cases z1 : 1000 < y7.size
      · skip
        have t2 : decide ((1000 : Int) < (y7.size : Int)) = true := decide_eq_true (by omega)
        have t2' : decide (1000 < y7.size) = true := decide_eq_true (by omega)
        have HV := Lib.hid (show greatW ys = true by
          rw [HG.out, List.any_eq_true]
          exact ⟨_, List.mem_of_getElem? HA.out, by unfold bigW; simp only; simp [z1]⟩)
        clear z1
        go_wp2
        go_ret
        exact ⟨by rw [HV.out]; rfl, HB.out.alloc HB.out.size _⟩
      by_cases z2 : 1000 < yk.size
      · skip
        have t2 : decide ((1000 : Int) < (y7.size : Int)) = false := decide_eq_false (by omega)
        have t2' : decide (1000 < y7.size) = false := decide_eq_false (by omega)
        have t3 : decide ((1000 : Int) < (yk.size : Int)) = true := decide_eq_true (by omega)
        have t3' : decide (1000 < yk.size) = true := decide_eq_true (by omega)
        have HV := Lib.hid (show greatW ys = true by
          rw [HG.out, List.any_eq_true]
          exact ⟨_, List.mem_of_getElem? HA.out, by unfold bigW; simp only; simp [z2]⟩)
        clear z1 z2
        go_wp2
        go_ret
        exact ⟨by rw [HV.out]; rfl, HB.out.alloc HB.out.size _⟩
      by_cases z3 : 1000 < yv.size
      · skip
        have t2 : decide ((1000 : Int) < (y7.size : Int)) = false := decide_eq_false (by omega)
        have t2' : decide (1000 < y7.size) = false := decide_eq_false (by omega)
        have t3 : decide ((1000 : Int) < (yk.size : Int)) = false := decide_eq_false (by omega)
        have t3' : decide (1000 < yk.size) = false := decide_eq_false (by omega)
        have t4 : decide ((1000 : Int) < (yv.size : Int)) = true := decide_eq_true (by omega)
        have t4' : decide (1000 < yv.size) = true := decide_eq_true (by omega)
        have HV := Lib.hid (show greatW ys = true by
          rw [HG.out, List.any_eq_true]
          exact ⟨_, List.mem_of_getElem? HA.out, by unfold bigW; simp only; simp [z3]⟩)
        clear z1 z2 z3
        go_wp2
        go_ret
        exact ⟨by rw [HV.out]; rfl, HB.out.alloc HB.out.size _⟩
      have HJ2 := Lib.hid (greatW_go HJ.out HA.out (by unfold bigW; simp only; simp [z1, z2, z3]))
      have t2 : decide ((1000 : Int) < (y7.size : Int)) = false := decide_eq_false (by omega)
      have t2' : decide (1000 < y7.size) = false := decide_eq_false (by omega)
      have t3 : decide ((1000 : Int) < (yk.size : Int)) = false := decide_eq_false (by omega)
      have t3' : decide (1000 < yk.size) = false := decide_eq_false (by omega)
      have t4 : decide ((1000 : Int) < (yv.size : Int)) = false := decide_eq_false (by omega)
      have t4' : decide (1000 < yv.size) = false := decide_eq_false (by omega)
      have HIn := Lib.hid (And.intro hi hiN)
      clear z1 z2 z3 hi hiN
      go_wp2
      go_roundg (N - (i + 1))
      case measure => have := HIn.out; omega
      case rel => exact ⟨i + 1, by have := HIn.out; omega, by go_num, HJ2, HB.out.alloc HB.out.size _⟩
    · have q1 : decide ((i : Int) < (N : Int)) = false := decide_eq_false (by omega)
      have q1' : decide (i < N) = false := decide_eq_false hiN
      have HV := Lib.hid (show greatW ys = false by
        rw [HG.out, List.any_eq_false]
        intro y hy
        obtain ⟨j, hj⟩ := List.getElem?_of_mem hy
        rw [HJ.out j y (by have := (List.getElem?_eq_some_iff.1 hj).1; rw [← HN.out] at this; omega) hj]
        decide)
      clear hi hiN
      go_wp2
      go_ret
      exact ⟨by rw [HV.out]; rfl, HB.out⟩
end Go.Proofs.YtgbhfhnbmgkaoaaGreatDoor
namespace Go.Proofs.YtgbhfhnbmgkaoaaGreatDoor
open Go.RowKit TextNat RegMath

abbrev t11 : ByteArray := ⟨#[49, 45, 49]⟩
abbrev tann : ByteArray := ⟨#[97, 110, 110]⟩
def exR0 : RowV := ⟨t11, ⟨#[]⟩, ⟨1, 1, tann, false, 0⟩⟩
def exR1 : RowV := ⟨t11, ⟨#[97]⟩, ⟨2, 1, ⟨#[120]⟩, false, 0⟩⟩
def exR2 : RowV := ⟨t11, ⟨#[]⟩, ⟨3, 1, ⟨#[]⟩, true, 0⟩⟩
/-- A write of the laws own. -/
def wrV (s k v : ByteArray) (t : Int) (g : Bool) : WriteV := ⟨1, 0, t, 1, none, [], 0, s, k, v, g, 0⟩
theorem ex_apply1 : applyV [] (wrV t11 ⟨#[]⟩ tann 1 false) = ([exR0], true) := by decide
theorem ex_apply2 : applyV [exR0] (wrV t11 ⟨#[97]⟩ ⟨#[120]⟩ 2 false) = ([exR0, exR1], true) := by decide
theorem ex_apply3 : applyV [exR0, exR1] (wrV t11 ⟨#[]⟩ ⟨#[]⟩ 3 true) = ([exR2, exR1], true) := by decide
theorem ex_got2 : gotV [exR0, exR1] t11 ⟨#[97]⟩ = .inl ⟨#[120]⟩ := by decide
theorem ex_got3 : gotV [exR2, exR1] t11 ⟨#[97]⟩ = .inr 14 := by decide
theorem ex_short0 : Short [] := ⟨List.Pairwise.nil, by decide, fun x h => by simp at h⟩
theorem ex_short1 : Short [exR0] := ⟨by show List.Pairwise _ _; decide, by decide, by decide⟩
theorem ex_short2 : Short [exR0, exR1] := ⟨by show List.Pairwise _ _; decide, by decide, by decide⟩
theorem ex_short3 : Short [exR2, exR1] := ⟨by show List.Pairwise _ _; decide, by decide, by decide⟩
end Go.Proofs.YtgbhfhnbmgkaoaaGreatDoor
