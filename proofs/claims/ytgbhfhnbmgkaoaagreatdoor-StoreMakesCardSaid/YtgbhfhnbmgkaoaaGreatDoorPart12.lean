/-
  Texts of one claim, merged.
  Apart: A world as before but for some blocks, and what is new. No program is run here.
  StoreWrong: The document's own Wrong of chapter 16. The conditions: the rows lie in memory; at most 50,000.
  FailAt: The contract of fail.At, and chains of wraps in memory: what they are, and that they stay where nothing of theirs is written. No conditions but those typed.
-/
import Derived.Test.YtgbhfhnbmgkaoaaGreatDoorPart04
import Derived.Below
import Derived.Test.YtgbhfhnbmgkaoaaGreatDoorPart07
import Derived.StillTailTactics
import Derived.Test.YtgbhfhnbmgkaoaaGreatDoorProg
import Derived.WalkKit
import Derived.LaidEql
import Derived.Stop.Asserts
import Derived.RowKitTokens
import Derived.Handy
import Derived.Outline
import Derived.WideLaws
import Derived.Lib.Hide
namespace Go.Proofs.YtgbhfhnbmgkaoaaGreatDoor
open Go.RowKit

/-- The world is as before but for these blocks, and what is new. -/
structure Apart (S : Nat → Prop) (w w' : World) : Prop where
  os : w'.os = w.os
  tape : w'.tape = w.tape
  output : w'.output = w.output
  size : w.heap.size ≤ w'.heap.size
  block : ∀ k, k < w.heap.size → ¬ S k → w'.heap[k]? = w.heap[k]?
theorem Apart.of {S : Nat → Prop} {w w' : World} (h : Below w.heap.size w w') : Apart S w w' := ⟨h.os, h.tape, h.output, h.size, fun k hk _ => h.block k hk⟩
theorem Apart.refl (S : Nat → Prop) (w : World) : Apart S w w := .of (Below.refl _ w)
theorem Apart.run {S S1 : Nat → Prop} {a b c : World} (h : Apart S a b) (k : Apart S1 b c) (hi : ∀ k, S1 k → S k ∨ a.heap.size ≤ k) : Apart S a c :=
  ⟨k.os.trans h.os, k.tape.trans h.tape, k.output.trans h.output, Nat.le_trans h.size k.size, fun i hl hn => (k.block i (Nat.lt_of_lt_of_le hl h.size) fun hs => (hi i hs).elim hn fun h => absurd hl (Nat.not_lt.2 h)).trans (h.block i hl hn)⟩
theorem Apart.under {S : Nat → Prop} {B : Nat} {w w' : World} (h : Apart S w w') (hS : ∀ k, S k → B ≤ k) (hB : B ≤ w.heap.size) : Below B w w' :=
  ⟨h.os, h.tape, h.output, h.size, fun k hk => h.block k (Nat.lt_of_lt_of_le hk hB) fun hs => absurd hk (Nat.not_lt.2 (hS k hs))⟩
end Go.Proofs.YtgbhfhnbmgkaoaaGreatDoor
namespace Go.Proofs.YtgbhfhnbmgkaoaaGreatDoor
open Go.RowKit TextNat RegMath

/-- Does this row stand below the one behind it? -/
def risesAt (xs : List RowV) (i : Nat) : Bool := match xs[i]?, xs[i + 1]? with
  | some a, some b => StoreMath.klt a.r.k b.r.k
  | _, _ => true
/-- The place of the last row that is in order, of rows that don't rise. -/
def wrongV (xs : List RowV) : Option Nat := (List.range xs.length).find? fun i => !risesAt xs i
def wrongI (xs : List RowV) : Int := match wrongV xs with
  | none => -1
  | some i => ((i + 1 : Nat) : Int)
theorem wrong_some {xs : List RowV} {i : Nat} (h : ∀ j, j < i → risesAt xs j = true) (hi : i < xs.length) (hr : risesAt xs i = false) : wrongV xs = some i := by
  unfold wrongV
  rw [List.find?_range_eq_some]
  exact ⟨by rw [hr]; rfl, List.mem_range.2 hi, fun j hj => by rw [h j hj]; rfl⟩
theorem wrong_none {xs : List RowV} {i : Nat} (h : ∀ j, j < i → risesAt xs j = true) (hi : xs.length ≤ i + 1) : wrongV xs = none := by
  unfold wrongV
  rw [List.find?_range_eq_none]
  intro j hj
  by_cases hji : j < i
  · rw [h j hji]
    rfl
  · have : xs[j + 1]? = none := List.getElem?_eq_none (by omega)
    unfold risesAt
    rw [this]
    cases xs[j]? <;> rfl
theorem wrong_rises {xs : List RowV} (h : wrongV xs = none) : StoreMath.Rising (xs.map RowV.r) := by
  unfold wrongV at h
  rw [List.find?_range_eq_none] at h
  have hh : ∀ (i : Nat) (a b : RowV), xs[i]? = some a → xs[i + 1]? = some b → StoreMath.klt a.r.k b.r.k = true := fun i a b ha hb => by
    have := h i (List.getElem?_eq_some_iff.1 ha).1
    unfold risesAt at this
    rw [ha, hb] at this
    simpa using this
  clear h
  induction xs with
  | nil => exact List.Pairwise.nil
  | cons x l ih =>
    have hl := ih fun i a b ha hb => hh (i + 1) a b (by simpa using ha) (by simpa using hb)
    refine List.pairwise_cons.2 ⟨fun r hr => ?_, hl⟩
    cases l with
    | nil => simp at hr
    | cons y l =>
      have h1 := hh 0 x y rfl rfl
      rcases List.mem_cons.1 hr with rfl | hm
      · exact h1
      · exact StoreMath.strict_key.trans _ _ _ h1 ((List.pairwise_cons.1 hl).1 r hm)
theorem below_drew16 (w w' : World) (h : Below w.drew.heap.size w.drew w') : Below w.heap.size w w' := ⟨h.os, h.tape, h.output, h.size, h.block⟩
set_option maxRecDepth 100000 in
set_option maxHeartbeats 4000000 in
theorem refWrong16 (p : Option Addr) (c : Nat) (xs : List RowV) (w : World) (h : RowsIn w p xs) (hn : xs.length ≤ 50000) :
    Calls Tryz.prog 8 #[.slice p xs.length c] w fun e w' => e = .returned (.int .i64 (wrongI xs)) ∧ Below w.heap.size w w' := by
  obtain ⟨N, hN⟩ : ∃ N, N = xs.length := ⟨_, rfl⟩
  have HN := Lib.hid hN
  have HI := Lib.hid h
  rw [← hN] at hn ⊢
  clear h hN
  go_enter Tryz.func8, Tryz.ntmps8
  go_wp2_with fail
  go_loopg [3] (N - 1) (fun gh s8 wx => ∃ i : Nat, i + gh = N - 1 ∧ s8 = .int .i64 ((i + 1 : Nat) : Int) ∧ Hid (∀ j, j < i → risesAt xs j = true) ∧ Hid (Below w.heap.size w wx))
  case atStart => exact ⟨0, by omega, by go_num, Lib.hid (fun j hj => absurd hj (by omega)), Lib.hid (Below.refl _ _)⟩
  case round =>
    obtain ⟨i, hi, rfl, HR, HB⟩ := hrel
    rename World => W1
    by_cases hlt : i + 1 < N
    · have t1 : decide (((i + 1 : Nat) : Int) < (N : Int)) = true := decide_eq_true (by omega)
      have t1' : decide (i + 1 < N) = true := decide_eq_true hlt
      have t2 : decide ((i : Int) + 1 < (N : Int)) = true := decide_eq_true (by omega)
      have n1 : IntKind.i64.wrap (((i + 1 : Nat) : Int) - 1) = (i : Int) := by rw [IntKind.wrap_i64]; omega
      have n2 : IntKind.i64.wrap ((i : Int) + 1 - 1) = (i : Int) := by rw [IntKind.wrap_i64]; omega
      have n3 : IntKind.i64.wrap (i : Int) = (i : Int) := by rw [IntKind.wrap_i64]; omega
      have q0 : (i : Int) < (N : Int) := by omega
      have q3 : (0 : Int) ≤ (i : Int) + 1 := by omega
      have q4 : ((i : Int) + 1).toNat = i + 1 := by omega
      have q1 : ((i + 1 : Nat) : Int) < (N : Int) := by omega
      have q2 : (i : Int) + 1 < (N : Int) := by omega
      obtain ⟨x, hx⟩ : ∃ x, xs[i]? = some x := ⟨_, List.getElem?_eq_getElem (by rw [← HN.out]; omega)⟩
      obtain ⟨y, hy⟩ : ∃ y, xs[i + 1]? = some y := ⟨_, List.getElem?_eq_getElem (by rw [← HN.out]; omega)⟩
      obtain ⟨b1, o1, rfl⟩ := HI.out.addr (by rw [← HN.out]; omega)
      obtain ⟨d0, d1, d2, d3, d4, d5, d6⟩ := (HI.out.grown HB.out).look hx
      obtain ⟨c0, c1, c2, c3, c4, c5, c6⟩ := (HI.out.grown HB.out).look hy
      have HT := Lib.hid (show risesAt xs i = StoreMath.klt x.r.k y.r.k by unfold risesAt; rw [hx, hy])
      have hb0 := fun w => refBelow16 x y w
      simp only [← HT.out] at hb0
      obtain ⟨x1, xk, ⟨xt, xr, xv, xg, xl⟩⟩ := x
      obtain ⟨y1, yk, ⟨yt, yr, yv, yg, yl⟩⟩ := y
      simp only [RowV.val] at d0 d1 d2 d3 d4 d5 d6 c0 c1 c2 c3 c4 c5 c6 hb0
      have HBl := Lib.hid hb0
      have HIn := Lib.hid (And.intro hi hlt)
      clear hx hy hi hlt hb0
      go_wp2_with fail
      go_still_tail 9, (by kernel_rfl)
      cases hr : risesAt xs i with
      | true =>
        rw [hr] at HBl
        have HR' := Lib.hid (show ∀ j, j < i + 1 → risesAt xs j = true from fun j hj => by
          by_cases e : j = i
          · rw [e, hr]
          · exact HR.out j (by omega))
        clear hr
        go_wp2_with (go_at_call 21; refine (HBl.out _).mono ?_; rintro e w4 ⟨rfl, hb⟩; have HB4 := Lib.hid (HB.out.trans ((below_drew16 _ _ hb).mono HB.out.size)); clear hb)
        go_roundg (N - 1 - (i + 1))
        case measure => have := HIn.out; omega
        case rel => exact ⟨i + 1, by have := HIn.out; omega, by go_num, HR', HB4⟩
      | false =>
        rw [hr] at HBl
        have HV := Lib.hid (show wrongI xs = ((i + 1 : Nat) : Int) by unfold wrongI; rw [wrong_some HR.out (by have := HIn.out; rw [← HN.out]; omega) hr])
        clear hr
        go_wp2_with (go_at_call 21; refine (HBl.out _).mono ?_; rintro e w4 ⟨rfl, hb⟩; have HB4 := Lib.hid (HB.out.trans ((below_drew16 _ _ hb).mono HB.out.size)); clear hb)
        go_ret
        exact ⟨by rw [HV.out]; rfl, HB4.out⟩
    · have t1 : decide (((i + 1 : Nat) : Int) < (N : Int)) = false := decide_eq_false (by omega)
      have t1' : decide (i + 1 < N) = false := decide_eq_false hlt
      have t2 : decide ((i : Int) + 1 < (N : Int)) = false := decide_eq_false (by omega)
      have HV := Lib.hid (show wrongI xs = -1 by unfold wrongI; rw [wrong_none HR.out (by rw [← HN.out]; omega)])
      clear hlt hi
      go_wp2
      go_ret
      exact ⟨by rw [HV.out]; rfl, HB.out⟩
end Go.Proofs.YtgbhfhnbmgkaoaaGreatDoor
namespace Go.Proofs.YtgbhfhnbmgkaoaaGreatDoor
open Go.RowKit Go.Extern.Stop Go.Stop Go.Extern

/-- What At makes: a new block of three cells. -/
theorem at_some (s : ByteArray) (n : Int) (T : TypeId) (v : Value) (w : World) :
    Calls Tryz.prog 47 #[.string s, .int .i64 n, .iface T v] w fun e w' => e = .returned (.iface 66 (.pointer (some ⟨w.heap.size, 0, none⟩))) ∧ w' = w.alloc (.cells #[.string s, .int .i64 n, .iface T v] 106) := by
  go_enter Tryz.func47, Tryz.ntmps47
  go_wp2
  go_ret
  exact ⟨rfl, rfl⟩

/-- A wrap: its text and its number. -/
abbrev Wrap := ByteArray × Int

/-- 'v' is the chain of the wraps 'l', the outermost first, around 'last'; all its blocks lie below B. -/
def Chain (B : Nat) (w : World) : List Wrap → Value → Value → Prop
  | [], last, v => v = last
  | x :: l, last, v => ∃ b u, v = .iface 66 (.pointer (some ⟨b, 0, none⟩)) ∧ b < B ∧ w.cell? ⟨b, 0, none⟩ = some (.string x.1) ∧ w.cell? ⟨b, 1, none⟩ = some (.int .i64 x.2) ∧ w.cell? ⟨b, 2, none⟩ = some u ∧ Chain B w l last u

theorem Chain.mono {B B' : Nat} {w w' : World} (hb : Below B w w') (hB : B ≤ B') : ∀ {l : List Wrap} {last v : Value}, Chain B w l last v → Chain B' w' l last v
  | [], _, _, h => h
  | _ :: _, _, _, ⟨b, u, h1, h2, h3, h4, h5, h6⟩ => ⟨b, u, h1, by omega, (hb.cell (p := ⟨b, 0, none⟩) h2).trans h3, (hb.cell (p := ⟨b, 1, none⟩) h2).trans h4, (hb.cell (p := ⟨b, 2, none⟩) h2).trans h5, Chain.mono hb hB h6⟩

/-- A chain around a code is an interface value that isn't nil. -/
theorem Chain.some {B : Nat} {w : World} {l : List Wrap} {c : Int} {v : Value} (h : Chain B w l (.iface 47 (.int .i64 c)) v) : ∃ T x, v = .iface T x := by
  cases l with
  | nil => exact ⟨_, _, h⟩
  | cons x r =>
    obtain ⟨b, u, h1, _⟩ := h
    exact ⟨_, _, h1⟩

/-- A chain that isn't empty is an *Error's pointer; what its cells hold. -/
theorem Chain.place {B : Nat} {w : World} {x : Wrap} {l : List Wrap} {last v : Value} (h : Chain B w (x :: l) last v) : ∃ b, v = .iface 66 (.pointer (Option.some ⟨b, 0, none⟩)) := by
  obtain ⟨b, u, h1, _⟩ := h
  exact ⟨b, h1⟩
theorem Chain.cells {B : Nat} {w : World} {x : Wrap} {l : List Wrap} {last : Value} {b : Nat} (h : Chain B w (x :: l) last (.iface 66 (.pointer (Option.some ⟨b, 0, none⟩)))) : w.cell? ⟨b, 0, none⟩ = Option.some (.string x.1) ∧ w.cell? ⟨b, 1, none⟩ = Option.some (.int .i64 x.2) := by
  obtain ⟨b', u, h1, _, h3, h4, _⟩ := h
  obtain rfl : b = b' := by simpa using h1
  exact ⟨h3, h4⟩
/-- What fail.At makes of a chain. -/
theorem at_chain (s : ByteArray) (n : Int) (l : List Wrap) (c : Int) (v : Value) (w : World) (h : Chain w.heap.size w l (.iface 47 (.int .i64 c)) v) :
    Calls Tryz.prog 47 #[.string s, .int .i64 n, v] w fun e w' => ∃ r, e = .returned r ∧ Chain w'.heap.size w' ((s, n) :: l) (.iface 47 (.int .i64 c)) r ∧ Below w.heap.size w w' := by
  obtain ⟨T, x, rfl⟩ := h.some
  refine (at_some s n T x w).mono ?_
  rintro e w' ⟨rfl, rfl⟩
  have hb : Below w.heap.size w (w.alloc (.cells #[.string s, .int .i64 n, .iface T x] 106)) := (Below.refl _ _).alloc (Nat.le_refl _) _
  exact ⟨_, rfl, ⟨w.heap.size, .iface T x, rfl, by simp, by simp, by simp, by simp, h.mono hb (by simp)⟩, hb⟩
end Go.Proofs.YtgbhfhnbmgkaoaaGreatDoor
