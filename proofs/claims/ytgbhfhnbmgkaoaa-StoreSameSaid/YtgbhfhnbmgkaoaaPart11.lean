/-
  Texts of one claim, merged.
  WriteV: A write of chapter 5 as a value. No program is run here.
  StoreRef8: The document's own Apply of chapter 16. The conditions: the rows and the write lie in memory; at most 50,000 rows.
  RegOf: RegOf's contract: it answers true of any write, out of the program's contracts and the example. The conditions: the write's vector lies in memory.
-/
import Derived.Test.YtgbhfhnbmgkaoaaPart01
import Derived.Test.YtgbhfhnbmgkaoaaPart10
import Derived.StillTailTactics
import Derived.Deep.RegionHeld3
import Derived.Test.YtgbhfhnbmgkaoaaPart05
namespace Go.Proofs.Ytgbhfhnbmgkaoaa
open Go.RowKit

/-- A write as a value: its vector lies in memory. -/
structure WriteV where
  region : Int
  number : Int
  time : Int
  sreg : Int
  dp : Option Addr
  dl : List Int
  dc : Nat
  session : ByteArray
  key : ByteArray
  value : ByteArray
  gone : Bool
  life : Int
def WriteV.val (x : WriteV) : Value := .agg #[.int .i64 x.region, .int .i64 x.number, .int .i64 x.time, .int .i64 x.sreg, .slice x.dp x.dl.length x.dc, .string x.session, .string x.key, .string x.value, .bool x.gone, .int .i64 x.life]
structure WriteV.small (x : WriteV) : Prop where
  region : -9223372036854775808 ≤ x.region ∧ x.region ≤ 9223372036854775807
  number : -9223372036854775808 ≤ x.number ∧ x.number ≤ 9223372036854775807
  time : -9223372036854775808 ≤ x.time ∧ x.time ≤ 9223372036854775807
  life : -9223372036854775808 ≤ x.life ∧ x.life ≤ 9223372036854775807
  vec : x.dl.length ≤ 9223372036854775807
end Go.Proofs.Ytgbhfhnbmgkaoaa
namespace Go.Proofs.Ytgbhfhnbmgkaoaa
open Go.RowKit TextNat RegMath

/-- A write's cell. -/
def cellW (x : WriteV) : RegV := ⟨x.time, x.sreg, x.value, x.gone, x.life⟩
/-- The rows with a row put in, as the document's loop does it. -/
def outV (x : RowV) (a : Int) : List RowV → Nat → Bool → List RowV
  | [], _, done => if done = true then [] else [x]
  | r :: L, i, done => if (i : Int) = a then x :: outV x a L (i + 1) true else if (!done && StoreMath.klt x.r.k r.r.k) = true then x :: r :: outV x a L (i + 1) true else r :: outV x a L (i + 1) done
/-- A write's cell as it becomes. -/
def newC (xs : List RowV) (x : WriteV) : RegV := match lookV xs x.session x.key with
  | some d => mergeV [d, cellW x]
  | none => cellW x
def sameC (xs : List RowV) (x : WriteV) : Bool := match lookV xs x.session x.key with
  | some d => decide (newC xs x = d)
  | none => false
/-- What Apply makes of the rows; is the cell another one? -/
def applyV (xs : List RowV) (x : WriteV) : List RowV × Bool := if sameC xs x = true then (xs, false) else (outV ⟨x.session, x.key, newC xs x⟩ (idxI xs x.session x.key) xs 0 false, true)
end Go.Proofs.Ytgbhfhnbmgkaoaa
namespace Go.Proofs.Ytgbhfhnbmgkaoaa
open Go.RowKit TextNat RegMath

/-- A write's cell. -/
def ofV (x : WriteV) : RegV := ⟨x.time, x.sreg, x.value, x.gone, x.life⟩
def OfOk : Prop := ∀ (x : WriteV) (w : World), Ints w x.dp x.dl → x.value.size ≤ 281474976710656 → Calls Try.prog 29 #[x.val] w fun e w' => e = .returned (ofV x).val ∧ Below w.heap.size w w'
theorem keepWrite {W w w' : World} {A : Nat} {u0 u1 u2 u3 u4 u5 u6 u7 u8 u9 : Value} (h : Below W.heap.size W w ∧ w.cell? ⟨A, 0, none⟩ = some u0 ∧ w.cell? ⟨A, 1, none⟩ = some u1 ∧ w.cell? ⟨A, 2, none⟩ = some u2 ∧ w.cell? ⟨A, 3, none⟩ = some u3 ∧ w.cell? ⟨A, 4, none⟩ = some u4 ∧ w.cell? ⟨A, 5, none⟩ = some u5 ∧ w.cell? ⟨A, 6, none⟩ = some u6 ∧ w.cell? ⟨A, 7, none⟩ = some u7 ∧ w.cell? ⟨A, 8, none⟩ = some u8 ∧ w.cell? ⟨A, 9, none⟩ = some u9) (hb : Below w.heap.size w w') :
    Below W.heap.size W w' ∧ w'.cell? ⟨A, 0, none⟩ = some u0 ∧ w'.cell? ⟨A, 1, none⟩ = some u1 ∧ w'.cell? ⟨A, 2, none⟩ = some u2 ∧ w'.cell? ⟨A, 3, none⟩ = some u3 ∧ w'.cell? ⟨A, 4, none⟩ = some u4 ∧ w'.cell? ⟨A, 5, none⟩ = some u5 ∧ w'.cell? ⟨A, 6, none⟩ = some u6 ∧ w'.cell? ⟨A, 7, none⟩ = some u7 ∧ w'.cell? ⟨A, 8, none⟩ = some u8 ∧ w'.cell? ⟨A, 9, none⟩ = some u9 := by
  obtain ⟨hh, h0, h1, h2, h3, h4, h5, h6, h7, h8, h9⟩ := h
  exact ⟨hh.trans (hb.mono hh.size), (hb.cell (p := ⟨A, 0, none⟩) (World.block_lt_of_cell? w _ h0)).trans h0, (hb.cell (p := ⟨A, 1, none⟩) (World.block_lt_of_cell? w _ h1)).trans h1, (hb.cell (p := ⟨A, 2, none⟩) (World.block_lt_of_cell? w _ h2)).trans h2, (hb.cell (p := ⟨A, 3, none⟩) (World.block_lt_of_cell? w _ h3)).trans h3, (hb.cell (p := ⟨A, 4, none⟩) (World.block_lt_of_cell? w _ h4)).trans h4, (hb.cell (p := ⟨A, 5, none⟩) (World.block_lt_of_cell? w _ h5)).trans h5, (hb.cell (p := ⟨A, 6, none⟩) (World.block_lt_of_cell? w _ h6)).trans h6, (hb.cell (p := ⟨A, 7, none⟩) (World.block_lt_of_cell? w _ h7)).trans h7, (hb.cell (p := ⟨A, 8, none⟩) (World.block_lt_of_cell? w _ h8)).trans h8, (hb.cell (p := ⟨A, 9, none⟩) (World.block_lt_of_cell? w _ h9)).trans h9⟩
end Go.Proofs.Ytgbhfhnbmgkaoaa
