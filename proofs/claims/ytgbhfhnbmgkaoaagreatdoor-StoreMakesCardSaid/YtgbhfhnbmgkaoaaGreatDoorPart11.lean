/-
  Texts of one claim, merged.
  RegTwo: Two cells in a new block. No program is run here.
  WriteV: A write of chapter 5 as a value. No program is run here.
  StoreRef8: The document's own Apply of chapter 16. The conditions: the rows and the write lie in memory; at most 50,000 rows.
-/
import Derived.Test.YtgbhfhnbmgkaoaaGreatDoorPart05
import Derived.Test.YtgbhfhnbmgkaoaaGreatDoorPart01
import Derived.Test.YtgbhfhnbmgkaoaaGreatDoorPart10
import Derived.StillTailTactics
import Derived.Deep.RegionHeld3
namespace Go.Proofs.YtgbhfhnbmgkaoaaGreatDoor
open Go.RowKit TextNat RegMath

/-- Two cells in a new block. -/
def cells10 (a b : RegV) : List Value := a.cells ++ b.cells
theorem regs_two {w : World} {g : Nat} {T : TypeId} {a b : RegV} (h : Lies w g (cells10 a b) T) : RegsIn w (some ⟨g, 0, none⟩) [a, b] := fun i x hx => by
  have hi := (List.getElem?_eq_some_iff.1 hx).1
  match i, hi with
  | 0, _ =>
    obtain rfl : a = x := by simpa using hx
    exact ⟨g, 0, rfl, h.cell (i := 0) rfl, h.cell (i := 1) rfl, h.cell (i := 2) rfl, h.cell (i := 3) rfl, h.cell (i := 4) rfl⟩
  | 1, _ =>
    obtain rfl : b = x := by simpa using hx
    exact ⟨g, 0, rfl, h.cell (i := 5) rfl, h.cell (i := 6) rfl, h.cell (i := 7) rfl, h.cell (i := 8) rfl, h.cell (i := 9) rfl⟩
end Go.Proofs.YtgbhfhnbmgkaoaaGreatDoor
namespace Go.Proofs.YtgbhfhnbmgkaoaaGreatDoor
open Go.RowKit

/-- A write as a value: its vector lies in memory. -/
structure WriteV where
  region : Int
  number : Int
  time : Int
  sreg : Int
  dp : Option Addr
  dl : List Int
  dc : Nat
  session : ByteArray
  key : ByteArray
  value : ByteArray
  gone : Bool
  life : Int
def WriteV.val (x : WriteV) : Value := .agg #[.int .i64 x.region, .int .i64 x.number, .int .i64 x.time, .int .i64 x.sreg, .slice x.dp x.dl.length x.dc, .string x.session, .string x.key, .string x.value, .bool x.gone, .int .i64 x.life]
structure WriteV.small (x : WriteV) : Prop where
  region : -9223372036854775808 ≤ x.region ∧ x.region ≤ 9223372036854775807
  number : -9223372036854775808 ≤ x.number ∧ x.number ≤ 9223372036854775807
  time : -9223372036854775808 ≤ x.time ∧ x.time ≤ 9223372036854775807
  life : -9223372036854775808 ≤ x.life ∧ x.life ≤ 9223372036854775807
  vec : x.dl.length ≤ 9223372036854775807
end Go.Proofs.YtgbhfhnbmgkaoaaGreatDoor
namespace Go.Proofs.YtgbhfhnbmgkaoaaGreatDoor
open Go.RowKit TextNat RegMath

/-- A write's cell. -/
def cellW (x : WriteV) : RegV := ⟨x.time, x.sreg, x.value, x.gone, x.life⟩
/-- The rows with a row put in, as the document's loop does it. -/
def outV (x : RowV) (a : Int) : List RowV → Nat → Bool → List RowV
  | [], _, done => if done = true then [] else [x]
  | r :: L, i, done => if (i : Int) = a then x :: outV x a L (i + 1) true else if (!done && StoreMath.klt x.r.k r.r.k) = true then x :: r :: outV x a L (i + 1) true else r :: outV x a L (i + 1) done
/-- A write's cell as it becomes. -/
def newC (xs : List RowV) (x : WriteV) : RegV := match lookV xs x.session x.key with
  | some d => mergeV [d, cellW x]
  | none => cellW x
def sameC (xs : List RowV) (x : WriteV) : Bool := match lookV xs x.session x.key with
  | some d => decide (newC xs x = d)
  | none => false
/-- What Apply makes of the rows; is the cell another one? -/
def applyV (xs : List RowV) (x : WriteV) : List RowV × Bool := if sameC xs x = true then (xs, false) else (outV ⟨x.session, x.key, newC xs x⟩ (idxI xs x.session x.key) xs 0 false, true)
end Go.Proofs.YtgbhfhnbmgkaoaaGreatDoor
