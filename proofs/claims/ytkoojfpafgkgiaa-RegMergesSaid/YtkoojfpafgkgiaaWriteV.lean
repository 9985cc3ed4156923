/-
  A write of chapter 5 as a value. No program is run here.
-/
import Derived.Test.YtkoojfpafgkgiaaInts
namespace Go.Proofs.Ytkoojfpafgkgiaa
open Go.RowKit

/-- A write as a value: its vector lies in memory. -/
structure WriteV where
  region : Int
  number : Int
  time : Int
  sreg : Int
  dp : Option Addr
  dl : List Int
  dc : Nat
  session : ByteArray
  key : ByteArray
  value : ByteArray
  gone : Bool
  life : Int
def WriteV.val (x : WriteV) : Value := .agg #[.int .i64 x.region, .int .i64 x.number, .int .i64 x.time, .int .i64 x.sreg, .slice x.dp x.dl.length x.dc, .string x.session, .string x.key, .string x.value, .bool x.gone, .int .i64 x.life]
structure WriteV.small (x : WriteV) : Prop where
  region : -9223372036854775808 ≤ x.region ∧ x.region ≤ 9223372036854775807
  number : -9223372036854775808 ≤ x.number ∧ x.number ≤ 9223372036854775807
  time : -9223372036854775808 ≤ x.time ∧ x.time ≤ 9223372036854775807
  life : -9223372036854775808 ≤ x.life ∧ x.life ≤ 9223372036854775807
  vec : x.dl.length ≤ 9223372036854775807
end Go.Proofs.Ytkoojfpafgkgiaa
