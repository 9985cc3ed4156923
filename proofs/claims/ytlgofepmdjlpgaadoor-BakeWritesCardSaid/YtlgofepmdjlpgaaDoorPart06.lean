/-
  Texts of one claim, merged.
  I64: What an int may be. No program is run here.
  BakeLaws: Cookies of chapter 14 as values; the contracts of the program's functions, as sentences that its laws start from. No conditions but those typed.
-/
import Derived.Test.YtlgofepmdjlpgaaDoorProg
import Derived.Test.YtlgofepmdjlpgaaDoorPart01
import Derived.Test.YtlgofepmdjlpgaaDoorPart05
import Derived.Test.YtlgofepmdjlpgaaDoorPart02
import Derived.Test.YtlgofepmdjlpgaaDoorPart03
namespace Go.Proofs.YtlgofepmdjlpgaaDoor
abbrev I64 (n : Int) : Prop := -9223372036854775808 ≤ n ∧ n ≤ 9223372036854775807
end Go.Proofs.YtlgofepmdjlpgaaDoor
namespace Go.Proofs.YtlgofepmdjlpgaaDoor
open Go.RowKit TextNat BakeMath

/-- A cookie as the program has it. -/
structure CookieV where
  name : ByteArray
  value : ByteArray
  path : ByteArray
  age : Int
  sec : Bool
  http : Bool
  site : Int
def CookieV.val (x : CookieV) : Value := .agg #[.string x.name, .string x.value, .string x.path, .int .i64 x.age, .bool x.sec, .bool x.http, .int .i64 x.site]
def CookieV.t (x : CookieV) : CookieT := ⟨nats x.name, nats x.value, nats x.path, x.age, x.sec, x.http, x.site⟩
def CookieV.of (c : CookieT) : CookieV := ⟨txt c.name, txt c.value, txt c.path, c.age, c.sec, c.http, c.site⟩
theorem CookieV.of_t (x : CookieV) : CookieV.of x.t = x := by
  unfold CookieV.of CookieV.t
  simp only [txt_nats]
def zeroK : CookieV := ⟨⟨#[]⟩, ⟨#[]⟩, ⟨#[]⟩, 0, false, false, 0⟩
structure CookieV.fits (x : CookieV) : Prop where
  age : I64 x.age
  site : I64 x.site
structure CookieV.short (x : CookieV) : Prop where
  name : x.name.size ≤ 1000
  value : x.value.size ≤ 1000
  path : x.path.size ≤ 1000
/-- What Write answers. -/
def WriteIs (w : World) (x : CookieV) (e : Ending) : Prop :=
  if rightT x.t = true then e = .returned (.tuple #[.string (txt (header x.t)), .nilIface])
  else ∃ r, e = .returned (.tuple #[.string ⟨#[]⟩, r]) ∧ ErrIs w 1 r
/-- What Parse answers. -/
def ParseIs (w : World) (s : ByteArray) (e : Ending) : Prop :=
  match parseF (nats s) with
  | some c => e = .returned (.tuple #[(CookieV.of c).val, .nilIface])
  | none => ∃ r, e = .returned (.tuple #[zeroK.val, r]) ∧ ErrIs w 2 r
/-- What the program's functions may ask of the world (a table of the library, say): it stays where old memory does. -/
def Up (T : World → Prop) : Prop := ∀ (w w' : World), T w → Below w.heap.size w w' → T w'
def WriteOk (T : World → Prop) : Prop := ∀ (x : CookieV) (w : World), T w → x.short → x.fits → Calls Tryd.prog 7 #[x.val] w fun e w' => WriteIs w' x e ∧ Below w.heap.size w w'
def ParseOk (T : World → Prop) : Prop := ∀ (s : ByteArray) (w : World), T w → s.size ≤ 10000 → Calls Tryd.prog 10 #[.string s] w fun e w' => ParseIs w' s e ∧ Below w.heap.size w w'
theorem eql_same (x : CookieV) (w : World) : (binOp .eql 23 x.val x.val).run Tryd.prog w = .ok (.bool true) w := by
  unfold CookieV.val
  go_simp
end Go.Proofs.YtlgofepmdjlpgaaDoor
