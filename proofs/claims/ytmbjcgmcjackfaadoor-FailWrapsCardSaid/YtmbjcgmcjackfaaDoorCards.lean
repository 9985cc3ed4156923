/-
  DERIVED. GIVEN WITH THE SEED: THE CARDS: each row of YtmbjcgmcjackfaaDoorRows.lean that lists a variable, with what it lists TIED to the program's text (the seventh form; the later family's looks); each row that meets fmt, with fmt's text TOLD by the authors' own Lean function (tested against real Go, not proved from fmt's source: count such statements apart). THE CARD IS WHAT COUNTS. Prove the row's statement (the work); the ties are given (YtmbjcgmcjackfaaDoorTie.lean); close each card by the builder's one call (the guide's Derived/Test/ToyasCard.lean, 'card_holds'). Laid BY PROGRAM, IN A SANDBOX (cutbox-door.mjs). By AI agents, Wed Nov 11 2026. No macro, syntax, notation, axiom, sorry.
-/
import Derived.Test.YtmbjcgmcjackfaaDoorRows
import GoSem.ClaimSeven
namespace Go.Proofs.YtmbjcgmcjackfaaDoor
namespace Rows

/-- THE TIED CARD OF 'sojournlaw01.FailWraps'. -/
def failWrapsCard : Claim7 := { stood := { row := failWrapsRow, standIns := [], harness := (true, "77105476ebd5918038ef77aa12b0681091f07303265852b9027761e653519432"), looks := true }, kinds := [], alts := [], laidByText := true, laidKinds := [.handle], laidTests := true, laidLooks := .later }
def FailWrapsCardSaid : Prop := Claim7.holds Tryd.pinned (.plain (OpenSpec.ofChange failWrapsSpec)) failWrapsCard

/-- THE TIED CARD OF 'sojournlaw01.FailClass'. -/
def failClassCard : Claim7 := { stood := { row := failClassRow, standIns := [], harness := (true, "77105476ebd5918038ef77aa12b0681091f07303265852b9027761e653519432"), looks := true }, kinds := [], alts := [], laidByText := true, laidKinds := [.handle], laidTests := true, laidLooks := .later }
def FailClassCardSaid : Prop := Claim7.holds Tryd.pinned (.plain (OpenSpec.ofChange failClassSpec)) failClassCard

/-- THE TIED CARD OF 'sojournlaw01.FailNone'. -/
def failNoneCard : Claim7 := { stood := { row := failNoneRow, standIns := [], harness := (true, "77105476ebd5918038ef77aa12b0681091f07303265852b9027761e653519432"), looks := true }, kinds := [], alts := [], laidByText := true, laidKinds := [.handle], laidTests := true, laidLooks := .later }
def FailNoneCardSaid : Prop := Claim7.holds Tryd.pinned (.plain (OpenSpec.ofChange failNoneSpec)) failNoneCard

/-- THE SECOND FORM's CARD OF 'sojournlaw01.FailWraps'. -/
def failWrapsUptoCard : Claim7 := { stood := { row := failWrapsUptoRow, standIns := [], harness := (true, "77105476ebd5918038ef77aa12b0681091f07303265852b9027761e653519432"), looks := true }, kinds := [], alts := [], laidByText := true, laidKinds := [.handle], laidTests := true, laidLooks := .later }
def FailWrapsUptoCardSaid : Prop := Claim7.holds Tryd.pinned (.plain (OpenSpec.upto failWrapsSpec)) failWrapsUptoCard

/-- THE SECOND FORM's CARD OF 'sojournlaw01.FailClass'. -/
def failClassUptoCard : Claim7 := { stood := { row := failClassUptoRow, standIns := [], harness := (true, "77105476ebd5918038ef77aa12b0681091f07303265852b9027761e653519432"), looks := true }, kinds := [], alts := [], laidByText := true, laidKinds := [.handle], laidTests := true, laidLooks := .later }
def FailClassUptoCardSaid : Prop := Claim7.holds Tryd.pinned (.plain (OpenSpec.upto failClassSpec)) failClassUptoCard

/-- THE SECOND FORM's CARD OF 'sojournlaw01.FailNone'. -/
def failNoneUptoCard : Claim7 := { stood := { row := failNoneUptoRow, standIns := [], harness := (true, "77105476ebd5918038ef77aa12b0681091f07303265852b9027761e653519432"), looks := true }, kinds := [], alts := [], laidByText := true, laidKinds := [.handle], laidTests := true, laidLooks := .later }
def FailNoneUptoCardSaid : Prop := Claim7.holds Tryd.pinned (.plain (OpenSpec.upto failNoneSpec)) failNoneUptoCard
end Rows
end Go.Proofs.YtmbjcgmcjackfaaDoor
