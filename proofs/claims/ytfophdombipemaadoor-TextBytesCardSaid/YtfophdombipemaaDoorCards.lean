/-
  DERIVED. GIVEN WITH THE SEED: THE CARDS: each row of YtfophdombipemaaDoorRows.lean that lists a variable, with what it lists TIED to the program's text (the seventh form; the later family's looks); each row that meets fmt, with fmt's text TOLD by the authors' own Lean function (tested against real Go, not proved from fmt's source: count such statements apart). THE CARD IS WHAT COUNTS. Prove the row's statement (the work); the ties are given (YtfophdombipemaaDoorTie.lean); close each card by the builder's one call (the guide's Derived/Test/ToyasCard.lean, 'card_holds'). Laid BY PROGRAM, IN A SANDBOX (cutbox-door.mjs). By AI agents, Wed Nov 11 2026. No macro, syntax, notation, axiom, sorry.
-/
import Derived.Test.YtfophdombipemaaDoorRows
import GoSem.ClaimSeven
namespace Go.Proofs.YtfophdombipemaaDoor
namespace Rows

/-- THE TIED CARD OF 'sojournlaw04.TextBytes'. -/
def textBytesCard : Claim7 := { stood := { row := textBytesRow, standIns := [], harness := (true, "6b023790eb812eeb6f53db178fd4c75d51a4417152b9a7d96194177cd3105fbf"), looks := true }, kinds := [], alts := [], laidByText := true, laidKinds := [.handle], laidTests := true, laidLooks := .later }
def TextBytesCardSaid : Prop := Claim7.holds Tryd.pinned (.plain (OpenSpec.ofChange textBytesSpec)) textBytesCard

/-- THE TIED CARD OF 'sojournlaw04.TextOctets'. -/
def textOctetsCard : Claim7 := { stood := { row := textOctetsRow, standIns := [], harness := (true, "6b023790eb812eeb6f53db178fd4c75d51a4417152b9a7d96194177cd3105fbf"), looks := true }, kinds := [], alts := [], laidByText := true, laidKinds := [.data, .pinned], laidTests := true, laidLooks := .later }
def TextOctetsCardSaid : Prop := Claim7.holds Tryd.pinned (.plain (OpenSpec.ofChange textOctetsSpec)) textOctetsCard

/-- THE SECOND FORM's CARD OF 'sojournlaw04.TextBytes'. -/
def textBytesUptoCard : Claim7 := { stood := { row := textBytesUptoRow, standIns := [], harness := (true, "6b023790eb812eeb6f53db178fd4c75d51a4417152b9a7d96194177cd3105fbf"), looks := true }, kinds := [], alts := [], laidByText := true, laidKinds := [.handle], laidTests := true, laidLooks := .later }
def TextBytesUptoCardSaid : Prop := Claim7.holds Tryd.pinned (.plain (OpenSpec.upto textBytesSpec)) textBytesUptoCard

/-- THE SECOND FORM's CARD OF 'sojournlaw04.TextOctets'. -/
def textOctetsUptoCard : Claim7 := { stood := { row := textOctetsUptoRow, standIns := [], harness := (true, "6b023790eb812eeb6f53db178fd4c75d51a4417152b9a7d96194177cd3105fbf"), looks := true }, kinds := [], alts := [], laidByText := true, laidKinds := [.data, .pinned], laidTests := true, laidLooks := .later }
def TextOctetsUptoCardSaid : Prop := Claim7.holds Tryd.pinned (.plain (OpenSpec.upto textOctetsSpec)) textOctetsUptoCard
end Rows
end Go.Proofs.YtfophdombipemaaDoor
