/-
  DERIVED. GIVEN WITH THE SEED: THE CARDS: each row of YtlgofepmdjlpgaaDoorRows.lean that lists a variable, with what it lists TIED to the program's text (the seventh form; the later family's looks); each row that meets fmt, with fmt's text TOLD by the authors' own Lean function (tested against real Go, not proved from fmt's source: count such statements apart). THE CARD IS WHAT COUNTS. Prove the row's statement (the work); the ties are given (YtlgofepmdjlpgaaDoorTie.lean); close each card by the builder's one call (the guide's Derived/Test/ToyasCard.lean, 'card_holds'). Laid BY PROGRAM, IN A SANDBOX (cutbox-door.mjs). By AI agents, Wed Nov 11 2026. No macro, syntax, notation, axiom, sorry.
-/
import Derived.Test.YtlgofepmdjlpgaaDoorRows
import GoSem.ClaimSeven
namespace Go.Proofs.YtlgofepmdjlpgaaDoor
namespace Rows

/-- THE TIED CARD OF 'sojournlaw14.BakeWrites'. -/
def bakeWritesCard : Claim7 := { stood := { row := bakeWritesRow, standIns := [], harness := (true, "8198c4dca3e69d63cb5cc63557318ae9d41c0812dcf04f97b75fffe55feb6484"), looks := true }, kinds := [], alts := [], laidByText := true, laidKinds := [.data, .data, .data, .data, .pinned], laidTests := true, laidLooks := .later }
def BakeWritesCardSaid : Prop := Claim7.holds Tryd.pinned (.plain (OpenSpec.ofChange bakeWritesSpec)) bakeWritesCard

/-- THE TIED CARD OF 'sojournlaw14.BakeParses'. -/
def bakeParsesCard : Claim7 := { stood := { row := bakeParsesRow, standIns := [], harness := (true, "8198c4dca3e69d63cb5cc63557318ae9d41c0812dcf04f97b75fffe55feb6484"), looks := true }, kinds := [], alts := [], laidByText := true, laidKinds := [.data, .data, .data, .data, .pinned], laidTests := true, laidLooks := .later }
def BakeParsesCardSaid : Prop := Claim7.holds Tryd.pinned (.plain (OpenSpec.ofChange bakeParsesSpec)) bakeParsesCard

/-- THE TIED CARD OF 'sojournlaw14.BakeLast'. -/
def bakeLastCard : Claim7 := { stood := { row := bakeLastRow, standIns := [], harness := (true, "8198c4dca3e69d63cb5cc63557318ae9d41c0812dcf04f97b75fffe55feb6484"), looks := true }, kinds := [], alts := [], laidByText := true, laidKinds := [.data, .data, .data, .data, .pinned], laidTests := true, laidLooks := .later }
def BakeLastCardSaid : Prop := Claim7.holds Tryd.pinned (.plain (OpenSpec.ofChange bakeLastSpec)) bakeLastCard

/-- THE SECOND FORM's CARD OF 'sojournlaw14.BakeWrites'. -/
def bakeWritesUptoCard : Claim7 := { stood := { row := bakeWritesUptoRow, standIns := [], harness := (true, "8198c4dca3e69d63cb5cc63557318ae9d41c0812dcf04f97b75fffe55feb6484"), looks := true }, kinds := [], alts := [], laidByText := true, laidKinds := [.data, .data, .data, .data, .pinned], laidTests := true, laidLooks := .later }
def BakeWritesUptoCardSaid : Prop := Claim7.holds Tryd.pinned (.plain (OpenSpec.upto bakeWritesSpec)) bakeWritesUptoCard

/-- THE SECOND FORM's CARD OF 'sojournlaw14.BakeParses'. -/
def bakeParsesUptoCard : Claim7 := { stood := { row := bakeParsesUptoRow, standIns := [], harness := (true, "8198c4dca3e69d63cb5cc63557318ae9d41c0812dcf04f97b75fffe55feb6484"), looks := true }, kinds := [], alts := [], laidByText := true, laidKinds := [.data, .data, .data, .data, .pinned], laidTests := true, laidLooks := .later }
def BakeParsesUptoCardSaid : Prop := Claim7.holds Tryd.pinned (.plain (OpenSpec.upto bakeParsesSpec)) bakeParsesUptoCard

/-- THE SECOND FORM's CARD OF 'sojournlaw14.BakeLast'. -/
def bakeLastUptoCard : Claim7 := { stood := { row := bakeLastUptoRow, standIns := [], harness := (true, "8198c4dca3e69d63cb5cc63557318ae9d41c0812dcf04f97b75fffe55feb6484"), looks := true }, kinds := [], alts := [], laidByText := true, laidKinds := [.data, .data, .data, .data, .pinned], laidTests := true, laidLooks := .later }
def BakeLastUptoCardSaid : Prop := Claim7.holds Tryd.pinned (.plain (OpenSpec.upto bakeLastSpec)) bakeLastUptoCard
end Rows
end Go.Proofs.YtlgofepmdjlpgaaDoor
