/-
  DERIVED. GIVEN WITH THE SEED: THE CARDS: each row of YthafeccfcnmefaaDoorRows.lean that lists a variable, with what it lists TIED to the program's text (the seventh form; the later family's looks); each row that meets fmt, with fmt's text TOLD by the authors' own Lean function (tested against real Go, not proved from fmt's source: count such statements apart). THE CARD IS WHAT COUNTS. Prove the row's statement (the work); the ties are given (YthafeccfcnmefaaDoorTie.lean); close each card by the builder's one call (the guide's Derived/Test/ToyasCard.lean, 'card_holds'). Laid BY PROGRAM, IN A SANDBOX (cutbox-door.mjs). By AI agents, Wed Nov 11 2026. No macro, syntax, notation, axiom, sorry.
-/
import Derived.Test.YthafeccfcnmefaaDoorRows
import GoSem.ClaimSeven
namespace Go.Proofs.YthafeccfcnmefaaDoor
namespace Rows

/-- THE TIED CARD OF 'sojournlaw11.RingPlays'. -/
def ringPlaysCard : Claim7 := { stood := { row := ringPlaysRow, standIns := [], harness := (true, "8ff6f8d8aa4885c73b7ff8362babd616e18f6f96c151418fc101a3a56924f0ec"), looks := true }, kinds := [], alts := [], laidByText := true, laidKinds := [.data], laidTests := true, laidLooks := .later }
def RingPlaysCardSaid : Prop := Claim7.holds Tryd.pinned (.plain (OpenSpec.ofChange ringPlaysSpec)) ringPlaysCard

/-- THE TIED CARD OF 'sojournlaw11.RingRetires'. -/
def ringRetiresCard : Claim7 := { stood := { row := ringRetiresRow, standIns := [], harness := (true, "8ff6f8d8aa4885c73b7ff8362babd616e18f6f96c151418fc101a3a56924f0ec"), looks := true }, kinds := [], alts := [], laidByText := true, laidKinds := [.data], laidTests := true, laidLooks := .later }
def RingRetiresCardSaid : Prop := Claim7.holds Tryd.pinned (.plain (OpenSpec.ofChange ringRetiresSpec)) ringRetiresCard

/-- THE TIED CARD OF 'sojournlaw11.RingNone'. -/
def ringNoneCard : Claim7 := { stood := { row := ringNoneRow, standIns := [], harness := (true, "8ff6f8d8aa4885c73b7ff8362babd616e18f6f96c151418fc101a3a56924f0ec"), looks := true }, kinds := [], alts := [], laidByText := true, laidKinds := [.data], laidTests := true, laidLooks := .later }
def RingNoneCardSaid : Prop := Claim7.holds Tryd.pinned (.plain (OpenSpec.ofChange ringNoneSpec)) ringNoneCard

/-- THE SECOND FORM's CARD OF 'sojournlaw11.RingPlays'. -/
def ringPlaysUptoCard : Claim7 := { stood := { row := ringPlaysUptoRow, standIns := [], harness := (true, "8ff6f8d8aa4885c73b7ff8362babd616e18f6f96c151418fc101a3a56924f0ec"), looks := true }, kinds := [], alts := [], laidByText := true, laidKinds := [.data], laidTests := true, laidLooks := .later }
def RingPlaysUptoCardSaid : Prop := Claim7.holds Tryd.pinned (.plain (OpenSpec.upto ringPlaysSpec)) ringPlaysUptoCard

/-- THE SECOND FORM's CARD OF 'sojournlaw11.RingRetires'. -/
def ringRetiresUptoCard : Claim7 := { stood := { row := ringRetiresUptoRow, standIns := [], harness := (true, "8ff6f8d8aa4885c73b7ff8362babd616e18f6f96c151418fc101a3a56924f0ec"), looks := true }, kinds := [], alts := [], laidByText := true, laidKinds := [.data], laidTests := true, laidLooks := .later }
def RingRetiresUptoCardSaid : Prop := Claim7.holds Tryd.pinned (.plain (OpenSpec.upto ringRetiresSpec)) ringRetiresUptoCard

/-- THE SECOND FORM's CARD OF 'sojournlaw11.RingNone'. -/
def ringNoneUptoCard : Claim7 := { stood := { row := ringNoneUptoRow, standIns := [], harness := (true, "8ff6f8d8aa4885c73b7ff8362babd616e18f6f96c151418fc101a3a56924f0ec"), looks := true }, kinds := [], alts := [], laidByText := true, laidKinds := [.data], laidTests := true, laidLooks := .later }
def RingNoneUptoCardSaid : Prop := Claim7.holds Tryd.pinned (.plain (OpenSpec.upto ringNoneSpec)) ringNoneUptoCard
end Rows
end Go.Proofs.YthafeccfcnmefaaDoor
