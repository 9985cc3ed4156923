/-
  DERIVED. GIVEN WITH THE SEED: THE CARDS: each row of YtnhncloafnnhmaaDoorRows.lean that lists a variable, with what it lists TIED to the program's text (the seventh form; the later family's looks); each row that meets fmt, with fmt's text TOLD by the authors' own Lean function (tested against real Go, not proved from fmt's source: count such statements apart). THE CARD IS WHAT COUNTS. Prove the row's statement (the work); the ties are given (YtnhncloafnnhmaaDoorTie.lean); close each card by the builder's one call (the guide's Derived/Test/ToyasCard.lean, 'card_holds'). Laid BY PROGRAM, IN A SANDBOX (cutbox-door.mjs). By AI agents, Wed Nov 11 2026. No macro, syntax, notation, axiom, sorry.
-/
import Derived.Test.YtnhncloafnnhmaaDoorRows
import GoSem.ClaimSeven
namespace Go.Proofs.YtnhncloafnnhmaaDoor
namespace Rows

/-- THE TIED CARD OF 'sojournlaw03.MacDigests'. -/
def macDigestsCard : Claim7 := { stood := { row := macDigestsRow, standIns := [], harness := (true, "241aa0900bf3cbc51eafa980dad99be1aba7bccd1df76afb78d55f974baf1665"), looks := false }, kinds := [], alts := [], laidByText := true, laidKinds := [.data], laidTests := true, laidLooks := .later }
def MacDigestsCardSaid : Prop := Claim7.holds Tryd.pinned (.plain (OpenSpec.ofChange macDigestsSpec)) macDigestsCard

/-- THE TIED CARD OF 'sojournlaw03.MacTags'. -/
def macTagsCard : Claim7 := { stood := { row := macTagsRow, standIns := [], harness := (true, "241aa0900bf3cbc51eafa980dad99be1aba7bccd1df76afb78d55f974baf1665"), looks := false }, kinds := [], alts := [], laidByText := true, laidKinds := [.data], laidTests := true, laidLooks := .later }
def MacTagsCardSaid : Prop := Claim7.holds Tryd.pinned (.plain (OpenSpec.ofChange macTagsSpec)) macTagsCard

/-- THE TIED CARD OF 'sojournlaw03.MacDerives'. -/
def macDerivesCard : Claim7 := { stood := { row := macDerivesRow, standIns := [], harness := (true, "241aa0900bf3cbc51eafa980dad99be1aba7bccd1df76afb78d55f974baf1665"), looks := false }, kinds := [], alts := [], laidByText := true, laidKinds := [.data], laidTests := true, laidLooks := .later }
def MacDerivesCardSaid : Prop := Claim7.holds Tryd.pinned (.plain (OpenSpec.ofChange macDerivesSpec)) macDerivesCard

/-- THE TIED CARD OF 'sojournlaw03.MacEquals'. -/
def macEqualsCard : Claim7 := { stood := { row := macEqualsRow, standIns := [], harness := (true, "241aa0900bf3cbc51eafa980dad99be1aba7bccd1df76afb78d55f974baf1665"), looks := false }, kinds := [], alts := [], laidByText := true, laidKinds := [.data], laidTests := true, laidLooks := .later }
def MacEqualsCardSaid : Prop := Claim7.holds Tryd.pinned (.plain (OpenSpec.ofChange macEqualsSpec)) macEqualsCard

/-- THE SECOND FORM's CARD OF 'sojournlaw03.MacDigests'. -/
def macDigestsUptoCard : Claim7 := { stood := { row := macDigestsUptoRow, standIns := [], harness := (true, "241aa0900bf3cbc51eafa980dad99be1aba7bccd1df76afb78d55f974baf1665"), looks := false }, kinds := [], alts := [], laidByText := true, laidKinds := [.data], laidTests := true, laidLooks := .later }
def MacDigestsUptoCardSaid : Prop := Claim7.holds Tryd.pinned (.plain (OpenSpec.upto macDigestsSpec)) macDigestsUptoCard

/-- THE SECOND FORM's CARD OF 'sojournlaw03.MacTags'. -/
def macTagsUptoCard : Claim7 := { stood := { row := macTagsUptoRow, standIns := [], harness := (true, "241aa0900bf3cbc51eafa980dad99be1aba7bccd1df76afb78d55f974baf1665"), looks := false }, kinds := [], alts := [], laidByText := true, laidKinds := [.data], laidTests := true, laidLooks := .later }
def MacTagsUptoCardSaid : Prop := Claim7.holds Tryd.pinned (.plain (OpenSpec.upto macTagsSpec)) macTagsUptoCard

/-- THE SECOND FORM's CARD OF 'sojournlaw03.MacDerives'. -/
def macDerivesUptoCard : Claim7 := { stood := { row := macDerivesUptoRow, standIns := [], harness := (true, "241aa0900bf3cbc51eafa980dad99be1aba7bccd1df76afb78d55f974baf1665"), looks := false }, kinds := [], alts := [], laidByText := true, laidKinds := [.data], laidTests := true, laidLooks := .later }
def MacDerivesUptoCardSaid : Prop := Claim7.holds Tryd.pinned (.plain (OpenSpec.upto macDerivesSpec)) macDerivesUptoCard

/-- THE SECOND FORM's CARD OF 'sojournlaw03.MacEquals'. -/
def macEqualsUptoCard : Claim7 := { stood := { row := macEqualsUptoRow, standIns := [], harness := (true, "241aa0900bf3cbc51eafa980dad99be1aba7bccd1df76afb78d55f974baf1665"), looks := false }, kinds := [], alts := [], laidByText := true, laidKinds := [.data], laidTests := true, laidLooks := .later }
def MacEqualsUptoCardSaid : Prop := Claim7.holds Tryd.pinned (.plain (OpenSpec.upto macEqualsSpec)) macEqualsUptoCard
end Rows
end Go.Proofs.YtnhncloafnnhmaaDoor
