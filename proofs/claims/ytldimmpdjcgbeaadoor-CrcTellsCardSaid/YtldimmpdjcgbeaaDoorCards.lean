/-
  DERIVED. GIVEN WITH THE SEED: THE CARDS: each row of YtldimmpdjcgbeaaDoorRows.lean that lists a variable, with what it lists TIED to the program's text (the seventh form; the later family's looks); each row that meets fmt, with fmt's text TOLD by the authors' own Lean function (tested against real Go, not proved from fmt's source: count such statements apart). THE CARD IS WHAT COUNTS. Prove the row's statement (the work); the ties are given (YtldimmpdjcgbeaaDoorTie.lean); close each card by the builder's one call (the guide's Derived/Test/ToyasCard.lean, 'card_holds'). Laid BY PROGRAM, IN A SANDBOX (cutbox-door.mjs). By AI agents, Wed Nov 11 2026. No macro, syntax, notation, axiom, sorry.
-/
import Derived.Test.YtldimmpdjcgbeaaDoorRows
import GoSem.ClaimSeven
namespace Go.Proofs.YtldimmpdjcgbeaaDoor
namespace Rows

/-- THE TIED CARD OF 'sojournlaw02.CrcDivides'. -/
def crcDividesCard : Claim7 := { stood := { row := crcDividesRow, standIns := [], harness := (true, "e4f8f04e674d7104200f32727eeb7738de5eabe964a32175f307d47dc91a5bf7"), looks := false }, kinds := [], alts := [], laidByText := true, laidKinds := [.data, .data], laidTests := true, laidLooks := .later }
def CrcDividesCardSaid : Prop := Claim7.holds Tryd.pinned (.plain (OpenSpec.ofChange crcDividesSpec)) crcDividesCard

/-- THE TIED CARD OF 'sojournlaw02.CrcSteps'. -/
def crcStepsCard : Claim7 := { stood := { row := crcStepsRow, standIns := [], harness := (true, "e4f8f04e674d7104200f32727eeb7738de5eabe964a32175f307d47dc91a5bf7"), looks := false }, kinds := [], alts := [], laidByText := true, laidKinds := [.data, .data], laidTests := true, laidLooks := .later }
def CrcStepsCardSaid : Prop := Claim7.holds Tryd.pinned (.plain (OpenSpec.ofChange crcStepsSpec)) crcStepsCard

/-- THE TIED CARD OF 'sojournlaw02.CrcTells'. -/
def crcTellsCard : Claim7 := { stood := { row := crcTellsRow, standIns := [], harness := (true, "e4f8f04e674d7104200f32727eeb7738de5eabe964a32175f307d47dc91a5bf7"), looks := false }, kinds := [], alts := [], laidByText := true, laidKinds := [.data, .data], laidTests := true, laidLooks := .later }
def CrcTellsCardSaid : Prop := Claim7.holds Tryd.pinned (.plain (OpenSpec.ofChange crcTellsSpec)) crcTellsCard

/-- THE TIED CARD OF 'sojournlaw02.CrcFours'. -/
def crcFoursCard : Claim7 := { stood := { row := crcFoursRow, standIns := [], harness := (true, "e4f8f04e674d7104200f32727eeb7738de5eabe964a32175f307d47dc91a5bf7"), looks := false }, kinds := [], alts := [], laidByText := true, laidKinds := [.data, .data], laidTests := true, laidLooks := .later }
def CrcFoursCardSaid : Prop := Claim7.holds Tryd.pinned (.plain (OpenSpec.ofChange crcFoursSpec)) crcFoursCard

/-- THE SECOND FORM's CARD OF 'sojournlaw02.CrcDivides'. -/
def crcDividesUptoCard : Claim7 := { stood := { row := crcDividesUptoRow, standIns := [], harness := (true, "e4f8f04e674d7104200f32727eeb7738de5eabe964a32175f307d47dc91a5bf7"), looks := false }, kinds := [], alts := [], laidByText := true, laidKinds := [.data, .data], laidTests := true, laidLooks := .later }
def CrcDividesUptoCardSaid : Prop := Claim7.holds Tryd.pinned (.plain (OpenSpec.upto crcDividesSpec)) crcDividesUptoCard

/-- THE SECOND FORM's CARD OF 'sojournlaw02.CrcSteps'. -/
def crcStepsUptoCard : Claim7 := { stood := { row := crcStepsUptoRow, standIns := [], harness := (true, "e4f8f04e674d7104200f32727eeb7738de5eabe964a32175f307d47dc91a5bf7"), looks := false }, kinds := [], alts := [], laidByText := true, laidKinds := [.data, .data], laidTests := true, laidLooks := .later }
def CrcStepsUptoCardSaid : Prop := Claim7.holds Tryd.pinned (.plain (OpenSpec.upto crcStepsSpec)) crcStepsUptoCard

/-- THE SECOND FORM's CARD OF 'sojournlaw02.CrcTells'. -/
def crcTellsUptoCard : Claim7 := { stood := { row := crcTellsUptoRow, standIns := [], harness := (true, "e4f8f04e674d7104200f32727eeb7738de5eabe964a32175f307d47dc91a5bf7"), looks := false }, kinds := [], alts := [], laidByText := true, laidKinds := [.data, .data], laidTests := true, laidLooks := .later }
def CrcTellsUptoCardSaid : Prop := Claim7.holds Tryd.pinned (.plain (OpenSpec.upto crcTellsSpec)) crcTellsUptoCard

/-- THE SECOND FORM's CARD OF 'sojournlaw02.CrcFours'. -/
def crcFoursUptoCard : Claim7 := { stood := { row := crcFoursUptoRow, standIns := [], harness := (true, "e4f8f04e674d7104200f32727eeb7738de5eabe964a32175f307d47dc91a5bf7"), looks := false }, kinds := [], alts := [], laidByText := true, laidKinds := [.data, .data], laidTests := true, laidLooks := .later }
def CrcFoursUptoCardSaid : Prop := Claim7.holds Tryd.pinned (.plain (OpenSpec.upto crcFoursSpec)) crcFoursUptoCard
end Rows
end Go.Proofs.YtldimmpdjcgbeaaDoor
