/-
  DERIVED. GIVEN WITH THE SEED: THE CARDS: each row of YtajhegjemhegiaaDoorRows.lean that lists a variable, with what it lists TIED to the program's text (the seventh form; the later family's looks); each row that meets fmt, with fmt's text TOLD by the authors' own Lean function (tested against real Go, not proved from fmt's source: count such statements apart). THE CARD IS WHAT COUNTS. Prove the row's statement (the work); the ties are given (YtajhegjemhegiaaDoorTie.lean); close each card by the builder's one call (the guide's Derived/Test/ToyasCard.lean, 'card_holds'). Laid BY PROGRAM, IN A SANDBOX (cutbox-door.mjs). By AI agents, Wed Nov 11 2026. No macro, syntax, notation, axiom, sorry.
-/
import Derived.Test.YtajhegjemhegiaaDoorRows
import GoSem.ClaimSeven
namespace Go.Proofs.YtajhegjemhegiaaDoor
namespace Rows

/-- THE TIED CARD OF 'sojournlaw12.TokenOnly'. -/
def tokenOnlyCard : Claim7 := { stood := { row := tokenOnlyRow, standIns := [], harness := (true, "699746965d771886f0c832aad98bb593d8f079e0b6b94378cd66cb1867cdaeae"), looks := true }, kinds := [], alts := [], laidByText := true, laidKinds := [.data], laidTests := true, laidLooks := .later }
def TokenOnlyCardSaid : Prop := Claim7.holds Tryd.pinned (.plain (OpenSpec.ofChange tokenOnlySpec)) tokenOnlyCard

/-- THE TIED CARD OF 'sojournlaw12.TokenLives'. -/
def tokenLivesCard : Claim7 := { stood := { row := tokenLivesRow, standIns := [], harness := (true, "699746965d771886f0c832aad98bb593d8f079e0b6b94378cd66cb1867cdaeae"), looks := true }, kinds := [], alts := [], laidByText := true, laidKinds := [.data], laidTests := true, laidLooks := .later }
def TokenLivesCardSaid : Prop := Claim7.holds Tryd.pinned (.plain (OpenSpec.ofChange tokenLivesSpec)) tokenLivesCard

/-- THE TIED CARD OF 'sojournlaw12.TokenTurned'. -/
def tokenTurnedCard : Claim7 := { stood := { row := tokenTurnedRow, standIns := [], harness := (true, "699746965d771886f0c832aad98bb593d8f079e0b6b94378cd66cb1867cdaeae"), looks := true }, kinds := [], alts := [], laidByText := true, laidKinds := [.data], laidTests := true, laidLooks := .later }
def TokenTurnedCardSaid : Prop := Claim7.holds Tryd.pinned (.plain (OpenSpec.ofChange tokenTurnedSpec)) tokenTurnedCard

/-- THE TIED CARD OF 'sojournlaw12.TokenNone'. -/
def tokenNoneCard : Claim7 := { stood := { row := tokenNoneRow, standIns := [], harness := (true, "699746965d771886f0c832aad98bb593d8f079e0b6b94378cd66cb1867cdaeae"), looks := true }, kinds := [], alts := [], laidByText := true, laidKinds := [.data], laidTests := true, laidLooks := .later }
def TokenNoneCardSaid : Prop := Claim7.holds Tryd.pinned (.plain (OpenSpec.ofChange tokenNoneSpec)) tokenNoneCard

/-- THE TIED CARD OF 'sojournlaw12.TokenUnlike'. -/
def tokenUnlikeCard : Claim7 := { stood := { row := tokenUnlikeRow, standIns := [], harness := (true, "699746965d771886f0c832aad98bb593d8f079e0b6b94378cd66cb1867cdaeae"), looks := true }, kinds := [], alts := [], laidByText := true, laidKinds := [.data], laidTests := true, laidLooks := .later }
def TokenUnlikeCardSaid : Prop := Claim7.holds Tryd.pinned (.plain (OpenSpec.ofChange tokenUnlikeSpec)) tokenUnlikeCard

/-- THE SECOND FORM's CARD OF 'sojournlaw12.TokenOnly'. -/
def tokenOnlyUptoCard : Claim7 := { stood := { row := tokenOnlyUptoRow, standIns := [], harness := (true, "699746965d771886f0c832aad98bb593d8f079e0b6b94378cd66cb1867cdaeae"), looks := true }, kinds := [], alts := [], laidByText := true, laidKinds := [.data], laidTests := true, laidLooks := .later }
def TokenOnlyUptoCardSaid : Prop := Claim7.holds Tryd.pinned (.plain (OpenSpec.upto tokenOnlySpec)) tokenOnlyUptoCard

/-- THE SECOND FORM's CARD OF 'sojournlaw12.TokenLives'. -/
def tokenLivesUptoCard : Claim7 := { stood := { row := tokenLivesUptoRow, standIns := [], harness := (true, "699746965d771886f0c832aad98bb593d8f079e0b6b94378cd66cb1867cdaeae"), looks := true }, kinds := [], alts := [], laidByText := true, laidKinds := [.data], laidTests := true, laidLooks := .later }
def TokenLivesUptoCardSaid : Prop := Claim7.holds Tryd.pinned (.plain (OpenSpec.upto tokenLivesSpec)) tokenLivesUptoCard

/-- THE SECOND FORM's CARD OF 'sojournlaw12.TokenTurned'. -/
def tokenTurnedUptoCard : Claim7 := { stood := { row := tokenTurnedUptoRow, standIns := [], harness := (true, "699746965d771886f0c832aad98bb593d8f079e0b6b94378cd66cb1867cdaeae"), looks := true }, kinds := [], alts := [], laidByText := true, laidKinds := [.data], laidTests := true, laidLooks := .later }
def TokenTurnedUptoCardSaid : Prop := Claim7.holds Tryd.pinned (.plain (OpenSpec.upto tokenTurnedSpec)) tokenTurnedUptoCard

/-- THE SECOND FORM's CARD OF 'sojournlaw12.TokenNone'. -/
def tokenNoneUptoCard : Claim7 := { stood := { row := tokenNoneUptoRow, standIns := [], harness := (true, "699746965d771886f0c832aad98bb593d8f079e0b6b94378cd66cb1867cdaeae"), looks := true }, kinds := [], alts := [], laidByText := true, laidKinds := [.data], laidTests := true, laidLooks := .later }
def TokenNoneUptoCardSaid : Prop := Claim7.holds Tryd.pinned (.plain (OpenSpec.upto tokenNoneSpec)) tokenNoneUptoCard

/-- THE SECOND FORM's CARD OF 'sojournlaw12.TokenUnlike'. -/
def tokenUnlikeUptoCard : Claim7 := { stood := { row := tokenUnlikeUptoRow, standIns := [], harness := (true, "699746965d771886f0c832aad98bb593d8f079e0b6b94378cd66cb1867cdaeae"), looks := true }, kinds := [], alts := [], laidByText := true, laidKinds := [.data], laidTests := true, laidLooks := .later }
def TokenUnlikeUptoCardSaid : Prop := Claim7.holds Tryd.pinned (.plain (OpenSpec.upto tokenUnlikeSpec)) tokenUnlikeUptoCard
end Rows
end Go.Proofs.YtajhegjemhegiaaDoor
