/-
  DERIVED. GIVEN WITH THE SEED: THE CARDS: each row of YtaniekpkcihpiaaDoorRows.lean that lists a variable, with what it lists TIED to the program's text (the seventh form; the later family's looks); each row that meets fmt, with fmt's text TOLD by the authors' own Lean function (tested against real Go, not proved from fmt's source: count such statements apart). THE CARD IS WHAT COUNTS. Prove the row's statement (the work); the ties are given (YtaniekpkcihpiaaDoorTie.lean); close each card by the builder's one call (the guide's Derived/Test/ToyasCard.lean, 'card_holds'). Laid BY PROGRAM, IN A SANDBOX (cutbox-door.mjs). By AI agents, Wed Nov 11 2026. No macro, syntax, notation, axiom, sorry.
-/
import Derived.Test.YtaniekpkcihpiaaDoorRows
import GoSem.ClaimSeven
namespace Go.Proofs.YtaniekpkcihpiaaDoor
namespace Rows

/-- THE TIED CARD OF 'sojournlaw13.CookieParses'. -/
def cookieParsesCard : Claim7 := { stood := { row := cookieParsesRow, standIns := [], harness := (true, "1f90e5b5296fa73f27175e96ca80c800e4729802b7d847c5cc3b8b4e4f866c5e"), looks := true }, kinds := [], alts := [], laidByText := true, laidKinds := [.handle], laidTests := true, laidLooks := .later }
def CookieParsesCardSaid : Prop := Claim7.holds Tryd.pinned (.plain (OpenSpec.ofChange cookieParsesSpec)) cookieParsesCard

/-- THE TIED CARD OF 'sojournlaw13.CookieWrites'. -/
def cookieWritesCard : Claim7 := { stood := { row := cookieWritesRow, standIns := [], harness := (true, "1f90e5b5296fa73f27175e96ca80c800e4729802b7d847c5cc3b8b4e4f866c5e"), looks := true }, kinds := [], alts := [], laidByText := true, laidKinds := [.handle], laidTests := true, laidLooks := .later }
def CookieWritesCardSaid : Prop := Claim7.holds Tryd.pinned (.plain (OpenSpec.ofChange cookieWritesSpec)) cookieWritesCard

/-- THE TIED CARD OF 'sojournlaw13.CookieFinds'. -/
def cookieFindsCard : Claim7 := { stood := { row := cookieFindsRow, standIns := [], harness := (true, "1f90e5b5296fa73f27175e96ca80c800e4729802b7d847c5cc3b8b4e4f866c5e"), looks := true }, kinds := [], alts := [], laidByText := true, laidKinds := [.handle], laidTests := true, laidLooks := .later }
def CookieFindsCardSaid : Prop := Claim7.holds Tryd.pinned (.plain (OpenSpec.ofChange cookieFindsSpec)) cookieFindsCard

/-- THE SECOND FORM's CARD OF 'sojournlaw13.CookieParses'. -/
def cookieParsesUptoCard : Claim7 := { stood := { row := cookieParsesUptoRow, standIns := [], harness := (true, "1f90e5b5296fa73f27175e96ca80c800e4729802b7d847c5cc3b8b4e4f866c5e"), looks := true }, kinds := [], alts := [], laidByText := true, laidKinds := [.handle], laidTests := true, laidLooks := .later }
def CookieParsesUptoCardSaid : Prop := Claim7.holds Tryd.pinned (.plain (OpenSpec.upto cookieParsesSpec)) cookieParsesUptoCard

/-- THE SECOND FORM's CARD OF 'sojournlaw13.CookieWrites'. -/
def cookieWritesUptoCard : Claim7 := { stood := { row := cookieWritesUptoRow, standIns := [], harness := (true, "1f90e5b5296fa73f27175e96ca80c800e4729802b7d847c5cc3b8b4e4f866c5e"), looks := true }, kinds := [], alts := [], laidByText := true, laidKinds := [.handle], laidTests := true, laidLooks := .later }
def CookieWritesUptoCardSaid : Prop := Claim7.holds Tryd.pinned (.plain (OpenSpec.upto cookieWritesSpec)) cookieWritesUptoCard

/-- THE SECOND FORM's CARD OF 'sojournlaw13.CookieFinds'. -/
def cookieFindsUptoCard : Claim7 := { stood := { row := cookieFindsUptoRow, standIns := [], harness := (true, "1f90e5b5296fa73f27175e96ca80c800e4729802b7d847c5cc3b8b4e4f866c5e"), looks := true }, kinds := [], alts := [], laidByText := true, laidKinds := [.handle], laidTests := true, laidLooks := .later }
def CookieFindsUptoCardSaid : Prop := Claim7.holds Tryd.pinned (.plain (OpenSpec.upto cookieFindsSpec)) cookieFindsUptoCard
end Rows
end Go.Proofs.YtaniekpkcihpiaaDoor
