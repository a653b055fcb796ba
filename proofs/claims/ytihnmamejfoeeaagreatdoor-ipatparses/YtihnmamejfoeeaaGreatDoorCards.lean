/-
  DERIVED. GIVEN WITH THE SEED: THE CARDS: each row of YtihnmamejfoeeaaGreatDoorRows.lean that lists a variable, with what it lists TIED to the program's text (the seventh form; the later family's looks); each row that meets fmt, with fmt's text TOLD by the authors' own Lean function (tested against real Go, not proved from fmt's source: count such statements apart). THE CARD IS WHAT COUNTS. Prove the row's statement (the work); the ties are given (YtihnmamejfoeeaaGreatDoorTie.lean); close each card by the builder's one call (the guide's Derived/Test/ToyasCard.lean, 'card_holds'). Laid BY PROGRAM, IN A SANDBOX (cutbox-door.mjs). By AI agents, Wed Nov 11 2026. No macro, syntax, notation, axiom, sorry.
-/
import Derived.Test.YtihnmamejfoeeaaGreatDoorRows
import GoSem.ClaimSeven
namespace Go.Proofs.YtihnmamejfoeeaaGreatDoor
namespace Rows

/-- THE TIED CARD OF 'dragomanlaw06.IpatParses'. -/
def ipatParsesCard : Claim7 := { stood := { row := ipatParsesRow, standIns := [], harness := (true, "e311e9d17b04f66d07e6f003be26bef82e52110184aa13226687240defab647e"), looks := false }, kinds := [], alts := [], laidByText := true, laidKinds := [.data, .data, .data], laidTests := true, laidLooks := .later }
def IpatParsesCardSaid : Prop := Claim7.holds Tryz.pinned (.plain (OpenSpec.ofChange ipatParsesSpec)) ipatParsesCard

/-- THE TIED CARD OF 'dragomanlaw06.IpatPrints'. -/
def ipatPrintsCard : Claim7 := { stood := { row := ipatPrintsRow, standIns := [], harness := (true, "e311e9d17b04f66d07e6f003be26bef82e52110184aa13226687240defab647e"), looks := false }, kinds := [], alts := [], laidByText := true, laidKinds := [.data, .data, .data], laidTests := true, laidLooks := .later }
def IpatPrintsCardSaid : Prop := Claim7.holds Tryz.pinned (.plain (OpenSpec.ofChange ipatPrintsSpec)) ipatPrintsCard

/-- THE SECOND FORM's CARD OF 'dragomanlaw06.IpatParses'. -/
def ipatParsesUptoCard : Claim7 := { stood := { row := ipatParsesUptoRow, standIns := [], harness := (true, "e311e9d17b04f66d07e6f003be26bef82e52110184aa13226687240defab647e"), looks := false }, kinds := [], alts := [], laidByText := true, laidKinds := [.data, .data, .data], laidTests := true, laidLooks := .later }
def IpatParsesUptoCardSaid : Prop := Claim7.holds Tryz.pinned (.plain (OpenSpec.upto ipatParsesSpec)) ipatParsesUptoCard

/-- THE SECOND FORM's CARD OF 'dragomanlaw06.IpatPrints'. -/
def ipatPrintsUptoCard : Claim7 := { stood := { row := ipatPrintsUptoRow, standIns := [], harness := (true, "e311e9d17b04f66d07e6f003be26bef82e52110184aa13226687240defab647e"), looks := false }, kinds := [], alts := [], laidByText := true, laidKinds := [.data, .data, .data], laidTests := true, laidLooks := .later }
def IpatPrintsUptoCardSaid : Prop := Claim7.holds Tryz.pinned (.plain (OpenSpec.upto ipatPrintsSpec)) ipatPrintsUptoCard
end Rows
end Go.Proofs.YtihnmamejfoeeaaGreatDoor
