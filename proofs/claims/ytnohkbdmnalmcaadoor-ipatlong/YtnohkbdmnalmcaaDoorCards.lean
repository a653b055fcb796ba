/-
  DERIVED. GIVEN WITH THE SEED: THE CARDS: each row of YtnohkbdmnalmcaaDoorRows.lean that lists a variable, with what it lists TIED to the program's text (the seventh form; the later family's looks); each row that meets fmt, with fmt's text TOLD by the authors' own Lean function (tested against real Go, not proved from fmt's source: count such statements apart). THE CARD IS WHAT COUNTS. Prove the row's statement (the work); the ties are given (YtnohkbdmnalmcaaDoorTie.lean); close each card by the builder's one call (the guide's Derived/Test/ToyasCard.lean, 'card_holds'). Laid BY PROGRAM, IN A SANDBOX (cutbox-door.mjs). By AI agents, Wed Nov 11 2026. No macro, syntax, notation, axiom, sorry.
-/
import Derived.Test.YtnohkbdmnalmcaaDoorRows
import GoSem.ClaimSeven
namespace Go.Proofs.YtnohkbdmnalmcaaDoor
namespace Rows

/-- THE TIED CARD OF 'dragomanlaw06.IpatLong'. -/
def ipatLongCard : Claim7 := { stood := { row := ipatLongRow, standIns := [], harness := (true, "212974564393fa3a3240b68e97403bfea8e385fc4aac68e8f6fa791f5a08b55f"), looks := false }, kinds := [], alts := [], laidByText := true, laidKinds := [.data, .data, .data], laidTests := true, laidLooks := .later }
def IpatLongCardSaid : Prop := Claim7.holds Tryd.pinned (.plain (OpenSpec.ofChange ipatLongSpec)) ipatLongCard

/-- THE SECOND FORM's CARD OF 'dragomanlaw06.IpatLong'. -/
def ipatLongUptoCard : Claim7 := { stood := { row := ipatLongUptoRow, standIns := [], harness := (true, "212974564393fa3a3240b68e97403bfea8e385fc4aac68e8f6fa791f5a08b55f"), looks := false }, kinds := [], alts := [], laidByText := true, laidKinds := [.data, .data, .data], laidTests := true, laidLooks := .later }
def IpatLongUptoCardSaid : Prop := Claim7.holds Tryd.pinned (.plain (OpenSpec.upto ipatLongSpec)) ipatLongUptoCard
end Rows
end Go.Proofs.YtnohkbdmnalmcaaDoor
