/-
  DERIVED. GIVEN WITH THE SEED: THE CARDS: each row of YtihnmamejfoeeaaDoorRows.lean that lists a variable, with what it lists TIED to the program's text (the seventh form; the later family's looks); each row that meets fmt, with fmt's text TOLD by the authors' own Lean function (tested against real Go, not proved from fmt's source: count such statements apart). THE CARD IS WHAT COUNTS. Prove the row's statement (the work); the ties are given (YtihnmamejfoeeaaDoorTie.lean); close each card by the builder's one call (the guide's Derived/Test/ToyasCard.lean, 'card_holds'). Laid BY PROGRAM, IN A SANDBOX (cutbox-door.mjs). By AI agents, Wed Nov 11 2026. No macro, syntax, notation, axiom, sorry.
-/
import Derived.Test.YtihnmamejfoeeaaDoorRows
import GoSem.ClaimSeven
namespace Go.Proofs.YtihnmamejfoeeaaDoor
namespace Rows

/-- THE TIED CARD OF 'dragomanlaw06.IpatBack'. -/
def ipatBackCard : Claim7 := { stood := { row := ipatBackRow, standIns := [], harness := (true, "406e74499737d0da3cf825aff4148465a3dba5ebd6b900276e9642e6588cf924"), looks := false }, kinds := [], alts := [], laidByText := true, laidKinds := [.data, .data, .data], laidTests := true, laidLooks := .later }
def IpatBackCardSaid : Prop := Claim7.holds Tryd.pinned (.plain (OpenSpec.ofChange ipatBackSpec)) ipatBackCard

/-- THE TIED CARD OF 'dragomanlaw06.IpatSigns'. -/
def ipatSignsCard : Claim7 := { stood := { row := ipatSignsRow, standIns := [], harness := (true, "406e74499737d0da3cf825aff4148465a3dba5ebd6b900276e9642e6588cf924"), looks := false }, kinds := [], alts := [], laidByText := true, laidKinds := [.data, .data, .data], laidTests := true, laidLooks := .later }
def IpatSignsCardSaid : Prop := Claim7.holds Tryd.pinned (.plain (OpenSpec.ofChange ipatSignsSpec)) ipatSignsCard

/-- THE TIED CARD OF 'dragomanlaw06.IpatLong'. -/
def ipatLongCard : Claim7 := { stood := { row := ipatLongRow, standIns := [], harness := (true, "406e74499737d0da3cf825aff4148465a3dba5ebd6b900276e9642e6588cf924"), looks := false }, kinds := [], alts := [], laidByText := true, laidKinds := [.data, .data, .data], laidTests := true, laidLooks := .later }
def IpatLongCardSaid : Prop := Claim7.holds Tryd.pinned (.plain (OpenSpec.ofChange ipatLongSpec)) ipatLongCard

/-- THE SECOND FORM's CARD OF 'dragomanlaw06.IpatBack'. -/
def ipatBackUptoCard : Claim7 := { stood := { row := ipatBackUptoRow, standIns := [], harness := (true, "406e74499737d0da3cf825aff4148465a3dba5ebd6b900276e9642e6588cf924"), looks := false }, kinds := [], alts := [], laidByText := true, laidKinds := [.data, .data, .data], laidTests := true, laidLooks := .later }
def IpatBackUptoCardSaid : Prop := Claim7.holds Tryd.pinned (.plain (OpenSpec.upto ipatBackSpec)) ipatBackUptoCard

/-- THE SECOND FORM's CARD OF 'dragomanlaw06.IpatSigns'. -/
def ipatSignsUptoCard : Claim7 := { stood := { row := ipatSignsUptoRow, standIns := [], harness := (true, "406e74499737d0da3cf825aff4148465a3dba5ebd6b900276e9642e6588cf924"), looks := false }, kinds := [], alts := [], laidByText := true, laidKinds := [.data, .data, .data], laidTests := true, laidLooks := .later }
def IpatSignsUptoCardSaid : Prop := Claim7.holds Tryd.pinned (.plain (OpenSpec.upto ipatSignsSpec)) ipatSignsUptoCard

/-- THE SECOND FORM's CARD OF 'dragomanlaw06.IpatLong'. -/
def ipatLongUptoCard : Claim7 := { stood := { row := ipatLongUptoRow, standIns := [], harness := (true, "406e74499737d0da3cf825aff4148465a3dba5ebd6b900276e9642e6588cf924"), looks := false }, kinds := [], alts := [], laidByText := true, laidKinds := [.data, .data, .data], laidTests := true, laidLooks := .later }
def IpatLongUptoCardSaid : Prop := Claim7.holds Tryd.pinned (.plain (OpenSpec.upto ipatLongSpec)) ipatLongUptoCard
end Rows
end Go.Proofs.YtihnmamejfoeeaaDoor
