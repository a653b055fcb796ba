/-
  DERIVED. GIVEN WITH THE SEED: THE CARDS: each row of YtjjlkjfhhpogaaaGreatDoorRows.lean that lists a variable, with what it lists TIED to the program's text (the seventh form; the later family's looks); each row that meets fmt, with fmt's text TOLD by the authors' own Lean function (tested against real Go, not proved from fmt's source: count such statements apart). THE CARD IS WHAT COUNTS. Prove the row's statement (the work); the ties are given (YtjjlkjfhhpogaaaGreatDoorTie.lean); close each card by the builder's one call (the guide's Derived/Test/ToyasCard.lean, 'card_holds'). Laid BY PROGRAM, IN A SANDBOX (cutbox-door.mjs). By AI agents, Wed Nov 11 2026. No macro, syntax, notation, axiom, sorry.
-/
import Derived.Test.YtjjlkjfhhpogaaaGreatDoorRows
import GoSem.ClaimSeven
namespace Go.Proofs.YtjjlkjfhhpogaaaGreatDoor
namespace Rows

/-- THE TIED CARD OF 'dragomanlaw06.IpatParses'. -/
def ipatParsesCard : Claim7 := { stood := { row := ipatParsesRow, standIns := [], harness := (true, "c122d87051fce4faf4ad4f39acfd8db594b2c3ede6831e8f4a78bda362f70688"), looks := false }, kinds := [], alts := [], laidByText := true, laidKinds := [.data, .data, .data], laidTests := true, laidLooks := .later }
def IpatParsesCardSaid : Prop := Claim7.holds Tryz.pinned (.plain (OpenSpec.ofChange ipatParsesSpec)) ipatParsesCard

/-- THE TIED CARD OF 'dragomanlaw06.IpatPrints'. -/
def ipatPrintsCard : Claim7 := { stood := { row := ipatPrintsRow, standIns := [], harness := (true, "c122d87051fce4faf4ad4f39acfd8db594b2c3ede6831e8f4a78bda362f70688"), looks := false }, kinds := [], alts := [], laidByText := true, laidKinds := [.data, .data, .data], laidTests := true, laidLooks := .later }
def IpatPrintsCardSaid : Prop := Claim7.holds Tryz.pinned (.plain (OpenSpec.ofChange ipatPrintsSpec)) ipatPrintsCard

/-- THE TIED CARD OF 'dragomanlaw06.IpatBack'. -/
def ipatBackCard : Claim7 := { stood := { row := ipatBackRow, standIns := [], harness := (true, "c122d87051fce4faf4ad4f39acfd8db594b2c3ede6831e8f4a78bda362f70688"), looks := false }, kinds := [], alts := [], laidByText := true, laidKinds := [.data, .data, .data], laidTests := true, laidLooks := .later }
def IpatBackCardSaid : Prop := Claim7.holds Tryz.pinned (.plain (OpenSpec.ofChange ipatBackSpec)) ipatBackCard

/-- THE TIED CARD OF 'dragomanlaw06.IpatSigns'. -/
def ipatSignsCard : Claim7 := { stood := { row := ipatSignsRow, standIns := [], harness := (true, "c122d87051fce4faf4ad4f39acfd8db594b2c3ede6831e8f4a78bda362f70688"), looks := false }, kinds := [], alts := [], laidByText := true, laidKinds := [.data, .data, .data], laidTests := true, laidLooks := .later }
def IpatSignsCardSaid : Prop := Claim7.holds Tryz.pinned (.plain (OpenSpec.ofChange ipatSignsSpec)) ipatSignsCard

/-- THE TIED CARD OF 'dragomanlaw07.JpatPrints'. -/
def jpatPrintsCard : Claim7 := { stood := { row := jpatPrintsRow, standIns := [], harness := (true, "c122d87051fce4faf4ad4f39acfd8db594b2c3ede6831e8f4a78bda362f70688"), looks := false }, kinds := [], alts := [], laidByText := true, laidKinds := [.data, .data, .data], laidTests := true, laidLooks := .later }
def JpatPrintsCardSaid : Prop := Claim7.holds Tryz.pinned (.plain (OpenSpec.ofChange jpatPrintsSpec)) jpatPrintsCard

/-- THE TIED CARD OF 'dragomanlaw07.JpatBack'. -/
def jpatBackCard : Claim7 := { stood := { row := jpatBackRow, standIns := [], harness := (true, "c122d87051fce4faf4ad4f39acfd8db594b2c3ede6831e8f4a78bda362f70688"), looks := false }, kinds := [], alts := [], laidByText := true, laidKinds := [.data, .data, .data], laidTests := true, laidLooks := .later }
def JpatBackCardSaid : Prop := Claim7.holds Tryz.pinned (.plain (OpenSpec.ofChange jpatBackSpec)) jpatBackCard

/-- THE TIED CARD OF 'dragomanlaw07.JpatBoth'. -/
def jpatBothCard : Claim7 := { stood := { row := jpatBothRow, standIns := [], harness := (true, "c122d87051fce4faf4ad4f39acfd8db594b2c3ede6831e8f4a78bda362f70688"), looks := false }, kinds := [], alts := [], laidByText := true, laidKinds := [.data, .data, .data], laidTests := true, laidLooks := .later }
def JpatBothCardSaid : Prop := Claim7.holds Tryz.pinned (.plain (OpenSpec.ofChange jpatBothSpec)) jpatBothCard

/-- THE SECOND FORM's CARD OF 'dragomanlaw06.IpatParses'. -/
def ipatParsesUptoCard : Claim7 := { stood := { row := ipatParsesUptoRow, standIns := [], harness := (true, "c122d87051fce4faf4ad4f39acfd8db594b2c3ede6831e8f4a78bda362f70688"), looks := false }, kinds := [], alts := [], laidByText := true, laidKinds := [.data, .data, .data], laidTests := true, laidLooks := .later }
def IpatParsesUptoCardSaid : Prop := Claim7.holds Tryz.pinned (.plain (OpenSpec.upto ipatParsesSpec)) ipatParsesUptoCard

/-- THE SECOND FORM's CARD OF 'dragomanlaw06.IpatPrints'. -/
def ipatPrintsUptoCard : Claim7 := { stood := { row := ipatPrintsUptoRow, standIns := [], harness := (true, "c122d87051fce4faf4ad4f39acfd8db594b2c3ede6831e8f4a78bda362f70688"), looks := false }, kinds := [], alts := [], laidByText := true, laidKinds := [.data, .data, .data], laidTests := true, laidLooks := .later }
def IpatPrintsUptoCardSaid : Prop := Claim7.holds Tryz.pinned (.plain (OpenSpec.upto ipatPrintsSpec)) ipatPrintsUptoCard

/-- THE SECOND FORM's CARD OF 'dragomanlaw06.IpatBack'. -/
def ipatBackUptoCard : Claim7 := { stood := { row := ipatBackUptoRow, standIns := [], harness := (true, "c122d87051fce4faf4ad4f39acfd8db594b2c3ede6831e8f4a78bda362f70688"), looks := false }, kinds := [], alts := [], laidByText := true, laidKinds := [.data, .data, .data], laidTests := true, laidLooks := .later }
def IpatBackUptoCardSaid : Prop := Claim7.holds Tryz.pinned (.plain (OpenSpec.upto ipatBackSpec)) ipatBackUptoCard

/-- THE SECOND FORM's CARD OF 'dragomanlaw06.IpatSigns'. -/
def ipatSignsUptoCard : Claim7 := { stood := { row := ipatSignsUptoRow, standIns := [], harness := (true, "c122d87051fce4faf4ad4f39acfd8db594b2c3ede6831e8f4a78bda362f70688"), looks := false }, kinds := [], alts := [], laidByText := true, laidKinds := [.data, .data, .data], laidTests := true, laidLooks := .later }
def IpatSignsUptoCardSaid : Prop := Claim7.holds Tryz.pinned (.plain (OpenSpec.upto ipatSignsSpec)) ipatSignsUptoCard

/-- THE SECOND FORM's CARD OF 'dragomanlaw07.JpatPrints'. -/
def jpatPrintsUptoCard : Claim7 := { stood := { row := jpatPrintsUptoRow, standIns := [], harness := (true, "c122d87051fce4faf4ad4f39acfd8db594b2c3ede6831e8f4a78bda362f70688"), looks := false }, kinds := [], alts := [], laidByText := true, laidKinds := [.data, .data, .data], laidTests := true, laidLooks := .later }
def JpatPrintsUptoCardSaid : Prop := Claim7.holds Tryz.pinned (.plain (OpenSpec.upto jpatPrintsSpec)) jpatPrintsUptoCard

/-- THE SECOND FORM's CARD OF 'dragomanlaw07.JpatBack'. -/
def jpatBackUptoCard : Claim7 := { stood := { row := jpatBackUptoRow, standIns := [], harness := (true, "c122d87051fce4faf4ad4f39acfd8db594b2c3ede6831e8f4a78bda362f70688"), looks := false }, kinds := [], alts := [], laidByText := true, laidKinds := [.data, .data, .data], laidTests := true, laidLooks := .later }
def JpatBackUptoCardSaid : Prop := Claim7.holds Tryz.pinned (.plain (OpenSpec.upto jpatBackSpec)) jpatBackUptoCard

/-- THE SECOND FORM's CARD OF 'dragomanlaw07.JpatBoth'. -/
def jpatBothUptoCard : Claim7 := { stood := { row := jpatBothUptoRow, standIns := [], harness := (true, "c122d87051fce4faf4ad4f39acfd8db594b2c3ede6831e8f4a78bda362f70688"), looks := false }, kinds := [], alts := [], laidByText := true, laidKinds := [.data, .data, .data], laidTests := true, laidLooks := .later }
def JpatBothUptoCardSaid : Prop := Claim7.holds Tryz.pinned (.plain (OpenSpec.upto jpatBothSpec)) jpatBothUptoCard
end Rows
end Go.Proofs.YtjjlkjfhhpogaaaGreatDoor
