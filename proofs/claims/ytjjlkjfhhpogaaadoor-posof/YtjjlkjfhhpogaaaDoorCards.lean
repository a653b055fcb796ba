/-
  DERIVED. GIVEN WITH THE SEED: THE CARDS: each row of YtjjlkjfhhpogaaaDoorRows.lean that lists a variable, with what it lists TIED to the program's text (the seventh form; the later family's looks); each row that meets fmt, with fmt's text TOLD by the authors' own Lean function (tested against real Go, not proved from fmt's source: count such statements apart). THE CARD IS WHAT COUNTS. Prove the row's statement (the work); the ties are given (YtjjlkjfhhpogaaaDoorTie.lean); close each card by the builder's one call (the guide's Derived/Test/ToyasCard.lean, 'card_holds'). Laid BY PROGRAM, IN A SANDBOX (cutbox-door.mjs). By AI agents, Wed Nov 11 2026. No macro, syntax, notation, axiom, sorry.
-/
import Derived.Test.YtjjlkjfhhpogaaaDoorRows
import GoSem.ClaimSeven
namespace Go.Proofs.YtjjlkjfhhpogaaaDoor
namespace Rows

/-- THE TIED CARD OF 'dragomanlaw05.PatMatches'. -/
def patMatchesCard : Claim7 := { stood := { row := patMatchesRow, standIns := [], harness := (true, "8773d838520f66c1914d0f497d2ee774f89b504c076fac54f1053e8f5fd85a59"), looks := false }, kinds := [], alts := [], laidByText := true, laidKinds := [.data], laidTests := true, laidLooks := .later }
def PatMatchesCardSaid : Prop := Claim7.holds Tryd.pinned (.plain (OpenSpec.ofChange patMatchesSpec)) patMatchesCard

/-- THE TIED CARD OF 'dragomanlaw05.PatSizes'. -/
def patSizesCard : Claim7 := { stood := { row := patSizesRow, standIns := [], harness := (true, "8773d838520f66c1914d0f497d2ee774f89b504c076fac54f1053e8f5fd85a59"), looks := false }, kinds := [], alts := [], laidByText := true, laidKinds := [.data], laidTests := true, laidLooks := .later }
def PatSizesCardSaid : Prop := Claim7.holds Tryd.pinned (.plain (OpenSpec.ofChange patSizesSpec)) patSizesCard

/-- THE TIED CARD OF 'dragomanlaw05.PatTimes'. -/
def patTimesCard : Claim7 := { stood := { row := patTimesRow, standIns := [], harness := (true, "8773d838520f66c1914d0f497d2ee774f89b504c076fac54f1053e8f5fd85a59"), looks := false }, kinds := [], alts := [], laidByText := true, laidKinds := [.data], laidTests := true, laidLooks := .later }
def PatTimesCardSaid : Prop := Claim7.holds Tryd.pinned (.plain (OpenSpec.ofChange patTimesSpec)) patTimesCard

/-- THE TIED CARD OF 'dragomanlaw05.PatJoins'. -/
def patJoinsCard : Claim7 := { stood := { row := patJoinsRow, standIns := [], harness := (true, "8773d838520f66c1914d0f497d2ee774f89b504c076fac54f1053e8f5fd85a59"), looks := false }, kinds := [], alts := [], laidByText := true, laidKinds := [.data], laidTests := true, laidLooks := .later }
def PatJoinsCardSaid : Prop := Claim7.holds Tryd.pinned (.plain (OpenSpec.ofChange patJoinsSpec)) patJoinsCard

/-- THE TIED CARD OF 'dragomanlaw05.PatStars'. -/
def patStarsCard : Claim7 := { stood := { row := patStarsRow, standIns := [], harness := (true, "8773d838520f66c1914d0f497d2ee774f89b504c076fac54f1053e8f5fd85a59"), looks := false }, kinds := [], alts := [], laidByText := true, laidKinds := [.data], laidTests := true, laidLooks := .later }
def PatStarsCardSaid : Prop := Claim7.holds Tryd.pinned (.plain (OpenSpec.ofChange patStarsSpec)) patStarsCard

/-- THE TIED CARD OF 'dragomanlaw05.PatCounts'. -/
def patCountsCard : Claim7 := { stood := { row := patCountsRow, standIns := [], harness := (true, "8773d838520f66c1914d0f497d2ee774f89b504c076fac54f1053e8f5fd85a59"), looks := false }, kinds := [], alts := [], laidByText := true, laidKinds := [.data], laidTests := true, laidLooks := .later }
def PatCountsCardSaid : Prop := Claim7.holds Tryd.pinned (.plain (OpenSpec.ofChange patCountsSpec)) patCountsCard

/-- THE TIED CARD OF 'dragomanlaw06.IpatLong'. -/
def ipatLongCard : Claim7 := { stood := { row := ipatLongRow, standIns := [], harness := (true, "8773d838520f66c1914d0f497d2ee774f89b504c076fac54f1053e8f5fd85a59"), looks := false }, kinds := [], alts := [], laidByText := true, laidKinds := [.data, .data, .data], laidTests := true, laidLooks := .later }
def IpatLongCardSaid : Prop := Claim7.holds Tryd.pinned (.plain (OpenSpec.ofChange ipatLongSpec)) ipatLongCard

/-- THE TIED CARD OF 'dragomanlaw08.PosOf'. -/
def posOfCard : Claim7 := { stood := { row := posOfRow, standIns := [], harness := (true, "8773d838520f66c1914d0f497d2ee774f89b504c076fac54f1053e8f5fd85a59"), looks := false }, kinds := [], alts := [], laidByText := true, laidKinds := [.data], laidTests := true, laidLooks := .later }
def PosOfCardSaid : Prop := Claim7.holds Tryd.pinned (.plain (OpenSpec.ofChange posOfSpec)) posOfCard

/-- THE TIED CARD OF 'dragomanlaw08.PosRuns'. -/
def posRunsCard : Claim7 := { stood := { row := posRunsRow, standIns := [], harness := (true, "8773d838520f66c1914d0f497d2ee774f89b504c076fac54f1053e8f5fd85a59"), looks := false }, kinds := [], alts := [], laidByText := true, laidKinds := [.data], laidTests := true, laidLooks := .later }
def PosRunsCardSaid : Prop := Claim7.holds Tryd.pinned (.plain (OpenSpec.ofChange posRunsSpec)) posRunsCard

/-- THE TIED CARD OF 'dragomanlaw08.PosEnds'. -/
def posEndsCard : Claim7 := { stood := { row := posEndsRow, standIns := [], harness := (true, "8773d838520f66c1914d0f497d2ee774f89b504c076fac54f1053e8f5fd85a59"), looks := false }, kinds := [], alts := [], laidByText := true, laidKinds := [.data], laidTests := true, laidLooks := .later }
def PosEndsCardSaid : Prop := Claim7.holds Tryd.pinned (.plain (OpenSpec.ofChange posEndsSpec)) posEndsCard

/-- THE TIED CARD OF 'dragomanlaw08.PosStars'. -/
def posStarsCard : Claim7 := { stood := { row := posStarsRow, standIns := [], harness := (true, "8773d838520f66c1914d0f497d2ee774f89b504c076fac54f1053e8f5fd85a59"), looks := false }, kinds := [], alts := [], laidByText := true, laidKinds := [.data], laidTests := true, laidLooks := .later }
def PosStarsCardSaid : Prop := Claim7.holds Tryd.pinned (.plain (OpenSpec.ofChange posStarsSpec)) posStarsCard

/-- THE SECOND FORM's CARD OF 'dragomanlaw05.PatMatches'. -/
def patMatchesUptoCard : Claim7 := { stood := { row := patMatchesUptoRow, standIns := [], harness := (true, "8773d838520f66c1914d0f497d2ee774f89b504c076fac54f1053e8f5fd85a59"), looks := false }, kinds := [], alts := [], laidByText := true, laidKinds := [.data], laidTests := true, laidLooks := .later }
def PatMatchesUptoCardSaid : Prop := Claim7.holds Tryd.pinned (.plain (OpenSpec.upto patMatchesSpec)) patMatchesUptoCard

/-- THE SECOND FORM's CARD OF 'dragomanlaw05.PatSizes'. -/
def patSizesUptoCard : Claim7 := { stood := { row := patSizesUptoRow, standIns := [], harness := (true, "8773d838520f66c1914d0f497d2ee774f89b504c076fac54f1053e8f5fd85a59"), looks := false }, kinds := [], alts := [], laidByText := true, laidKinds := [.data], laidTests := true, laidLooks := .later }
def PatSizesUptoCardSaid : Prop := Claim7.holds Tryd.pinned (.plain (OpenSpec.upto patSizesSpec)) patSizesUptoCard

/-- THE SECOND FORM's CARD OF 'dragomanlaw05.PatTimes'. -/
def patTimesUptoCard : Claim7 := { stood := { row := patTimesUptoRow, standIns := [], harness := (true, "8773d838520f66c1914d0f497d2ee774f89b504c076fac54f1053e8f5fd85a59"), looks := false }, kinds := [], alts := [], laidByText := true, laidKinds := [.data], laidTests := true, laidLooks := .later }
def PatTimesUptoCardSaid : Prop := Claim7.holds Tryd.pinned (.plain (OpenSpec.upto patTimesSpec)) patTimesUptoCard

/-- THE SECOND FORM's CARD OF 'dragomanlaw05.PatJoins'. -/
def patJoinsUptoCard : Claim7 := { stood := { row := patJoinsUptoRow, standIns := [], harness := (true, "8773d838520f66c1914d0f497d2ee774f89b504c076fac54f1053e8f5fd85a59"), looks := false }, kinds := [], alts := [], laidByText := true, laidKinds := [.data], laidTests := true, laidLooks := .later }
def PatJoinsUptoCardSaid : Prop := Claim7.holds Tryd.pinned (.plain (OpenSpec.upto patJoinsSpec)) patJoinsUptoCard

/-- THE SECOND FORM's CARD OF 'dragomanlaw05.PatStars'. -/
def patStarsUptoCard : Claim7 := { stood := { row := patStarsUptoRow, standIns := [], harness := (true, "8773d838520f66c1914d0f497d2ee774f89b504c076fac54f1053e8f5fd85a59"), looks := false }, kinds := [], alts := [], laidByText := true, laidKinds := [.data], laidTests := true, laidLooks := .later }
def PatStarsUptoCardSaid : Prop := Claim7.holds Tryd.pinned (.plain (OpenSpec.upto patStarsSpec)) patStarsUptoCard

/-- THE SECOND FORM's CARD OF 'dragomanlaw05.PatCounts'. -/
def patCountsUptoCard : Claim7 := { stood := { row := patCountsUptoRow, standIns := [], harness := (true, "8773d838520f66c1914d0f497d2ee774f89b504c076fac54f1053e8f5fd85a59"), looks := false }, kinds := [], alts := [], laidByText := true, laidKinds := [.data], laidTests := true, laidLooks := .later }
def PatCountsUptoCardSaid : Prop := Claim7.holds Tryd.pinned (.plain (OpenSpec.upto patCountsSpec)) patCountsUptoCard

/-- THE SECOND FORM's CARD OF 'dragomanlaw06.IpatLong'. -/
def ipatLongUptoCard : Claim7 := { stood := { row := ipatLongUptoRow, standIns := [], harness := (true, "8773d838520f66c1914d0f497d2ee774f89b504c076fac54f1053e8f5fd85a59"), looks := false }, kinds := [], alts := [], laidByText := true, laidKinds := [.data, .data, .data], laidTests := true, laidLooks := .later }
def IpatLongUptoCardSaid : Prop := Claim7.holds Tryd.pinned (.plain (OpenSpec.upto ipatLongSpec)) ipatLongUptoCard

/-- THE SECOND FORM's CARD OF 'dragomanlaw08.PosOf'. -/
def posOfUptoCard : Claim7 := { stood := { row := posOfUptoRow, standIns := [], harness := (true, "8773d838520f66c1914d0f497d2ee774f89b504c076fac54f1053e8f5fd85a59"), looks := false }, kinds := [], alts := [], laidByText := true, laidKinds := [.data], laidTests := true, laidLooks := .later }
def PosOfUptoCardSaid : Prop := Claim7.holds Tryd.pinned (.plain (OpenSpec.upto posOfSpec)) posOfUptoCard

/-- THE SECOND FORM's CARD OF 'dragomanlaw08.PosRuns'. -/
def posRunsUptoCard : Claim7 := { stood := { row := posRunsUptoRow, standIns := [], harness := (true, "8773d838520f66c1914d0f497d2ee774f89b504c076fac54f1053e8f5fd85a59"), looks := false }, kinds := [], alts := [], laidByText := true, laidKinds := [.data], laidTests := true, laidLooks := .later }
def PosRunsUptoCardSaid : Prop := Claim7.holds Tryd.pinned (.plain (OpenSpec.upto posRunsSpec)) posRunsUptoCard

/-- THE SECOND FORM's CARD OF 'dragomanlaw08.PosEnds'. -/
def posEndsUptoCard : Claim7 := { stood := { row := posEndsUptoRow, standIns := [], harness := (true, "8773d838520f66c1914d0f497d2ee774f89b504c076fac54f1053e8f5fd85a59"), looks := false }, kinds := [], alts := [], laidByText := true, laidKinds := [.data], laidTests := true, laidLooks := .later }
def PosEndsUptoCardSaid : Prop := Claim7.holds Tryd.pinned (.plain (OpenSpec.upto posEndsSpec)) posEndsUptoCard

/-- THE SECOND FORM's CARD OF 'dragomanlaw08.PosStars'. -/
def posStarsUptoCard : Claim7 := { stood := { row := posStarsUptoRow, standIns := [], harness := (true, "8773d838520f66c1914d0f497d2ee774f89b504c076fac54f1053e8f5fd85a59"), looks := false }, kinds := [], alts := [], laidByText := true, laidKinds := [.data], laidTests := true, laidLooks := .later }
def PosStarsUptoCardSaid : Prop := Claim7.holds Tryd.pinned (.plain (OpenSpec.upto posStarsSpec)) posStarsUptoCard
end Rows
end Go.Proofs.YtjjlkjfhhpogaaaDoor
