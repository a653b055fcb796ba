/-
  DERIVED. GIVEN WITH THE SEED: THE CARDS: each row of YtdnmcmbkmijgiaaDoorRows.lean that lists a variable, with what it lists TIED to the program's text (the seventh form; the later family's looks); each row that meets fmt, with fmt's text TOLD by the authors' own Lean function (tested against real Go, not proved from fmt's source: count such statements apart). THE CARD IS WHAT COUNTS. Prove the row's statement (the work); the ties are given (YtdnmcmbkmijgiaaDoorTie.lean); close each card by the builder's one call (the guide's Derived/Test/ToyasCard.lean, 'card_holds'). Laid BY PROGRAM, IN A SANDBOX (cutbox-door.mjs). By AI agents, Wed Nov 11 2026. No macro, syntax, notation, axiom, sorry.
-/
import Derived.Test.YtdnmcmbkmijgiaaDoorRows
import GoSem.ClaimSeven
namespace Go.Proofs.YtdnmcmbkmijgiaaDoor
namespace Rows

/-- THE TIED CARD OF 'dragomanlaw05.PatMatches'. -/
def patMatchesCard : Claim7 := { stood := { row := patMatchesRow, standIns := [], harness := (true, "127e77df961ed0c74b52be72dcd158931323189338db6b24cece84d4ac3bf579"), looks := false }, kinds := [], alts := [], laidByText := true, laidKinds := [.data], laidTests := true, laidLooks := .later }
def PatMatchesCardSaid : Prop := Claim7.holds Tryd.pinned (.plain (OpenSpec.ofChange patMatchesSpec)) patMatchesCard

/-- THE TIED CARD OF 'dragomanlaw05.PatSizes'. -/
def patSizesCard : Claim7 := { stood := { row := patSizesRow, standIns := [], harness := (true, "127e77df961ed0c74b52be72dcd158931323189338db6b24cece84d4ac3bf579"), looks := false }, kinds := [], alts := [], laidByText := true, laidKinds := [.data], laidTests := true, laidLooks := .later }
def PatSizesCardSaid : Prop := Claim7.holds Tryd.pinned (.plain (OpenSpec.ofChange patSizesSpec)) patSizesCard

/-- THE TIED CARD OF 'dragomanlaw05.PatTimes'. -/
def patTimesCard : Claim7 := { stood := { row := patTimesRow, standIns := [], harness := (true, "127e77df961ed0c74b52be72dcd158931323189338db6b24cece84d4ac3bf579"), looks := false }, kinds := [], alts := [], laidByText := true, laidKinds := [.data], laidTests := true, laidLooks := .later }
def PatTimesCardSaid : Prop := Claim7.holds Tryd.pinned (.plain (OpenSpec.ofChange patTimesSpec)) patTimesCard

/-- THE TIED CARD OF 'dragomanlaw05.PatJoins'. -/
def patJoinsCard : Claim7 := { stood := { row := patJoinsRow, standIns := [], harness := (true, "127e77df961ed0c74b52be72dcd158931323189338db6b24cece84d4ac3bf579"), looks := false }, kinds := [], alts := [], laidByText := true, laidKinds := [.data], laidTests := true, laidLooks := .later }
def PatJoinsCardSaid : Prop := Claim7.holds Tryd.pinned (.plain (OpenSpec.ofChange patJoinsSpec)) patJoinsCard

/-- THE TIED CARD OF 'dragomanlaw05.PatStars'. -/
def patStarsCard : Claim7 := { stood := { row := patStarsRow, standIns := [], harness := (true, "127e77df961ed0c74b52be72dcd158931323189338db6b24cece84d4ac3bf579"), looks := false }, kinds := [], alts := [], laidByText := true, laidKinds := [.data], laidTests := true, laidLooks := .later }
def PatStarsCardSaid : Prop := Claim7.holds Tryd.pinned (.plain (OpenSpec.ofChange patStarsSpec)) patStarsCard

/-- THE TIED CARD OF 'dragomanlaw05.PatCounts'. -/
def patCountsCard : Claim7 := { stood := { row := patCountsRow, standIns := [], harness := (true, "127e77df961ed0c74b52be72dcd158931323189338db6b24cece84d4ac3bf579"), looks := false }, kinds := [], alts := [], laidByText := true, laidKinds := [.data], laidTests := true, laidLooks := .later }
def PatCountsCardSaid : Prop := Claim7.holds Tryd.pinned (.plain (OpenSpec.ofChange patCountsSpec)) patCountsCard

/-- THE SECOND FORM's CARD OF 'dragomanlaw05.PatMatches'. -/
def patMatchesUptoCard : Claim7 := { stood := { row := patMatchesUptoRow, standIns := [], harness := (true, "127e77df961ed0c74b52be72dcd158931323189338db6b24cece84d4ac3bf579"), looks := false }, kinds := [], alts := [], laidByText := true, laidKinds := [.data], laidTests := true, laidLooks := .later }
def PatMatchesUptoCardSaid : Prop := Claim7.holds Tryd.pinned (.plain (OpenSpec.upto patMatchesSpec)) patMatchesUptoCard

/-- THE SECOND FORM's CARD OF 'dragomanlaw05.PatSizes'. -/
def patSizesUptoCard : Claim7 := { stood := { row := patSizesUptoRow, standIns := [], harness := (true, "127e77df961ed0c74b52be72dcd158931323189338db6b24cece84d4ac3bf579"), looks := false }, kinds := [], alts := [], laidByText := true, laidKinds := [.data], laidTests := true, laidLooks := .later }
def PatSizesUptoCardSaid : Prop := Claim7.holds Tryd.pinned (.plain (OpenSpec.upto patSizesSpec)) patSizesUptoCard

/-- THE SECOND FORM's CARD OF 'dragomanlaw05.PatTimes'. -/
def patTimesUptoCard : Claim7 := { stood := { row := patTimesUptoRow, standIns := [], harness := (true, "127e77df961ed0c74b52be72dcd158931323189338db6b24cece84d4ac3bf579"), looks := false }, kinds := [], alts := [], laidByText := true, laidKinds := [.data], laidTests := true, laidLooks := .later }
def PatTimesUptoCardSaid : Prop := Claim7.holds Tryd.pinned (.plain (OpenSpec.upto patTimesSpec)) patTimesUptoCard

/-- THE SECOND FORM's CARD OF 'dragomanlaw05.PatJoins'. -/
def patJoinsUptoCard : Claim7 := { stood := { row := patJoinsUptoRow, standIns := [], harness := (true, "127e77df961ed0c74b52be72dcd158931323189338db6b24cece84d4ac3bf579"), looks := false }, kinds := [], alts := [], laidByText := true, laidKinds := [.data], laidTests := true, laidLooks := .later }
def PatJoinsUptoCardSaid : Prop := Claim7.holds Tryd.pinned (.plain (OpenSpec.upto patJoinsSpec)) patJoinsUptoCard

/-- THE SECOND FORM's CARD OF 'dragomanlaw05.PatStars'. -/
def patStarsUptoCard : Claim7 := { stood := { row := patStarsUptoRow, standIns := [], harness := (true, "127e77df961ed0c74b52be72dcd158931323189338db6b24cece84d4ac3bf579"), looks := false }, kinds := [], alts := [], laidByText := true, laidKinds := [.data], laidTests := true, laidLooks := .later }
def PatStarsUptoCardSaid : Prop := Claim7.holds Tryd.pinned (.plain (OpenSpec.upto patStarsSpec)) patStarsUptoCard

/-- THE SECOND FORM's CARD OF 'dragomanlaw05.PatCounts'. -/
def patCountsUptoCard : Claim7 := { stood := { row := patCountsUptoRow, standIns := [], harness := (true, "127e77df961ed0c74b52be72dcd158931323189338db6b24cece84d4ac3bf579"), looks := false }, kinds := [], alts := [], laidByText := true, laidKinds := [.data], laidTests := true, laidLooks := .later }
def PatCountsUptoCardSaid : Prop := Claim7.holds Tryd.pinned (.plain (OpenSpec.upto patCountsSpec)) patCountsUptoCard
end Rows
end Go.Proofs.YtdnmcmbkmijgiaaDoor
