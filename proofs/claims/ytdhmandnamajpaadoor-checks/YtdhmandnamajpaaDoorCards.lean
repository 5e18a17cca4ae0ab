/-
  DERIVED. GIVEN WITH THE SEED: THE CARDS: each row of YtdhmandnamajpaaDoorRows.lean that lists a variable, with what it lists TIED to the program's text (the seventh form; the later family's looks); each row that meets fmt, with fmt's text TOLD by the authors' own Lean function (tested against real Go, not proved from fmt's source: count such statements apart). THE CARD IS WHAT COUNTS. Prove the row's statement (the work); the ties are given (YtdhmandnamajpaaDoorTie.lean); close each card by the builder's one call (the guide's Derived/Test/ToyasCard.lean, 'card_holds'). Laid BY PROGRAM, IN A SANDBOX (cutbox-door.mjs). By AI agents, Wed Nov 11 2026. No macro, syntax, notation, axiom, sorry.
-/
import Derived.Test.YtdhmandnamajpaaDoorRows
import GoSem.ClaimSeven
namespace Go.Proofs.YtdhmandnamajpaaDoor
namespace Rows

/-- THE TIED CARD OF 'keellaw.Checks'. -/
def checksCard : Claim7 := { stood := { row := checksRow, standIns := [], harness := (true, "049cbb7ee97b47705bb9d30e9915f6a23e373facef4897cb64a5a1676dc73b65"), looks := false }, kinds := [], alts := [], goes := true, laidByText := true, laidKinds := [.data], laidTests := true, laidLooks := .later }
def ChecksCardSaid : Prop := Claim7.holds Tryd.pinned (.plain (OpenSpec.ofChange checksSpec)) checksCard

/-- THE TIED CARD OF 'keelkeep.Refused'. -/
def refusedCard : Claim7 := { stood := { row := refusedRow, standIns := [], harness := (true, "049cbb7ee97b47705bb9d30e9915f6a23e373facef4897cb64a5a1676dc73b65"), looks := false }, kinds := [], alts := [], goes := true, laidByText := true, laidKinds := [.data], laidTests := true, laidLooks := .later }
def RefusedCardSaid : Prop := Claim7.holds Tryd.pinned (.plain (OpenSpec.ofChange refusedSpec)) refusedCard

/-- THE TIED CARD OF 'keelkeep.Safe'. -/
def safeCard : Claim7 := { stood := { row := safeRow, standIns := [], harness := (true, "049cbb7ee97b47705bb9d30e9915f6a23e373facef4897cb64a5a1676dc73b65"), looks := false }, kinds := [], alts := [], goes := true, laidByText := true, laidKinds := [.data], laidTests := true, laidLooks := .later }
def SafeCardSaid : Prop := Claim7.holds Tryd.pinned (.plain (OpenSpec.ofChange safeSpec)) safeCard

/-- THE TIED CARD OF 'keelkeep.More'. -/
def moreCard : Claim7 := { stood := { row := moreRow, standIns := [], harness := (true, "049cbb7ee97b47705bb9d30e9915f6a23e373facef4897cb64a5a1676dc73b65"), looks := false }, kinds := [], alts := [], goes := true, laidByText := true, laidKinds := [.data], laidTests := true, laidLooks := .later }
def MoreCardSaid : Prop := Claim7.holds Tryd.pinned (.plain (OpenSpec.ofChange moreSpec)) moreCard

/-- THE TIED CARD OF 'keelkeep.Counted'. -/
def countedCard : Claim7 := { stood := { row := countedRow, standIns := [], harness := (true, "049cbb7ee97b47705bb9d30e9915f6a23e373facef4897cb64a5a1676dc73b65"), looks := false }, kinds := [], alts := [], goes := true, laidByText := true, laidKinds := [.data], laidTests := true, laidLooks := .later }
def CountedCardSaid : Prop := Claim7.holds Tryd.pinned (.plain (OpenSpec.ofChange countedSpec)) countedCard

/-- THE TIED CARD OF 'keelkeep.Nested'. -/
def nestedCard : Claim7 := { stood := { row := nestedRow, standIns := [], harness := (true, "049cbb7ee97b47705bb9d30e9915f6a23e373facef4897cb64a5a1676dc73b65"), looks := false }, kinds := [], alts := [], goes := true, laidByText := true, laidKinds := [.data], laidTests := true, laidLooks := .later }
def NestedCardSaid : Prop := Claim7.holds Tryd.pinned (.plain (OpenSpec.ofChange nestedSpec)) nestedCard

/-- THE SECOND FORM's CARD OF 'keellaw.Checks'. -/
def checksUptoCard : Claim7 := { stood := { row := checksUptoRow, standIns := [], harness := (true, "049cbb7ee97b47705bb9d30e9915f6a23e373facef4897cb64a5a1676dc73b65"), looks := false }, kinds := [], alts := [], goes := true, laidByText := true, laidKinds := [.data], laidTests := true, laidLooks := .later }
def ChecksUptoCardSaid : Prop := Claim7.holds Tryd.pinned (.plain (OpenSpec.upto checksSpec)) checksUptoCard

/-- THE SECOND FORM's CARD OF 'keelkeep.Refused'. -/
def refusedUptoCard : Claim7 := { stood := { row := refusedUptoRow, standIns := [], harness := (true, "049cbb7ee97b47705bb9d30e9915f6a23e373facef4897cb64a5a1676dc73b65"), looks := false }, kinds := [], alts := [], goes := true, laidByText := true, laidKinds := [.data], laidTests := true, laidLooks := .later }
def RefusedUptoCardSaid : Prop := Claim7.holds Tryd.pinned (.plain (OpenSpec.upto refusedSpec)) refusedUptoCard

/-- THE SECOND FORM's CARD OF 'keelkeep.Safe'. -/
def safeUptoCard : Claim7 := { stood := { row := safeUptoRow, standIns := [], harness := (true, "049cbb7ee97b47705bb9d30e9915f6a23e373facef4897cb64a5a1676dc73b65"), looks := false }, kinds := [], alts := [], goes := true, laidByText := true, laidKinds := [.data], laidTests := true, laidLooks := .later }
def SafeUptoCardSaid : Prop := Claim7.holds Tryd.pinned (.plain (OpenSpec.upto safeSpec)) safeUptoCard

/-- THE SECOND FORM's CARD OF 'keelkeep.More'. -/
def moreUptoCard : Claim7 := { stood := { row := moreUptoRow, standIns := [], harness := (true, "049cbb7ee97b47705bb9d30e9915f6a23e373facef4897cb64a5a1676dc73b65"), looks := false }, kinds := [], alts := [], goes := true, laidByText := true, laidKinds := [.data], laidTests := true, laidLooks := .later }
def MoreUptoCardSaid : Prop := Claim7.holds Tryd.pinned (.plain (OpenSpec.upto moreSpec)) moreUptoCard

/-- THE SECOND FORM's CARD OF 'keelkeep.Counted'. -/
def countedUptoCard : Claim7 := { stood := { row := countedUptoRow, standIns := [], harness := (true, "049cbb7ee97b47705bb9d30e9915f6a23e373facef4897cb64a5a1676dc73b65"), looks := false }, kinds := [], alts := [], goes := true, laidByText := true, laidKinds := [.data], laidTests := true, laidLooks := .later }
def CountedUptoCardSaid : Prop := Claim7.holds Tryd.pinned (.plain (OpenSpec.upto countedSpec)) countedUptoCard

/-- THE SECOND FORM's CARD OF 'keelkeep.Nested'. -/
def nestedUptoCard : Claim7 := { stood := { row := nestedUptoRow, standIns := [], harness := (true, "049cbb7ee97b47705bb9d30e9915f6a23e373facef4897cb64a5a1676dc73b65"), looks := false }, kinds := [], alts := [], goes := true, laidByText := true, laidKinds := [.data], laidTests := true, laidLooks := .later }
def NestedUptoCardSaid : Prop := Claim7.holds Tryd.pinned (.plain (OpenSpec.upto nestedSpec)) nestedUptoCard
end Rows
end Go.Proofs.YtdhmandnamajpaaDoor
