/-
  DERIVED. GIVEN WITH THE SEED: THE CARDS: each row of YtdhmandnamajpaaGreatDoorRows.lean that lists a variable, with what it lists TIED to the program's text (the seventh form; the later family's looks); each row that meets fmt, with fmt's text TOLD by the authors' own Lean function (tested against real Go, not proved from fmt's source: count such statements apart). THE CARD IS WHAT COUNTS. Prove the row's statement (the work); the ties are given (YtdhmandnamajpaaGreatDoorTie.lean); close each card by the builder's one call (the guide's Derived/Test/ToyasCard.lean, 'card_holds'). Laid BY PROGRAM, IN A SANDBOX (cutbox-door.mjs). By AI agents, Wed Nov 11 2026. No macro, syntax, notation, axiom, sorry.
-/
import Derived.Test.YtdhmandnamajpaaGreatDoorRows
import GoSem.ClaimSeven
namespace Go.Proofs.YtdhmandnamajpaaGreatDoor
namespace Rows

/-- THE TIED CARD OF 'keellaw.Runs'. -/
def runsCard : Claim7 := { stood := { row := runsRow, standIns := [], harness := (true, "f0d6e39042c58d4bfa496e7d66275f31988a72c734b2ed724c14f270d7156e93"), looks := false }, kinds := [], alts := [], goes := true, laidByText := true, laidKinds := [.data], laidTests := true, laidLooks := .later }
def RunsCardSaid : Prop := Claim7.holds Tryz.pinned (.plain (OpenSpec.ofChange runsSpec)) runsCard

/-- THE TIED CARD OF 'keellaw.Traces'. -/
def tracesCard : Claim7 := { stood := { row := tracesRow, standIns := [], harness := (true, "f0d6e39042c58d4bfa496e7d66275f31988a72c734b2ed724c14f270d7156e93"), looks := false }, kinds := [], alts := [], goes := true, laidByText := true, laidKinds := [.data], laidTests := true, laidLooks := .later }
def TracesCardSaid : Prop := Claim7.holds Tryz.pinned (.plain (OpenSpec.ofChange tracesSpec)) tracesCard

/-- THE TIED CARD OF 'keellaw.All'. -/
def allCard : Claim7 := { stood := { row := allRow, standIns := [], harness := (true, "f0d6e39042c58d4bfa496e7d66275f31988a72c734b2ed724c14f270d7156e93"), looks := false }, kinds := [], alts := [], goes := true, laidByText := true, laidKinds := [.data], laidTests := true, laidLooks := .later }
def AllCardSaid : Prop := Claim7.holds Tryz.pinned (.plain (OpenSpec.ofChange allSpec)) allCard

/-- THE SECOND FORM's CARD OF 'keellaw.Runs'. -/
def runsUptoCard : Claim7 := { stood := { row := runsUptoRow, standIns := [], harness := (true, "f0d6e39042c58d4bfa496e7d66275f31988a72c734b2ed724c14f270d7156e93"), looks := false }, kinds := [], alts := [], goes := true, laidByText := true, laidKinds := [.data], laidTests := true, laidLooks := .later }
def RunsUptoCardSaid : Prop := Claim7.holds Tryz.pinned (.plain (OpenSpec.upto runsSpec)) runsUptoCard

/-- THE SECOND FORM's CARD OF 'keellaw.Traces'. -/
def tracesUptoCard : Claim7 := { stood := { row := tracesUptoRow, standIns := [], harness := (true, "f0d6e39042c58d4bfa496e7d66275f31988a72c734b2ed724c14f270d7156e93"), looks := false }, kinds := [], alts := [], goes := true, laidByText := true, laidKinds := [.data], laidTests := true, laidLooks := .later }
def TracesUptoCardSaid : Prop := Claim7.holds Tryz.pinned (.plain (OpenSpec.upto tracesSpec)) tracesUptoCard

/-- THE SECOND FORM's CARD OF 'keellaw.All'. -/
def allUptoCard : Claim7 := { stood := { row := allUptoRow, standIns := [], harness := (true, "f0d6e39042c58d4bfa496e7d66275f31988a72c734b2ed724c14f270d7156e93"), looks := false }, kinds := [], alts := [], goes := true, laidByText := true, laidKinds := [.data], laidTests := true, laidLooks := .later }
def AllUptoCardSaid : Prop := Claim7.holds Tryz.pinned (.plain (OpenSpec.upto allSpec)) allUptoCard
end Rows
end Go.Proofs.YtdhmandnamajpaaGreatDoor
