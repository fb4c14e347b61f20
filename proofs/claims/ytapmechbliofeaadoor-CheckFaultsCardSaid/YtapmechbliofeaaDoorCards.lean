/-
  DERIVED. GIVEN WITH THE SEED: THE CARDS: each row of YtapmechbliofeaaDoorRows.lean that lists a variable, with what it lists TIED to the program's text (the seventh form; the later family's looks); each row that meets fmt, with fmt's text TOLD by the authors' own Lean function (tested against real Go, not proved from fmt's source: count such statements apart). THE CARD IS WHAT COUNTS. Prove the row's statement (the work); the ties are given (YtapmechbliofeaaDoorTie.lean); close each card by the builder's one call (the guide's Derived/Test/ToyasCard.lean, 'card_holds'). Laid BY PROGRAM, IN A SANDBOX (cutbox-door.mjs). By AI agents, Wed Nov 11 2026. No macro, syntax, notation, axiom, sorry.
-/
import Derived.Test.YtapmechbliofeaaDoorRows
import GoSem.ClaimSeven
namespace Go.Proofs.YtapmechbliofeaaDoor
namespace Rows

/-- THE TIED CARD OF 'tumblerlaw05.CheckFaults'. -/
def checkFaultsCard : Claim7 := { stood := { row := checkFaultsRow, standIns := [], harness := (true, "95ca4a4a9c48b51bac9ffe5b955c449a14927fc8e2c8ddfad13cb1fded1a03c8"), looks := false }, kinds := [], alts := [], laidByText := true, laidKinds := [.data], laidTests := true, laidLooks := .later }
def CheckFaultsCardSaid : Prop := Claim7.holds Tryd.pinned (.plain (OpenSpec.ofChange checkFaultsSpec)) checkFaultsCard

/-- THE TIED CARD OF 'tumblerlaw05.CheckReaches'. -/
def checkReachesCard : Claim7 := { stood := { row := checkReachesRow, standIns := [], harness := (true, "95ca4a4a9c48b51bac9ffe5b955c449a14927fc8e2c8ddfad13cb1fded1a03c8"), looks := false }, kinds := [], alts := [], laidByText := true, laidKinds := [.data], laidTests := true, laidLooks := .later }
def CheckReachesCardSaid : Prop := Claim7.holds Tryd.pinned (.plain (OpenSpec.ofChange checkReachesSpec)) checkReachesCard

/-- THE TIED CARD OF 'tumblerlaw05.CheckWalks'. -/
def checkWalksCard : Claim7 := { stood := { row := checkWalksRow, standIns := [], harness := (true, "95ca4a4a9c48b51bac9ffe5b955c449a14927fc8e2c8ddfad13cb1fded1a03c8"), looks := false }, kinds := [], alts := [], laidByText := true, laidKinds := [.data], laidTests := true, laidLooks := .later }
def CheckWalksCardSaid : Prop := Claim7.holds Tryd.pinned (.plain (OpenSpec.ofChange checkWalksSpec)) checkWalksCard

/-- THE TIED CARD OF 'tumblerlaw05.CheckCuts'. -/
def checkCutsCard : Claim7 := { stood := { row := checkCutsRow, standIns := [], harness := (true, "95ca4a4a9c48b51bac9ffe5b955c449a14927fc8e2c8ddfad13cb1fded1a03c8"), looks := false }, kinds := [], alts := [], laidByText := true, laidKinds := [.data], laidTests := true, laidLooks := .later }
def CheckCutsCardSaid : Prop := Claim7.holds Tryd.pinned (.plain (OpenSpec.ofChange checkCutsSpec)) checkCutsCard

/-- THE TIED CARD OF 'tumblerlaw05.CheckJoins'. -/
def checkJoinsCard : Claim7 := { stood := { row := checkJoinsRow, standIns := [], harness := (true, "95ca4a4a9c48b51bac9ffe5b955c449a14927fc8e2c8ddfad13cb1fded1a03c8"), looks := false }, kinds := [], alts := [], laidByText := true, laidKinds := [.data], laidTests := true, laidLooks := .later }
def CheckJoinsCardSaid : Prop := Claim7.holds Tryd.pinned (.plain (OpenSpec.ofChange checkJoinsSpec)) checkJoinsCard

/-- THE SECOND FORM's CARD OF 'tumblerlaw05.CheckFaults'. -/
def checkFaultsUptoCard : Claim7 := { stood := { row := checkFaultsUptoRow, standIns := [], harness := (true, "95ca4a4a9c48b51bac9ffe5b955c449a14927fc8e2c8ddfad13cb1fded1a03c8"), looks := false }, kinds := [], alts := [], laidByText := true, laidKinds := [.data], laidTests := true, laidLooks := .later }
def CheckFaultsUptoCardSaid : Prop := Claim7.holds Tryd.pinned (.plain (OpenSpec.upto checkFaultsSpec)) checkFaultsUptoCard

/-- THE SECOND FORM's CARD OF 'tumblerlaw05.CheckReaches'. -/
def checkReachesUptoCard : Claim7 := { stood := { row := checkReachesUptoRow, standIns := [], harness := (true, "95ca4a4a9c48b51bac9ffe5b955c449a14927fc8e2c8ddfad13cb1fded1a03c8"), looks := false }, kinds := [], alts := [], laidByText := true, laidKinds := [.data], laidTests := true, laidLooks := .later }
def CheckReachesUptoCardSaid : Prop := Claim7.holds Tryd.pinned (.plain (OpenSpec.upto checkReachesSpec)) checkReachesUptoCard

/-- THE SECOND FORM's CARD OF 'tumblerlaw05.CheckWalks'. -/
def checkWalksUptoCard : Claim7 := { stood := { row := checkWalksUptoRow, standIns := [], harness := (true, "95ca4a4a9c48b51bac9ffe5b955c449a14927fc8e2c8ddfad13cb1fded1a03c8"), looks := false }, kinds := [], alts := [], laidByText := true, laidKinds := [.data], laidTests := true, laidLooks := .later }
def CheckWalksUptoCardSaid : Prop := Claim7.holds Tryd.pinned (.plain (OpenSpec.upto checkWalksSpec)) checkWalksUptoCard

/-- THE SECOND FORM's CARD OF 'tumblerlaw05.CheckCuts'. -/
def checkCutsUptoCard : Claim7 := { stood := { row := checkCutsUptoRow, standIns := [], harness := (true, "95ca4a4a9c48b51bac9ffe5b955c449a14927fc8e2c8ddfad13cb1fded1a03c8"), looks := false }, kinds := [], alts := [], laidByText := true, laidKinds := [.data], laidTests := true, laidLooks := .later }
def CheckCutsUptoCardSaid : Prop := Claim7.holds Tryd.pinned (.plain (OpenSpec.upto checkCutsSpec)) checkCutsUptoCard

/-- THE SECOND FORM's CARD OF 'tumblerlaw05.CheckJoins'. -/
def checkJoinsUptoCard : Claim7 := { stood := { row := checkJoinsUptoRow, standIns := [], harness := (true, "95ca4a4a9c48b51bac9ffe5b955c449a14927fc8e2c8ddfad13cb1fded1a03c8"), looks := false }, kinds := [], alts := [], laidByText := true, laidKinds := [.data], laidTests := true, laidLooks := .later }
def CheckJoinsUptoCardSaid : Prop := Claim7.holds Tryd.pinned (.plain (OpenSpec.upto checkJoinsSpec)) checkJoinsUptoCard
end Rows
end Go.Proofs.YtapmechbliofeaaDoor
