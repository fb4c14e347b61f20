/-
  DERIVED. GIVEN WITH THE SEED: THE CARDS: each row of YtkinnhdagdkhcaaDoorRows.lean that lists a variable, with what it lists TIED to the program's text (the seventh form; the later family's looks); each row that meets fmt, with fmt's text TOLD by the authors' own Lean function (tested against real Go, not proved from fmt's source: count such statements apart). THE CARD IS WHAT COUNTS. Prove the row's statement (the work); the ties are given (YtkinnhdagdkhcaaDoorTie.lean); close each card by the builder's one call (the guide's Derived/Test/ToyasCard.lean, 'card_holds'). Laid BY PROGRAM, IN A SANDBOX (cutbox-door.mjs). By AI agents, Wed Nov 11 2026. No macro, syntax, notation, axiom, sorry.
-/
import Derived.Test.YtkinnhdagdkhcaaDoorRows
import GoSem.ClaimSeven
namespace Go.Proofs.YtkinnhdagdkhcaaDoor
namespace Rows

/-- THE TIED CARD OF 'tumblerlaw03.InstrCodes'. -/
def instrCodesCard : Claim7 := { stood := { row := instrCodesRow, standIns := [], harness := (true, "94ed70de48c214545bfd44ac53db267cb36b14b3cb129636eb9b402d2d7acf26"), looks := false }, kinds := [], alts := [], laidByText := true, laidKinds := [.data, .data], laidTests := true, laidLooks := .later }
def InstrCodesCardSaid : Prop := Claim7.holds Tryd.pinned (.plain (OpenSpec.ofChange instrCodesSpec)) instrCodesCard

/-- THE TIED CARD OF 'tumblerlaw03.InstrBack'. -/
def instrBackCard : Claim7 := { stood := { row := instrBackRow, standIns := [], harness := (true, "94ed70de48c214545bfd44ac53db267cb36b14b3cb129636eb9b402d2d7acf26"), looks := false }, kinds := [], alts := [], laidByText := true, laidKinds := [.data, .data], laidTests := true, laidLooks := .later }
def InstrBackCardSaid : Prop := Claim7.holds Tryd.pinned (.plain (OpenSpec.ofChange instrBackSpec)) instrBackCard

/-- THE TIED CARD OF 'tumblerlaw03.InstrNames'. -/
def instrNamesCard : Claim7 := { stood := { row := instrNamesRow, standIns := [], harness := (true, "94ed70de48c214545bfd44ac53db267cb36b14b3cb129636eb9b402d2d7acf26"), looks := false }, kinds := [], alts := [], laidByText := true, laidKinds := [.data, .data], laidTests := true, laidLooks := .later }
def InstrNamesCardSaid : Prop := Claim7.holds Tryd.pinned (.plain (OpenSpec.ofChange instrNamesSpec)) instrNamesCard

/-- THE TIED CARD OF 'tumblerlaw03.InstrPlains'. -/
def instrPlainsCard : Claim7 := { stood := { row := instrPlainsRow, standIns := [], harness := (true, "94ed70de48c214545bfd44ac53db267cb36b14b3cb129636eb9b402d2d7acf26"), looks := false }, kinds := [], alts := [], laidByText := true, laidKinds := [.data, .data], laidTests := true, laidLooks := .later }
def InstrPlainsCardSaid : Prop := Claim7.holds Tryd.pinned (.plain (OpenSpec.ofChange instrPlainsSpec)) instrPlainsCard

/-- THE TIED CARD OF 'tumblerlaw03.InstrParts'. -/
def instrPartsCard : Claim7 := { stood := { row := instrPartsRow, standIns := [], harness := (true, "94ed70de48c214545bfd44ac53db267cb36b14b3cb129636eb9b402d2d7acf26"), looks := false }, kinds := [], alts := [], laidByText := true, laidKinds := [.data, .data], laidTests := true, laidLooks := .later }
def InstrPartsCardSaid : Prop := Claim7.holds Tryd.pinned (.plain (OpenSpec.ofChange instrPartsSpec)) instrPartsCard

/-- THE SECOND FORM's CARD OF 'tumblerlaw03.InstrCodes'. -/
def instrCodesUptoCard : Claim7 := { stood := { row := instrCodesUptoRow, standIns := [], harness := (true, "94ed70de48c214545bfd44ac53db267cb36b14b3cb129636eb9b402d2d7acf26"), looks := false }, kinds := [], alts := [], laidByText := true, laidKinds := [.data, .data], laidTests := true, laidLooks := .later }
def InstrCodesUptoCardSaid : Prop := Claim7.holds Tryd.pinned (.plain (OpenSpec.upto instrCodesSpec)) instrCodesUptoCard

/-- THE SECOND FORM's CARD OF 'tumblerlaw03.InstrBack'. -/
def instrBackUptoCard : Claim7 := { stood := { row := instrBackUptoRow, standIns := [], harness := (true, "94ed70de48c214545bfd44ac53db267cb36b14b3cb129636eb9b402d2d7acf26"), looks := false }, kinds := [], alts := [], laidByText := true, laidKinds := [.data, .data], laidTests := true, laidLooks := .later }
def InstrBackUptoCardSaid : Prop := Claim7.holds Tryd.pinned (.plain (OpenSpec.upto instrBackSpec)) instrBackUptoCard

/-- THE SECOND FORM's CARD OF 'tumblerlaw03.InstrNames'. -/
def instrNamesUptoCard : Claim7 := { stood := { row := instrNamesUptoRow, standIns := [], harness := (true, "94ed70de48c214545bfd44ac53db267cb36b14b3cb129636eb9b402d2d7acf26"), looks := false }, kinds := [], alts := [], laidByText := true, laidKinds := [.data, .data], laidTests := true, laidLooks := .later }
def InstrNamesUptoCardSaid : Prop := Claim7.holds Tryd.pinned (.plain (OpenSpec.upto instrNamesSpec)) instrNamesUptoCard

/-- THE SECOND FORM's CARD OF 'tumblerlaw03.InstrPlains'. -/
def instrPlainsUptoCard : Claim7 := { stood := { row := instrPlainsUptoRow, standIns := [], harness := (true, "94ed70de48c214545bfd44ac53db267cb36b14b3cb129636eb9b402d2d7acf26"), looks := false }, kinds := [], alts := [], laidByText := true, laidKinds := [.data, .data], laidTests := true, laidLooks := .later }
def InstrPlainsUptoCardSaid : Prop := Claim7.holds Tryd.pinned (.plain (OpenSpec.upto instrPlainsSpec)) instrPlainsUptoCard

/-- THE SECOND FORM's CARD OF 'tumblerlaw03.InstrParts'. -/
def instrPartsUptoCard : Claim7 := { stood := { row := instrPartsUptoRow, standIns := [], harness := (true, "94ed70de48c214545bfd44ac53db267cb36b14b3cb129636eb9b402d2d7acf26"), looks := false }, kinds := [], alts := [], laidByText := true, laidKinds := [.data, .data], laidTests := true, laidLooks := .later }
def InstrPartsUptoCardSaid : Prop := Claim7.holds Tryd.pinned (.plain (OpenSpec.upto instrPartsSpec)) instrPartsUptoCard
end Rows
end Go.Proofs.YtkinnhdagdkhcaaDoor
