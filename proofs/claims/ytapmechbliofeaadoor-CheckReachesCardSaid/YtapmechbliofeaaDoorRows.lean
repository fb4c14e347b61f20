/-
  NARROWER THAN 'FOR EVERY INPUT', by the rows' own cells (each row's printed sentence says how): CheckFaults: laid · CheckReaches: laid · CheckWalks: laid · CheckCuts: laid · CheckJoins: laid.
  DERIVED. THE GIVEN ROWS OF THIS SEAT. 5 by the template 'for every input the law returns true; each argument reads behind the call as it read before'; 0 by the template 'total and deterministic' (their statements: YtapmechbliofeaaDoorTotals.lean).
  GIVEN WITH THE SEED: the statements are not yours to turn. If you find one false, say at which input.
  Laid BY PROGRAM, IN A SANDBOX (cutbox-rows.mjs): the forced cells as the released guide's own fill.sh prints them over the translation 44d7f2eb5be0cb44… (all of the seat's roots in one cut). By AI agents, Wed Nov 11 2026. No macro, syntax, notation, axiom, sorry.
-/
import Derived.Test.YtapmechbliofeaaDoorChecked
import GoSem.Claim
import GoSem.ClaimJoined
import GoSem.ClaimMapViews
import Derived.JoinedTies
import Derived.KernelRfl
namespace Go.Proofs.YtapmechbliofeaaDoor
/- THE CELL 'sum', in the pinned program and in every row, IS THE sha256 OF THE DUMP (.gsa) THAT YtapmechbliofeaaDoorProg.lean LOADS. Nothing in Lean hashes anything: it is a label: what it is worth is what the hold of that sum in a sandbox is worth. -/
noncomputable def Tryd.pinned : Pinned := { name := "ytapmechbliofeaadoor", sum := "44d7f2eb5be0cb44ce637267d567496ba47cb9db201bb0b05caa762866c94fad", checked := Tryd.checked }
namespace Rows
def none {H : Type} : Left H := { results := [], args := [] }

/- WHAT THE LISTED PACKAGE-LEVEL VARIABLES READ AS WHEN THE CALL BEGINS. Each datum BY PROGRAM (the guide's laid-datum.mjs) off the statement by which the dump's own 'gosem.cut.vars' lays the variable. In a bare row this is a premise. The card (YtapmechbliofeaaDoorCards.lean) ties it to the program's text. -/
def laid_tumbler_instr_fields {H : Type} : DataW H := .agg [.lit (.string [97, 105]), .lit (.string [97, 98]), .lit (.string [97, 98, 99]), .lit (.string [97, 98, 99]), .lit (.string [97, 98, 99]), .lit (.string [97, 98, 99]), .lit (.string [97, 98, 99]), .lit (.string [97, 98, 99]), .lit (.string [97, 105]), .lit (.string [97, 98]), .lit (.string [97, 98]), .lit (.string [97, 98, 105]), .lit (.string [97, 98, 99]), .lit (.string [97, 98, 105]), .lit (.string [97, 98, 99]), .lit (.string [97]), .lit (.string [97]), .lit (.string [105]), .lit (.string [97, 105]), .lit (.string [97, 105]), .lit (.string [97]), .lit (.string [105])]

/-- 'tumblerlaw05.CheckFaults': WHATEVER THE INPUT: true; the input reads as it did. -/
def checkFaultsSpec : ChangeSpec := { name := "checkFaults", fn := fun _ => fun
  | [d1, d2] => { results := [.lit (.bool true)], args := [d1, d2] }
  | _ => none }
def checkFaultsRow : OpenClaim := { program := "ytapmechbliofeaadoor", sum := "44d7f2eb5be0cb44ce637267d567496ba47cb9db201bb0b05caa762866c94fad", func := "tumbler/tumblerlaw05.CheckFaults", spec := "checkFaults", named := ["tumbler/instr.fields"], apart := false, laid := [("tumbler/instr.fields", laid_tumbler_instr_fields)] }
def CheckFaultsSaid : Prop := checkFaultsRow.holds Tryd.pinned (OpenSpec.ofChange checkFaultsSpec)

/-- ITS FALSE NEIGHBOUR: 'it returns false'. Refute it at one input. -/
def checkFaultsWrong : ChangeSpec := { name := "checkFaults", fn := fun _ => fun
  | [d1, d2] => { results := [.lit (.bool false)], args := [d1, d2] }
  | _ => none }
def CheckFaultsWrongFalsely : Prop := checkFaultsRow.holds Tryd.pinned (OpenSpec.ofChange checkFaultsWrong)

/-- 'tumblerlaw05.CheckReaches': WHATEVER THE INPUT: true; the input reads as it did. -/
def checkReachesSpec : ChangeSpec := { name := "checkReaches", fn := fun _ => fun
  | [d] => { results := [.lit (.bool true)], args := [d] }
  | _ => none }
def checkReachesRow : OpenClaim := { program := "ytapmechbliofeaadoor", sum := "44d7f2eb5be0cb44ce637267d567496ba47cb9db201bb0b05caa762866c94fad", func := "tumbler/tumblerlaw05.CheckReaches", spec := "checkReaches", named := ["tumbler/instr.fields"], apart := false, laid := [("tumbler/instr.fields", laid_tumbler_instr_fields)] }
def CheckReachesSaid : Prop := checkReachesRow.holds Tryd.pinned (OpenSpec.ofChange checkReachesSpec)

/-- ITS FALSE NEIGHBOUR: 'it returns false'. Refute it at one input. -/
def checkReachesWrong : ChangeSpec := { name := "checkReaches", fn := fun _ => fun
  | [d] => { results := [.lit (.bool false)], args := [d] }
  | _ => none }
def CheckReachesWrongFalsely : Prop := checkReachesRow.holds Tryd.pinned (OpenSpec.ofChange checkReachesWrong)

/-- 'tumblerlaw05.CheckWalks': WHATEVER THE INPUT: true; the input reads as it did. -/
def checkWalksSpec : ChangeSpec := { name := "checkWalks", fn := fun _ => fun
  | [d1, d2] => { results := [.lit (.bool true)], args := [d1, d2] }
  | _ => none }
def checkWalksRow : OpenClaim := { program := "ytapmechbliofeaadoor", sum := "44d7f2eb5be0cb44ce637267d567496ba47cb9db201bb0b05caa762866c94fad", func := "tumbler/tumblerlaw05.CheckWalks", spec := "checkWalks", named := ["tumbler/instr.fields"], apart := false, laid := [("tumbler/instr.fields", laid_tumbler_instr_fields)] }
def CheckWalksSaid : Prop := checkWalksRow.holds Tryd.pinned (OpenSpec.ofChange checkWalksSpec)

/-- ITS FALSE NEIGHBOUR: 'it returns false'. Refute it at one input. -/
def checkWalksWrong : ChangeSpec := { name := "checkWalks", fn := fun _ => fun
  | [d1, d2] => { results := [.lit (.bool false)], args := [d1, d2] }
  | _ => none }
def CheckWalksWrongFalsely : Prop := checkWalksRow.holds Tryd.pinned (OpenSpec.ofChange checkWalksWrong)

/-- 'tumblerlaw05.CheckCuts': WHATEVER THE INPUT: true; the input reads as it did. -/
def checkCutsSpec : ChangeSpec := { name := "checkCuts", fn := fun _ => fun
  | [d] => { results := [.lit (.bool true)], args := [d] }
  | _ => none }
def checkCutsRow : OpenClaim := { program := "ytapmechbliofeaadoor", sum := "44d7f2eb5be0cb44ce637267d567496ba47cb9db201bb0b05caa762866c94fad", func := "tumbler/tumblerlaw05.CheckCuts", spec := "checkCuts", named := ["tumbler/instr.fields"], apart := false, laid := [("tumbler/instr.fields", laid_tumbler_instr_fields)] }
def CheckCutsSaid : Prop := checkCutsRow.holds Tryd.pinned (OpenSpec.ofChange checkCutsSpec)

/-- ITS FALSE NEIGHBOUR: 'it returns false'. Refute it at one input. -/
def checkCutsWrong : ChangeSpec := { name := "checkCuts", fn := fun _ => fun
  | [d] => { results := [.lit (.bool false)], args := [d] }
  | _ => none }
def CheckCutsWrongFalsely : Prop := checkCutsRow.holds Tryd.pinned (OpenSpec.ofChange checkCutsWrong)

/-- 'tumblerlaw05.CheckJoins': WHATEVER THE INPUT: true; the input reads as it did. -/
def checkJoinsSpec : ChangeSpec := { name := "checkJoins", fn := fun _ => fun
  | [d1, d2] => { results := [.lit (.bool true)], args := [d1, d2] }
  | _ => none }
def checkJoinsRow : OpenClaim := { program := "ytapmechbliofeaadoor", sum := "44d7f2eb5be0cb44ce637267d567496ba47cb9db201bb0b05caa762866c94fad", func := "tumbler/tumblerlaw05.CheckJoins", spec := "checkJoins", named := ["tumbler/instr.fields"], apart := false, laid := [("tumbler/instr.fields", laid_tumbler_instr_fields)] }
def CheckJoinsSaid : Prop := checkJoinsRow.holds Tryd.pinned (OpenSpec.ofChange checkJoinsSpec)

/-- ITS FALSE NEIGHBOUR: 'it returns false'. Refute it at one input. -/
def checkJoinsWrong : ChangeSpec := { name := "checkJoins", fn := fun _ => fun
  | [d1, d2] => { results := [.lit (.bool false)], args := [d1, d2] }
  | _ => none }
def CheckJoinsWrongFalsely : Prop := checkJoinsRow.holds Tryd.pinned (OpenSpec.ofChange checkJoinsWrong)

/- THE SECOND FORM. 'bulk': how many values and letters a reading holds, each counted each time it is reached (what is shared counts as often as it is met; a slice's spare places count too). A statement '..UptoSaid' is the law's where the arguments, and the package variables that the reading takes, are together of bulk at most 1048576: NARROWER than '..Said'. Prove '..Said' where nothing that the law and all that it calls make is longer than what came in: it says more and counts as full. Else prove '..UptoSaid'. A law counts once. -/
mutual
def uptoBulk {H : Type} : DataW H → Nat
  | .lit (.string bytes) => bytes.length + 1
  | .lit _ => 1
  | .nil => 1
  | .ptr d => uptoBulk d + 1
  | .slice elems spare => uptoBulkAll elems + uptoBulkAll spare + 1
  | .agg parts => uptoBulkAll parts + 1
  | .iface _ d => uptoBulk d + 1
  | .map entries => uptoBulkEntries entries + 1
  | .held _ => 1
def uptoBulkAll {H : Type} : List (DataW H) → Nat
  | [] => 0
  | d :: r => uptoBulk d + uptoBulkAll r
def uptoBulkEntries {H : Type} : List (Lit × DataW H) → Nat
  | [] => 0
  | x :: r => uptoBulkEntry x + uptoBulkEntries r
def uptoBulkEntry {H : Type} : Lit × DataW H → Nat
  | (.string bytes, d) => bytes.length + uptoBulk d + 1
  | (_, d) => uptoBulk d + 1
 end
def uptoSmall : (H : Type) → List (DataW H) → Bool := fun _ ds => decide (uptoBulkAll ds ≤ 1048576)
def OpenSpec.upto (s : _root_.Go.ChangeSpec) : _root_.Go.OpenSpec := { _root_.Go.OpenSpec.ofChange s with cond := some uptoSmall }

/-- 'tumblerlaw05.CheckFaults', WHERE WHAT IT READS IS OF BULK AT MOST 1048576: true; the input reads as it did. -/
def checkFaultsUptoRow : OpenClaim := { program := "ytapmechbliofeaadoor", sum := "44d7f2eb5be0cb44ce637267d567496ba47cb9db201bb0b05caa762866c94fad", func := "tumbler/tumblerlaw05.CheckFaults", spec := "checkFaults", named := ["tumbler/instr.fields"], apart := false, laid := [("tumbler/instr.fields", laid_tumbler_instr_fields)], narrowed := true }
def CheckFaultsUptoSaid : Prop := checkFaultsUptoRow.holds Tryd.pinned (OpenSpec.upto checkFaultsSpec)

/-- 'tumblerlaw05.CheckReaches', WHERE WHAT IT READS IS OF BULK AT MOST 1048576: true; the input reads as it did. -/
def checkReachesUptoRow : OpenClaim := { program := "ytapmechbliofeaadoor", sum := "44d7f2eb5be0cb44ce637267d567496ba47cb9db201bb0b05caa762866c94fad", func := "tumbler/tumblerlaw05.CheckReaches", spec := "checkReaches", named := ["tumbler/instr.fields"], apart := false, laid := [("tumbler/instr.fields", laid_tumbler_instr_fields)], narrowed := true }
def CheckReachesUptoSaid : Prop := checkReachesUptoRow.holds Tryd.pinned (OpenSpec.upto checkReachesSpec)

/-- 'tumblerlaw05.CheckWalks', WHERE WHAT IT READS IS OF BULK AT MOST 1048576: true; the input reads as it did. -/
def checkWalksUptoRow : OpenClaim := { program := "ytapmechbliofeaadoor", sum := "44d7f2eb5be0cb44ce637267d567496ba47cb9db201bb0b05caa762866c94fad", func := "tumbler/tumblerlaw05.CheckWalks", spec := "checkWalks", named := ["tumbler/instr.fields"], apart := false, laid := [("tumbler/instr.fields", laid_tumbler_instr_fields)], narrowed := true }
def CheckWalksUptoSaid : Prop := checkWalksUptoRow.holds Tryd.pinned (OpenSpec.upto checkWalksSpec)

/-- 'tumblerlaw05.CheckCuts', WHERE WHAT IT READS IS OF BULK AT MOST 1048576: true; the input reads as it did. -/
def checkCutsUptoRow : OpenClaim := { program := "ytapmechbliofeaadoor", sum := "44d7f2eb5be0cb44ce637267d567496ba47cb9db201bb0b05caa762866c94fad", func := "tumbler/tumblerlaw05.CheckCuts", spec := "checkCuts", named := ["tumbler/instr.fields"], apart := false, laid := [("tumbler/instr.fields", laid_tumbler_instr_fields)], narrowed := true }
def CheckCutsUptoSaid : Prop := checkCutsUptoRow.holds Tryd.pinned (OpenSpec.upto checkCutsSpec)

/-- 'tumblerlaw05.CheckJoins', WHERE WHAT IT READS IS OF BULK AT MOST 1048576: true; the input reads as it did. -/
def checkJoinsUptoRow : OpenClaim := { program := "ytapmechbliofeaadoor", sum := "44d7f2eb5be0cb44ce637267d567496ba47cb9db201bb0b05caa762866c94fad", func := "tumbler/tumblerlaw05.CheckJoins", spec := "checkJoins", named := ["tumbler/instr.fields"], apart := false, laid := [("tumbler/instr.fields", laid_tumbler_instr_fields)], narrowed := true }
def CheckJoinsUptoSaid : Prop := checkJoinsUptoRow.holds Tryd.pinned (OpenSpec.upto checkJoinsSpec)

end Rows
end Go.Proofs.YtapmechbliofeaaDoor
