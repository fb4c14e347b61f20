/-
  NARROWER THAN 'FOR EVERY INPUT', by the rows' own cells (each row's printed sentence says how): InstrCodes: laid · InstrBack: laid · InstrNames: laid · InstrPlains: laid · InstrParts: laid.
  DERIVED. THE GIVEN ROWS OF THIS SEAT. 5 by the template 'for every input the law returns true; each argument reads behind the call as it read before'; 0 by the template 'total and deterministic' (their statements: YtkinnhdagdkhcaaDoorTotals.lean).
  GIVEN WITH THE SEED: the statements are not yours to turn. If you find one false, say at which input.
  Laid BY PROGRAM, IN A SANDBOX (cutbox-rows.mjs): the forced cells as the released guide's own fill.sh prints them over the translation 54f1ab3bee6e9452… (all of the seat's roots in one cut). By AI agents, Wed Nov 11 2026. No macro, syntax, notation, axiom, sorry.
-/
import Derived.Test.YtkinnhdagdkhcaaDoorChecked
import GoSem.Claim
import GoSem.ClaimJoined
import GoSem.ClaimMapViews
import Derived.JoinedTies
import Derived.KernelRfl
namespace Go.Proofs.YtkinnhdagdkhcaaDoor
/- THE CELL 'sum', in the pinned program and in every row, IS THE sha256 OF THE DUMP (.gsa) THAT YtkinnhdagdkhcaaDoorProg.lean LOADS. Nothing in Lean hashes anything: it is a label: what it is worth is what the hold of that sum in a sandbox is worth. -/
noncomputable def Tryd.pinned : Pinned := { name := "ytkinnhdagdkhcaadoor", sum := "54f1ab3bee6e94526d780466f0c211aa1bc17919be60b580ab4578c44071b711", checked := Tryd.checked }
namespace Rows
def none {H : Type} : Left H := { results := [], args := [] }

/- WHAT THE LISTED PACKAGE-LEVEL VARIABLES READ AS WHEN THE CALL BEGINS. Each datum BY PROGRAM (the guide's laid-datum.mjs) off the statement by which the dump's own 'gosem.cut.vars' lays the variable. In a bare row this is a premise. The card (YtkinnhdagdkhcaaDoorCards.lean) ties it to the program's text. -/
def laid_tumbler_instr_names {H : Type} : DataW H := .agg [.lit (.string [115, 101, 116]), .lit (.string [109, 111, 118, 101]), .lit (.string [112, 108, 117, 115]), .lit (.string [109, 105, 110, 117, 115]), .lit (.string [116, 105, 109, 101, 115]), .lit (.string [109, 111, 100, 117, 108, 111]), .lit (.string [101, 113, 117, 97, 108]), .lit (.string [108, 101, 115, 115]), .lit (.string [97, 114, 103]), .lit (.string [114, 111, 111, 116]), .lit (.string [112, 117, 116, 114, 111, 111, 116]), .lit (.string [114, 101, 97, 100]), .lit (.string [114, 101, 97, 100, 97, 116]), .lit (.string [119, 114, 105, 116, 101]), .lit (.string [119, 114, 105, 116, 101, 97, 116]), .lit (.string [110, 101, 119]), .lit (.string [102, 114, 101, 101]), .lit (.string [103, 111]), .lit (.string [122, 101, 114, 111]), .lit (.string [98, 97, 99, 107]), .lit (.string [114, 101, 116, 117, 114, 110]), .lit (.string [97, 98, 111, 114, 116])]
def laid_tumbler_instr_fields {H : Type} : DataW H := .agg [.lit (.string [97, 105]), .lit (.string [97, 98]), .lit (.string [97, 98, 99]), .lit (.string [97, 98, 99]), .lit (.string [97, 98, 99]), .lit (.string [97, 98, 99]), .lit (.string [97, 98, 99]), .lit (.string [97, 98, 99]), .lit (.string [97, 105]), .lit (.string [97, 98]), .lit (.string [97, 98]), .lit (.string [97, 98, 105]), .lit (.string [97, 98, 99]), .lit (.string [97, 98, 105]), .lit (.string [97, 98, 99]), .lit (.string [97]), .lit (.string [97]), .lit (.string [105]), .lit (.string [97, 105]), .lit (.string [97, 105]), .lit (.string [97]), .lit (.string [105])]

/-- 'tumblerlaw03.InstrCodes': WHATEVER THE INPUT: true; the input reads as it did. -/
def instrCodesSpec : ChangeSpec := { name := "instrCodes", fn := fun _ => fun
  | [d1, d2] => { results := [.lit (.bool true)], args := [d1, d2] }
  | _ => none }
def instrCodesRow : OpenClaim := { program := "ytkinnhdagdkhcaadoor", sum := "54f1ab3bee6e94526d780466f0c211aa1bc17919be60b580ab4578c44071b711", func := "tumbler/tumblerlaw03.InstrCodes", spec := "instrCodes", named := ["tumbler/instr.fields", "tumbler/instr.names"], apart := false, laid := [("tumbler/instr.names", laid_tumbler_instr_names), ("tumbler/instr.fields", laid_tumbler_instr_fields)] }
def InstrCodesSaid : Prop := instrCodesRow.holds Tryd.pinned (OpenSpec.ofChange instrCodesSpec)

/-- ITS FALSE NEIGHBOUR: 'it returns false'. Refute it at one input. -/
def instrCodesWrong : ChangeSpec := { name := "instrCodes", fn := fun _ => fun
  | [d1, d2] => { results := [.lit (.bool false)], args := [d1, d2] }
  | _ => none }
def InstrCodesWrongFalsely : Prop := instrCodesRow.holds Tryd.pinned (OpenSpec.ofChange instrCodesWrong)

/-- 'tumblerlaw03.InstrBack': WHATEVER THE INPUT: true; the input reads as it did. -/
def instrBackSpec : ChangeSpec := { name := "instrBack", fn := fun _ => fun
  | [d1, d2, d3] => { results := [.lit (.bool true)], args := [d1, d2, d3] }
  | _ => none }
def instrBackRow : OpenClaim := { program := "ytkinnhdagdkhcaadoor", sum := "54f1ab3bee6e94526d780466f0c211aa1bc17919be60b580ab4578c44071b711", func := "tumbler/tumblerlaw03.InstrBack", spec := "instrBack", named := ["tumbler/instr.fields", "tumbler/instr.names"], apart := false, laid := [("tumbler/instr.names", laid_tumbler_instr_names), ("tumbler/instr.fields", laid_tumbler_instr_fields)] }
def InstrBackSaid : Prop := instrBackRow.holds Tryd.pinned (OpenSpec.ofChange instrBackSpec)

/-- ITS FALSE NEIGHBOUR: 'it returns false'. Refute it at one input. -/
def instrBackWrong : ChangeSpec := { name := "instrBack", fn := fun _ => fun
  | [d1, d2, d3] => { results := [.lit (.bool false)], args := [d1, d2, d3] }
  | _ => none }
def InstrBackWrongFalsely : Prop := instrBackRow.holds Tryd.pinned (OpenSpec.ofChange instrBackWrong)

/-- 'tumblerlaw03.InstrNames': WHATEVER THE INPUT: true; the input reads as it did. -/
def instrNamesSpec : ChangeSpec := { name := "instrNames", fn := fun _ => fun
  | [d1, d2] => { results := [.lit (.bool true)], args := [d1, d2] }
  | _ => none }
def instrNamesRow : OpenClaim := { program := "ytkinnhdagdkhcaadoor", sum := "54f1ab3bee6e94526d780466f0c211aa1bc17919be60b580ab4578c44071b711", func := "tumbler/tumblerlaw03.InstrNames", spec := "instrNames", named := ["tumbler/instr.fields", "tumbler/instr.names"], apart := false, laid := [("tumbler/instr.names", laid_tumbler_instr_names), ("tumbler/instr.fields", laid_tumbler_instr_fields)] }
def InstrNamesSaid : Prop := instrNamesRow.holds Tryd.pinned (OpenSpec.ofChange instrNamesSpec)

/-- ITS FALSE NEIGHBOUR: 'it returns false'. Refute it at one input. -/
def instrNamesWrong : ChangeSpec := { name := "instrNames", fn := fun _ => fun
  | [d1, d2] => { results := [.lit (.bool false)], args := [d1, d2] }
  | _ => none }
def InstrNamesWrongFalsely : Prop := instrNamesRow.holds Tryd.pinned (OpenSpec.ofChange instrNamesWrong)

/-- 'tumblerlaw03.InstrPlains': WHATEVER THE INPUT: true; the input reads as it did. -/
def instrPlainsSpec : ChangeSpec := { name := "instrPlains", fn := fun _ => fun
  | [d1, d2, d3] => { results := [.lit (.bool true)], args := [d1, d2, d3] }
  | _ => none }
def instrPlainsRow : OpenClaim := { program := "ytkinnhdagdkhcaadoor", sum := "54f1ab3bee6e94526d780466f0c211aa1bc17919be60b580ab4578c44071b711", func := "tumbler/tumblerlaw03.InstrPlains", spec := "instrPlains", named := ["tumbler/instr.fields", "tumbler/instr.names"], apart := false, laid := [("tumbler/instr.names", laid_tumbler_instr_names), ("tumbler/instr.fields", laid_tumbler_instr_fields)] }
def InstrPlainsSaid : Prop := instrPlainsRow.holds Tryd.pinned (OpenSpec.ofChange instrPlainsSpec)

/-- ITS FALSE NEIGHBOUR: 'it returns false'. Refute it at one input. -/
def instrPlainsWrong : ChangeSpec := { name := "instrPlains", fn := fun _ => fun
  | [d1, d2, d3] => { results := [.lit (.bool false)], args := [d1, d2, d3] }
  | _ => none }
def InstrPlainsWrongFalsely : Prop := instrPlainsRow.holds Tryd.pinned (OpenSpec.ofChange instrPlainsWrong)

/-- 'tumblerlaw03.InstrParts': WHATEVER THE INPUT: true; the input reads as it did. -/
def instrPartsSpec : ChangeSpec := { name := "instrParts", fn := fun _ => fun
  | [d1, d2] => { results := [.lit (.bool true)], args := [d1, d2] }
  | _ => none }
def instrPartsRow : OpenClaim := { program := "ytkinnhdagdkhcaadoor", sum := "54f1ab3bee6e94526d780466f0c211aa1bc17919be60b580ab4578c44071b711", func := "tumbler/tumblerlaw03.InstrParts", spec := "instrParts", named := ["tumbler/instr.fields", "tumbler/instr.names"], apart := false, laid := [("tumbler/instr.names", laid_tumbler_instr_names), ("tumbler/instr.fields", laid_tumbler_instr_fields)] }
def InstrPartsSaid : Prop := instrPartsRow.holds Tryd.pinned (OpenSpec.ofChange instrPartsSpec)

/-- ITS FALSE NEIGHBOUR: 'it returns false'. Refute it at one input. -/
def instrPartsWrong : ChangeSpec := { name := "instrParts", fn := fun _ => fun
  | [d1, d2] => { results := [.lit (.bool false)], args := [d1, d2] }
  | _ => none }
def InstrPartsWrongFalsely : Prop := instrPartsRow.holds Tryd.pinned (OpenSpec.ofChange instrPartsWrong)

/- THE SECOND FORM. 'bulk': how many values and letters a reading holds, each counted each time it is reached (what is shared counts as often as it is met; a slice's spare places count too). A statement '..UptoSaid' is the law's where the arguments, and the package variables that the reading takes, are together of bulk at most 1048576: NARROWER than '..Said'. Prove '..Said' where nothing that the law and all that it calls make is longer than what came in: it says more and counts as full. Else prove '..UptoSaid'. A law counts once. -/
mutual
def uptoBulk {H : Type} : DataW H → Nat
  | .lit (.string bytes) => bytes.length + 1
  | .lit _ => 1
  | .nil => 1
  | .ptr d => uptoBulk d + 1
  | .slice elems spare => uptoBulkAll elems + uptoBulkAll spare + 1
  | .agg parts => uptoBulkAll parts + 1
  | .iface _ d => uptoBulk d + 1
  | .map entries => uptoBulkEntries entries + 1
  | .held _ => 1
def uptoBulkAll {H : Type} : List (DataW H) → Nat
  | [] => 0
  | d :: r => uptoBulk d + uptoBulkAll r
def uptoBulkEntries {H : Type} : List (Lit × DataW H) → Nat
  | [] => 0
  | x :: r => uptoBulkEntry x + uptoBulkEntries r
def uptoBulkEntry {H : Type} : Lit × DataW H → Nat
  | (.string bytes, d) => bytes.length + uptoBulk d + 1
  | (_, d) => uptoBulk d + 1
 end
def uptoSmall : (H : Type) → List (DataW H) → Bool := fun _ ds => decide (uptoBulkAll ds ≤ 1048576)
def OpenSpec.upto (s : _root_.Go.ChangeSpec) : _root_.Go.OpenSpec := { _root_.Go.OpenSpec.ofChange s with cond := some uptoSmall }

/-- 'tumblerlaw03.InstrCodes', WHERE WHAT IT READS IS OF BULK AT MOST 1048576: true; the input reads as it did. -/
def instrCodesUptoRow : OpenClaim := { program := "ytkinnhdagdkhcaadoor", sum := "54f1ab3bee6e94526d780466f0c211aa1bc17919be60b580ab4578c44071b711", func := "tumbler/tumblerlaw03.InstrCodes", spec := "instrCodes", named := ["tumbler/instr.fields", "tumbler/instr.names"], apart := false, laid := [("tumbler/instr.names", laid_tumbler_instr_names), ("tumbler/instr.fields", laid_tumbler_instr_fields)], narrowed := true }
def InstrCodesUptoSaid : Prop := instrCodesUptoRow.holds Tryd.pinned (OpenSpec.upto instrCodesSpec)

/-- 'tumblerlaw03.InstrBack', WHERE WHAT IT READS IS OF BULK AT MOST 1048576: true; the input reads as it did. -/
def instrBackUptoRow : OpenClaim := { program := "ytkinnhdagdkhcaadoor", sum := "54f1ab3bee6e94526d780466f0c211aa1bc17919be60b580ab4578c44071b711", func := "tumbler/tumblerlaw03.InstrBack", spec := "instrBack", named := ["tumbler/instr.fields", "tumbler/instr.names"], apart := false, laid := [("tumbler/instr.names", laid_tumbler_instr_names), ("tumbler/instr.fields", laid_tumbler_instr_fields)], narrowed := true }
def InstrBackUptoSaid : Prop := instrBackUptoRow.holds Tryd.pinned (OpenSpec.upto instrBackSpec)

/-- 'tumblerlaw03.InstrNames', WHERE WHAT IT READS IS OF BULK AT MOST 1048576: true; the input reads as it did. -/
def instrNamesUptoRow : OpenClaim := { program := "ytkinnhdagdkhcaadoor", sum := "54f1ab3bee6e94526d780466f0c211aa1bc17919be60b580ab4578c44071b711", func := "tumbler/tumblerlaw03.InstrNames", spec := "instrNames", named := ["tumbler/instr.fields", "tumbler/instr.names"], apart := false, laid := [("tumbler/instr.names", laid_tumbler_instr_names), ("tumbler/instr.fields", laid_tumbler_instr_fields)], narrowed := true }
def InstrNamesUptoSaid : Prop := instrNamesUptoRow.holds Tryd.pinned (OpenSpec.upto instrNamesSpec)

/-- 'tumblerlaw03.InstrPlains', WHERE WHAT IT READS IS OF BULK AT MOST 1048576: true; the input reads as it did. -/
def instrPlainsUptoRow : OpenClaim := { program := "ytkinnhdagdkhcaadoor", sum := "54f1ab3bee6e94526d780466f0c211aa1bc17919be60b580ab4578c44071b711", func := "tumbler/tumblerlaw03.InstrPlains", spec := "instrPlains", named := ["tumbler/instr.fields", "tumbler/instr.names"], apart := false, laid := [("tumbler/instr.names", laid_tumbler_instr_names), ("tumbler/instr.fields", laid_tumbler_instr_fields)], narrowed := true }
def InstrPlainsUptoSaid : Prop := instrPlainsUptoRow.holds Tryd.pinned (OpenSpec.upto instrPlainsSpec)

/-- 'tumblerlaw03.InstrParts', WHERE WHAT IT READS IS OF BULK AT MOST 1048576: true; the input reads as it did. -/
def instrPartsUptoRow : OpenClaim := { program := "ytkinnhdagdkhcaadoor", sum := "54f1ab3bee6e94526d780466f0c211aa1bc17919be60b580ab4578c44071b711", func := "tumbler/tumblerlaw03.InstrParts", spec := "instrParts", named := ["tumbler/instr.fields", "tumbler/instr.names"], apart := false, laid := [("tumbler/instr.names", laid_tumbler_instr_names), ("tumbler/instr.fields", laid_tumbler_instr_fields)], narrowed := true }
def InstrPartsUptoSaid : Prop := instrPartsUptoRow.holds Tryd.pinned (OpenSpec.upto instrPartsSpec)

end Rows
end Go.Proofs.YtkinnhdagdkhcaaDoor
