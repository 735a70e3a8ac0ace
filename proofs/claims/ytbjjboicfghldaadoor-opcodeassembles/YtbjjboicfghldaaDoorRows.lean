/-
  NARROWER THAN 'FOR EVERY INPUT', by the rows' own cells (each row's printed sentence says how): OpcodeInfos: laid · OpcodeMarks: laid · OpcodeAssembles: laid · OpcodePrints: laid · OpcodeBack: laid · OpcodeAgain: laid.
  DERIVED. THE GIVEN ROWS OF THIS SEAT. 6 by the template 'for every input the law returns true; each argument reads behind the call as it read before'; 0 by the template 'total and deterministic' (their statements: YtbjjboicfghldaaDoorTotals.lean).
  GIVEN WITH THE SEED: the statements are not yours to turn. If you find one false, say at which input.
  Laid BY PROGRAM, IN A SANDBOX (cutbox-rows.mjs): the forced cells as the released guide's own fill.sh prints them over the translation 6a58b371aba2a12e… (all of the seat's roots in one cut). By AI agents, Wed Nov 11 2026. No macro, syntax, notation, axiom, sorry.
-/
import Derived.Test.YtbjjboicfghldaaDoorChecked
import GoSem.Claim
import GoSem.ClaimJoined
import GoSem.ClaimMapViews
import Derived.JoinedTies
import Derived.KernelRfl
namespace Go.Proofs.YtbjjboicfghldaaDoor
/- THE CELL 'sum', in the pinned program and in every row, IS THE sha256 OF THE DUMP (.gsa) THAT YtbjjboicfghldaaDoorProg.lean LOADS. Nothing in Lean hashes anything: it is a label: what it is worth is what the hold of that sum in a sandbox is worth. -/
noncomputable def Tryd.pinned : Pinned := { name := "ytbjjboicfghldaadoor", sum := "6a58b371aba2a12e853015b9e28ef6327a70b582abadb885c6918e2b723a1f88", checked := Tryd.checked }
namespace Rows
def none {H : Type} : Left H := { results := [], args := [] }

/- WHAT THE LISTED PACKAGE-LEVEL VARIABLES READ AS WHEN THE CALL BEGINS. Each datum BY PROGRAM (the guide's laid-datum.mjs) off the statement by which the dump's own 'gosem.cut.vars' lays the variable. In a bare row this is a premise. The card (YtbjjboicfghldaaDoorCards.lean) ties it to the program's text. -/
def laid_pergola_opcode_table {H : Type} : DataW H := .agg [.agg [.lit (.int .u8 0), .lit (.string [115, 116, 111, 112]), .lit (.int .u8 0), .lit (.int .u8 0), .lit (.int .u8 0), .lit (.int .u8 0)], .agg [.lit (.int .u8 1), .lit (.string [97, 100, 100]), .lit (.int .u8 0), .lit (.int .u8 2), .lit (.int .u8 1), .lit (.int .u8 1)], .agg [.lit (.int .u8 2), .lit (.string [115, 117, 98]), .lit (.int .u8 0), .lit (.int .u8 2), .lit (.int .u8 1), .lit (.int .u8 1)], .agg [.lit (.int .u8 3), .lit (.string [109, 117, 108]), .lit (.int .u8 0), .lit (.int .u8 2), .lit (.int .u8 1), .lit (.int .u8 2)], .agg [.lit (.int .u8 4), .lit (.string [100, 105, 118]), .lit (.int .u8 0), .lit (.int .u8 2), .lit (.int .u8 1), .lit (.int .u8 2)], .agg [.lit (.int .u8 5), .lit (.string [109, 111, 100]), .lit (.int .u8 0), .lit (.int .u8 2), .lit (.int .u8 1), .lit (.int .u8 2)], .agg [.lit (.int .u8 6), .lit (.string [108, 101, 115, 115]), .lit (.int .u8 0), .lit (.int .u8 2), .lit (.int .u8 1), .lit (.int .u8 1)], .agg [.lit (.int .u8 7), .lit (.string [101, 113, 117, 97, 108]), .lit (.int .u8 0), .lit (.int .u8 2), .lit (.int .u8 1), .lit (.int .u8 1)], .agg [.lit (.int .u8 8), .lit (.string [110, 111, 116]), .lit (.int .u8 0), .lit (.int .u8 1), .lit (.int .u8 1), .lit (.int .u8 1)], .agg [.lit (.int .u8 32), .lit (.string [112, 117, 115, 104]), .lit (.int .u8 1), .lit (.int .u8 0), .lit (.int .u8 1), .lit (.int .u8 1)], .agg [.lit (.int .u8 48), .lit (.string [112, 111, 112]), .lit (.int .u8 0), .lit (.int .u8 1), .lit (.int .u8 0), .lit (.int .u8 1)], .agg [.lit (.int .u8 49), .lit (.string [100, 117, 112]), .lit (.int .u8 1), .lit (.int .u8 0), .lit (.int .u8 1), .lit (.int .u8 1)], .agg [.lit (.int .u8 50), .lit (.string [115, 119, 97, 112]), .lit (.int .u8 1), .lit (.int .u8 0), .lit (.int .u8 0), .lit (.int .u8 1)], .agg [.lit (.int .u8 64), .lit (.string [106, 117, 109, 112]), .lit (.int .u8 0), .lit (.int .u8 1), .lit (.int .u8 0), .lit (.int .u8 3)], .agg [.lit (.int .u8 65), .lit (.string [106, 117, 109, 112, 105, 102]), .lit (.int .u8 0), .lit (.int .u8 2), .lit (.int .u8 0), .lit (.int .u8 3)], .agg [.lit (.int .u8 66), .lit (.string [109, 97, 114, 107]), .lit (.int .u8 0), .lit (.int .u8 0), .lit (.int .u8 0), .lit (.int .u8 1)], .agg [.lit (.int .u8 80), .lit (.string [108, 111, 97, 100]), .lit (.int .u8 0), .lit (.int .u8 1), .lit (.int .u8 1), .lit (.int .u8 10)], .agg [.lit (.int .u8 81), .lit (.string [115, 116, 111, 114, 101]), .lit (.int .u8 0), .lit (.int .u8 2), .lit (.int .u8 0), .lit (.int .u8 20)], .agg [.lit (.int .u8 96), .lit (.string [115, 101, 108, 102]), .lit (.int .u8 0), .lit (.int .u8 0), .lit (.int .u8 1), .lit (.int .u8 1)], .agg [.lit (.int .u8 97), .lit (.string [99, 97, 108, 108, 101, 114]), .lit (.int .u8 0), .lit (.int .u8 0), .lit (.int .u8 1), .lit (.int .u8 1)], .agg [.lit (.int .u8 98), .lit (.string [118, 97, 108, 117, 101]), .lit (.int .u8 0), .lit (.int .u8 0), .lit (.int .u8 1), .lit (.int .u8 1)], .agg [.lit (.int .u8 99), .lit (.string [105, 110, 112, 117, 116]), .lit (.int .u8 0), .lit (.int .u8 1), .lit (.int .u8 1), .lit (.int .u8 1)], .agg [.lit (.int .u8 100), .lit (.string [98, 97, 108, 97, 110, 99, 101]), .lit (.int .u8 0), .lit (.int .u8 1), .lit (.int .u8 1), .lit (.int .u8 8)], .agg [.lit (.int .u8 101), .lit (.string [103, 97, 115]), .lit (.int .u8 0), .lit (.int .u8 0), .lit (.int .u8 1), .lit (.int .u8 1)], .agg [.lit (.int .u8 102), .lit (.string [110, 117, 109, 98, 101, 114]), .lit (.int .u8 0), .lit (.int .u8 0), .lit (.int .u8 1), .lit (.int .u8 1)], .agg [.lit (.int .u8 112), .lit (.string [99, 97, 108, 108]), .lit (.int .u8 0), .lit (.int .u8 4), .lit (.int .u8 1), .lit (.int .u8 40)], .agg [.lit (.int .u8 113), .lit (.string [114, 101, 115, 117, 108, 116]), .lit (.int .u8 0), .lit (.int .u8 0), .lit (.int .u8 1), .lit (.int .u8 1)], .agg [.lit (.int .u8 128), .lit (.string [114, 101, 116, 117, 114, 110]), .lit (.int .u8 0), .lit (.int .u8 1), .lit (.int .u8 0), .lit (.int .u8 0)], .agg [.lit (.int .u8 129), .lit (.string [114, 101, 118, 101, 114, 116]), .lit (.int .u8 0), .lit (.int .u8 1), .lit (.int .u8 0), .lit (.int .u8 0)]]

/-- 'pergolalaw14.OpcodeInfos': WHATEVER THE INPUT: true; the input reads as it did. -/
def opcodeInfosSpec : ChangeSpec := { name := "opcodeInfos", fn := fun _ => fun
  | [d] => { results := [.lit (.bool true)], args := [d] }
  | _ => none }
def opcodeInfosRow : OpenClaim := { program := "ytbjjboicfghldaadoor", sum := "6a58b371aba2a12e853015b9e28ef6327a70b582abadb885c6918e2b723a1f88", func := "pergola/pergolalaw14.OpcodeInfos", spec := "opcodeInfos", inPlace := ["internal/abi.NoEscape", "internal/bytealg.MakeNoZero"], named := ["pergola/opcode.table"], apart := false, laid := [("pergola/opcode.table", laid_pergola_opcode_table)] }
def OpcodeInfosSaid : Prop := opcodeInfosRow.holds Tryd.pinned (OpenSpec.ofChange opcodeInfosSpec)

/-- ITS FALSE NEIGHBOUR: 'it returns false'. Refute it at one input. -/
def opcodeInfosWrong : ChangeSpec := { name := "opcodeInfos", fn := fun _ => fun
  | [d] => { results := [.lit (.bool false)], args := [d] }
  | _ => none }
def OpcodeInfosWrongFalsely : Prop := opcodeInfosRow.holds Tryd.pinned (OpenSpec.ofChange opcodeInfosWrong)

/-- 'pergolalaw14.OpcodeMarks': WHATEVER THE INPUT: true; the input reads as it did. -/
def opcodeMarksSpec : ChangeSpec := { name := "opcodeMarks", fn := fun _ => fun
  | [d] => { results := [.lit (.bool true)], args := [d] }
  | _ => none }
def opcodeMarksRow : OpenClaim := { program := "ytbjjboicfghldaadoor", sum := "6a58b371aba2a12e853015b9e28ef6327a70b582abadb885c6918e2b723a1f88", func := "pergola/pergolalaw14.OpcodeMarks", spec := "opcodeMarks", inPlace := ["internal/abi.NoEscape", "internal/bytealg.MakeNoZero"], named := ["pergola/opcode.table"], apart := false, laid := [("pergola/opcode.table", laid_pergola_opcode_table)] }
def OpcodeMarksSaid : Prop := opcodeMarksRow.holds Tryd.pinned (OpenSpec.ofChange opcodeMarksSpec)

/-- ITS FALSE NEIGHBOUR: 'it returns false'. Refute it at one input. -/
def opcodeMarksWrong : ChangeSpec := { name := "opcodeMarks", fn := fun _ => fun
  | [d] => { results := [.lit (.bool false)], args := [d] }
  | _ => none }
def OpcodeMarksWrongFalsely : Prop := opcodeMarksRow.holds Tryd.pinned (OpenSpec.ofChange opcodeMarksWrong)

/-- 'pergolalaw14.OpcodeAssembles': WHATEVER THE INPUT: true; the input reads as it did. -/
def opcodeAssemblesSpec : ChangeSpec := { name := "opcodeAssembles", fn := fun _ => fun
  | [d] => { results := [.lit (.bool true)], args := [d] }
  | _ => none }
def opcodeAssemblesRow : OpenClaim := { program := "ytbjjboicfghldaadoor", sum := "6a58b371aba2a12e853015b9e28ef6327a70b582abadb885c6918e2b723a1f88", func := "pergola/pergolalaw14.OpcodeAssembles", spec := "opcodeAssembles", inPlace := ["internal/abi.NoEscape", "internal/bytealg.MakeNoZero"], named := ["pergola/opcode.table"], apart := false, laid := [("pergola/opcode.table", laid_pergola_opcode_table)] }
def OpcodeAssemblesSaid : Prop := opcodeAssemblesRow.holds Tryd.pinned (OpenSpec.ofChange opcodeAssemblesSpec)

/-- ITS FALSE NEIGHBOUR: 'it returns false'. Refute it at one input. -/
def opcodeAssemblesWrong : ChangeSpec := { name := "opcodeAssembles", fn := fun _ => fun
  | [d] => { results := [.lit (.bool false)], args := [d] }
  | _ => none }
def OpcodeAssemblesWrongFalsely : Prop := opcodeAssemblesRow.holds Tryd.pinned (OpenSpec.ofChange opcodeAssemblesWrong)

/-- 'pergolalaw14.OpcodePrints': WHATEVER THE INPUT: true; the input reads as it did. -/
def opcodePrintsSpec : ChangeSpec := { name := "opcodePrints", fn := fun _ => fun
  | [d] => { results := [.lit (.bool true)], args := [d] }
  | _ => none }
def opcodePrintsRow : OpenClaim := { program := "ytbjjboicfghldaadoor", sum := "6a58b371aba2a12e853015b9e28ef6327a70b582abadb885c6918e2b723a1f88", func := "pergola/pergolalaw14.OpcodePrints", spec := "opcodePrints", inPlace := ["internal/abi.NoEscape", "internal/bytealg.MakeNoZero"], named := ["pergola/opcode.table"], apart := false, laid := [("pergola/opcode.table", laid_pergola_opcode_table)] }
def OpcodePrintsSaid : Prop := opcodePrintsRow.holds Tryd.pinned (OpenSpec.ofChange opcodePrintsSpec)

/-- ITS FALSE NEIGHBOUR: 'it returns false'. Refute it at one input. -/
def opcodePrintsWrong : ChangeSpec := { name := "opcodePrints", fn := fun _ => fun
  | [d] => { results := [.lit (.bool false)], args := [d] }
  | _ => none }
def OpcodePrintsWrongFalsely : Prop := opcodePrintsRow.holds Tryd.pinned (OpenSpec.ofChange opcodePrintsWrong)

/-- 'pergolalaw14.OpcodeBack': WHATEVER THE INPUT: true; the input reads as it did. -/
def opcodeBackSpec : ChangeSpec := { name := "opcodeBack", fn := fun _ => fun
  | [d] => { results := [.lit (.bool true)], args := [d] }
  | _ => none }
def opcodeBackRow : OpenClaim := { program := "ytbjjboicfghldaadoor", sum := "6a58b371aba2a12e853015b9e28ef6327a70b582abadb885c6918e2b723a1f88", func := "pergola/pergolalaw14.OpcodeBack", spec := "opcodeBack", inPlace := ["internal/abi.NoEscape", "internal/bytealg.MakeNoZero"], named := ["pergola/opcode.table"], apart := false, laid := [("pergola/opcode.table", laid_pergola_opcode_table)] }
def OpcodeBackSaid : Prop := opcodeBackRow.holds Tryd.pinned (OpenSpec.ofChange opcodeBackSpec)

/-- ITS FALSE NEIGHBOUR: 'it returns false'. Refute it at one input. -/
def opcodeBackWrong : ChangeSpec := { name := "opcodeBack", fn := fun _ => fun
  | [d] => { results := [.lit (.bool false)], args := [d] }
  | _ => none }
def OpcodeBackWrongFalsely : Prop := opcodeBackRow.holds Tryd.pinned (OpenSpec.ofChange opcodeBackWrong)

/-- 'pergolalaw14.OpcodeAgain': WHATEVER THE INPUT: true; the input reads as it did. -/
def opcodeAgainSpec : ChangeSpec := { name := "opcodeAgain", fn := fun _ => fun
  | [d] => { results := [.lit (.bool true)], args := [d] }
  | _ => none }
def opcodeAgainRow : OpenClaim := { program := "ytbjjboicfghldaadoor", sum := "6a58b371aba2a12e853015b9e28ef6327a70b582abadb885c6918e2b723a1f88", func := "pergola/pergolalaw14.OpcodeAgain", spec := "opcodeAgain", inPlace := ["internal/abi.NoEscape", "internal/bytealg.MakeNoZero"], named := ["pergola/opcode.table"], apart := false, laid := [("pergola/opcode.table", laid_pergola_opcode_table)] }
def OpcodeAgainSaid : Prop := opcodeAgainRow.holds Tryd.pinned (OpenSpec.ofChange opcodeAgainSpec)

/-- ITS FALSE NEIGHBOUR: 'it returns false'. Refute it at one input. -/
def opcodeAgainWrong : ChangeSpec := { name := "opcodeAgain", fn := fun _ => fun
  | [d] => { results := [.lit (.bool false)], args := [d] }
  | _ => none }
def OpcodeAgainWrongFalsely : Prop := opcodeAgainRow.holds Tryd.pinned (OpenSpec.ofChange opcodeAgainWrong)

/- THE SECOND FORM. 'bulk': how many values and letters a reading holds, each counted each time it is reached (what is shared counts as often as it is met; a slice's spare places count too). A statement '..UptoSaid' is the law's where the arguments, and the package variables that the reading takes, are together of bulk at most 1048576: NARROWER than '..Said'. Prove '..Said' where nothing that the law and all that it calls make is longer than what came in: it says more and counts as full. Else prove '..UptoSaid'. A law counts once. -/
mutual
def uptoBulk {H : Type} : DataW H → Nat
  | .lit (.string bytes) => bytes.length + 1
  | .lit _ => 1
  | .nil => 1
  | .ptr d => uptoBulk d + 1
  | .slice elems spare => uptoBulkAll elems + uptoBulkAll spare + 1
  | .agg parts => uptoBulkAll parts + 1
  | .iface _ d => uptoBulk d + 1
  | .map entries => uptoBulkEntries entries + 1
  | .held _ => 1
def uptoBulkAll {H : Type} : List (DataW H) → Nat
  | [] => 0
  | d :: r => uptoBulk d + uptoBulkAll r
def uptoBulkEntries {H : Type} : List (Lit × DataW H) → Nat
  | [] => 0
  | x :: r => uptoBulkEntry x + uptoBulkEntries r
def uptoBulkEntry {H : Type} : Lit × DataW H → Nat
  | (.string bytes, d) => bytes.length + uptoBulk d + 1
  | (_, d) => uptoBulk d + 1
 end
def uptoSmall : (H : Type) → List (DataW H) → Bool := fun _ ds => decide (uptoBulkAll ds ≤ 1048576)
def OpenSpec.upto (s : _root_.Go.ChangeSpec) : _root_.Go.OpenSpec := { _root_.Go.OpenSpec.ofChange s with cond := some uptoSmall }

/-- 'pergolalaw14.OpcodeInfos', WHERE WHAT IT READS IS OF BULK AT MOST 1048576: true; the input reads as it did. -/
def opcodeInfosUptoRow : OpenClaim := { program := "ytbjjboicfghldaadoor", sum := "6a58b371aba2a12e853015b9e28ef6327a70b582abadb885c6918e2b723a1f88", func := "pergola/pergolalaw14.OpcodeInfos", spec := "opcodeInfos", inPlace := ["internal/abi.NoEscape", "internal/bytealg.MakeNoZero"], named := ["pergola/opcode.table"], apart := false, laid := [("pergola/opcode.table", laid_pergola_opcode_table)], narrowed := true }
def OpcodeInfosUptoSaid : Prop := opcodeInfosUptoRow.holds Tryd.pinned (OpenSpec.upto opcodeInfosSpec)

/-- 'pergolalaw14.OpcodeMarks', WHERE WHAT IT READS IS OF BULK AT MOST 1048576: true; the input reads as it did. -/
def opcodeMarksUptoRow : OpenClaim := { program := "ytbjjboicfghldaadoor", sum := "6a58b371aba2a12e853015b9e28ef6327a70b582abadb885c6918e2b723a1f88", func := "pergola/pergolalaw14.OpcodeMarks", spec := "opcodeMarks", inPlace := ["internal/abi.NoEscape", "internal/bytealg.MakeNoZero"], named := ["pergola/opcode.table"], apart := false, laid := [("pergola/opcode.table", laid_pergola_opcode_table)], narrowed := true }
def OpcodeMarksUptoSaid : Prop := opcodeMarksUptoRow.holds Tryd.pinned (OpenSpec.upto opcodeMarksSpec)

/-- 'pergolalaw14.OpcodeAssembles', WHERE WHAT IT READS IS OF BULK AT MOST 1048576: true; the input reads as it did. -/
def opcodeAssemblesUptoRow : OpenClaim := { program := "ytbjjboicfghldaadoor", sum := "6a58b371aba2a12e853015b9e28ef6327a70b582abadb885c6918e2b723a1f88", func := "pergola/pergolalaw14.OpcodeAssembles", spec := "opcodeAssembles", inPlace := ["internal/abi.NoEscape", "internal/bytealg.MakeNoZero"], named := ["pergola/opcode.table"], apart := false, laid := [("pergola/opcode.table", laid_pergola_opcode_table)], narrowed := true }
def OpcodeAssemblesUptoSaid : Prop := opcodeAssemblesUptoRow.holds Tryd.pinned (OpenSpec.upto opcodeAssemblesSpec)

/-- 'pergolalaw14.OpcodePrints', WHERE WHAT IT READS IS OF BULK AT MOST 1048576: true; the input reads as it did. -/
def opcodePrintsUptoRow : OpenClaim := { program := "ytbjjboicfghldaadoor", sum := "6a58b371aba2a12e853015b9e28ef6327a70b582abadb885c6918e2b723a1f88", func := "pergola/pergolalaw14.OpcodePrints", spec := "opcodePrints", inPlace := ["internal/abi.NoEscape", "internal/bytealg.MakeNoZero"], named := ["pergola/opcode.table"], apart := false, laid := [("pergola/opcode.table", laid_pergola_opcode_table)], narrowed := true }
def OpcodePrintsUptoSaid : Prop := opcodePrintsUptoRow.holds Tryd.pinned (OpenSpec.upto opcodePrintsSpec)

/-- 'pergolalaw14.OpcodeBack', WHERE WHAT IT READS IS OF BULK AT MOST 1048576: true; the input reads as it did. -/
def opcodeBackUptoRow : OpenClaim := { program := "ytbjjboicfghldaadoor", sum := "6a58b371aba2a12e853015b9e28ef6327a70b582abadb885c6918e2b723a1f88", func := "pergola/pergolalaw14.OpcodeBack", spec := "opcodeBack", inPlace := ["internal/abi.NoEscape", "internal/bytealg.MakeNoZero"], named := ["pergola/opcode.table"], apart := false, laid := [("pergola/opcode.table", laid_pergola_opcode_table)], narrowed := true }
def OpcodeBackUptoSaid : Prop := opcodeBackUptoRow.holds Tryd.pinned (OpenSpec.upto opcodeBackSpec)

/-- 'pergolalaw14.OpcodeAgain', WHERE WHAT IT READS IS OF BULK AT MOST 1048576: true; the input reads as it did. -/
def opcodeAgainUptoRow : OpenClaim := { program := "ytbjjboicfghldaadoor", sum := "6a58b371aba2a12e853015b9e28ef6327a70b582abadb885c6918e2b723a1f88", func := "pergola/pergolalaw14.OpcodeAgain", spec := "opcodeAgain", inPlace := ["internal/abi.NoEscape", "internal/bytealg.MakeNoZero"], named := ["pergola/opcode.table"], apart := false, laid := [("pergola/opcode.table", laid_pergola_opcode_table)], narrowed := true }
def OpcodeAgainUptoSaid : Prop := opcodeAgainUptoRow.holds Tryd.pinned (OpenSpec.upto opcodeAgainSpec)

end Rows
end Go.Proofs.YtbjjboicfghldaaDoor
