/-
  NARROWER THAN 'FOR EVERY INPUT', by the rows' own cells (each row's printed sentence says how): OpcodeJoins: laid · OpcodePieces: laid.
  DERIVED. THE GIVEN ROWS OF THIS SEAT. 2 by the template 'for every input the law returns true; each argument reads behind the call as it read before'; 0 by the template 'total and deterministic' (their statements: YtbjjboicfghldabDoorTotals.lean).
  GIVEN WITH THE SEED: the statements are not yours to turn. If you find one false, say at which input.
  Laid BY PROGRAM, IN A SANDBOX (cutbox-rows.mjs): the forced cells as the released guide's own fill.sh prints them over the translation ba06f9a8d607f5b0… (all of the seat's roots in one cut). By AI agents, Wed Nov 11 2026. No macro, syntax, notation, axiom, sorry.
-/
import Derived.Test.YtbjjboicfghldabDoorChecked
import GoSem.Claim
import GoSem.ClaimJoined
import GoSem.ClaimMapViews
import Derived.JoinedTies
import Derived.KernelRfl
namespace Go.Proofs.YtbjjboicfghldabDoor
/- THE CELL 'sum', in the pinned program and in every row, IS THE sha256 OF THE DUMP (.gsa) THAT YtbjjboicfghldabDoorProg.lean LOADS. Nothing in Lean hashes anything: it is a label: what it is worth is what the hold of that sum in a sandbox is worth. -/
noncomputable def Tryd.pinned : Pinned := { name := "ytbjjboicfghldabdoor", sum := "ba06f9a8d607f5b0243a433a640139495cddbb408810f8db158acb7ae5dbba2b", checked := Tryd.checked }
namespace Rows
def none {H : Type} : Left H := { results := [], args := [] }

/- WHAT THE LISTED PACKAGE-LEVEL VARIABLES READ AS WHEN THE CALL BEGINS. Each datum BY PROGRAM (the guide's laid-datum.mjs) off the statement by which the dump's own 'gosem.cut.vars' lays the variable. In a bare row this is a premise. The card (YtbjjboicfghldabDoorCards.lean) ties it to the program's text. -/
def laid_pergola_opcode_table {H : Type} : DataW H := .agg [.agg [.lit (.int .u8 0), .lit (.string [115, 116, 111, 112]), .lit (.int .u8 0), .lit (.int .u8 0), .lit (.int .u8 0), .lit (.int .u8 0)], .agg [.lit (.int .u8 1), .lit (.string [97, 100, 100]), .lit (.int .u8 0), .lit (.int .u8 2), .lit (.int .u8 1), .lit (.int .u8 1)], .agg [.lit (.int .u8 2), .lit (.string [115, 117, 98]), .lit (.int .u8 0), .lit (.int .u8 2), .lit (.int .u8 1), .lit (.int .u8 1)], .agg [.lit (.int .u8 3), .lit (.string [109, 117, 108]), .lit (.int .u8 0), .lit (.int .u8 2), .lit (.int .u8 1), .lit (.int .u8 2)], .agg [.lit (.int .u8 4), .lit (.string [100, 105, 118]), .lit (.int .u8 0), .lit (.int .u8 2), .lit (.int .u8 1), .lit (.int .u8 2)], .agg [.lit (.int .u8 5), .lit (.string [109, 111, 100]), .lit (.int .u8 0), .lit (.int .u8 2), .lit (.int .u8 1), .lit (.int .u8 2)], .agg [.lit (.int .u8 6), .lit (.string [108, 101, 115, 115]), .lit (.int .u8 0), .lit (.int .u8 2), .lit (.int .u8 1), .lit (.int .u8 1)], .agg [.lit (.int .u8 7), .lit (.string [101, 113, 117, 97, 108]), .lit (.int .u8 0), .lit (.int .u8 2), .lit (.int .u8 1), .lit (.int .u8 1)], .agg [.lit (.int .u8 8), .lit (.string [110, 111, 116]), .lit (.int .u8 0), .lit (.int .u8 1), .lit (.int .u8 1), .lit (.int .u8 1)], .agg [.lit (.int .u8 32), .lit (.string [112, 117, 115, 104]), .lit (.int .u8 1), .lit (.int .u8 0), .lit (.int .u8 1), .lit (.int .u8 1)], .agg [.lit (.int .u8 48), .lit (.string [112, 111, 112]), .lit (.int .u8 0), .lit (.int .u8 1), .lit (.int .u8 0), .lit (.int .u8 1)], .agg [.lit (.int .u8 49), .lit (.string [100, 117, 112]), .lit (.int .u8 1), .lit (.int .u8 0), .lit (.int .u8 1), .lit (.int .u8 1)], .agg [.lit (.int .u8 50), .lit (.string [115, 119, 97, 112]), .lit (.int .u8 1), .lit (.int .u8 0), .lit (.int .u8 0), .lit (.int .u8 1)], .agg [.lit (.int .u8 64), .lit (.string [106, 117, 109, 112]), .lit (.int .u8 0), .lit (.int .u8 1), .lit (.int .u8 0), .lit (.int .u8 3)], .agg [.lit (.int .u8 65), .lit (.string [106, 117, 109, 112, 105, 102]), .lit (.int .u8 0), .lit (.int .u8 2), .lit (.int .u8 0), .lit (.int .u8 3)], .agg [.lit (.int .u8 66), .lit (.string [109, 97, 114, 107]), .lit (.int .u8 0), .lit (.int .u8 0), .lit (.int .u8 0), .lit (.int .u8 1)], .agg [.lit (.int .u8 80), .lit (.string [108, 111, 97, 100]), .lit (.int .u8 0), .lit (.int .u8 1), .lit (.int .u8 1), .lit (.int .u8 10)], .agg [.lit (.int .u8 81), .lit (.string [115, 116, 111, 114, 101]), .lit (.int .u8 0), .lit (.int .u8 2), .lit (.int .u8 0), .lit (.int .u8 20)], .agg [.lit (.int .u8 96), .lit (.string [115, 101, 108, 102]), .lit (.int .u8 0), .lit (.int .u8 0), .lit (.int .u8 1), .lit (.int .u8 1)], .agg [.lit (.int .u8 97), .lit (.string [99, 97, 108, 108, 101, 114]), .lit (.int .u8 0), .lit (.int .u8 0), .lit (.int .u8 1), .lit (.int .u8 1)], .agg [.lit (.int .u8 98), .lit (.string [118, 97, 108, 117, 101]), .lit (.int .u8 0), .lit (.int .u8 0), .lit (.int .u8 1), .lit (.int .u8 1)], .agg [.lit (.int .u8 99), .lit (.string [105, 110, 112, 117, 116]), .lit (.int .u8 0), .lit (.int .u8 1), .lit (.int .u8 1), .lit (.int .u8 1)], .agg [.lit (.int .u8 100), .lit (.string [98, 97, 108, 97, 110, 99, 101]), .lit (.int .u8 0), .lit (.int .u8 1), .lit (.int .u8 1), .lit (.int .u8 8)], .agg [.lit (.int .u8 101), .lit (.string [103, 97, 115]), .lit (.int .u8 0), .lit (.int .u8 0), .lit (.int .u8 1), .lit (.int .u8 1)], .agg [.lit (.int .u8 102), .lit (.string [110, 117, 109, 98, 101, 114]), .lit (.int .u8 0), .lit (.int .u8 0), .lit (.int .u8 1), .lit (.int .u8 1)], .agg [.lit (.int .u8 112), .lit (.string [99, 97, 108, 108]), .lit (.int .u8 0), .lit (.int .u8 4), .lit (.int .u8 1), .lit (.int .u8 40)], .agg [.lit (.int .u8 113), .lit (.string [114, 101, 115, 117, 108, 116]), .lit (.int .u8 0), .lit (.int .u8 0), .lit (.int .u8 1), .lit (.int .u8 1)], .agg [.lit (.int .u8 128), .lit (.string [114, 101, 116, 117, 114, 110]), .lit (.int .u8 0), .lit (.int .u8 1), .lit (.int .u8 0), .lit (.int .u8 0)], .agg [.lit (.int .u8 129), .lit (.string [114, 101, 118, 101, 114, 116]), .lit (.int .u8 0), .lit (.int .u8 1), .lit (.int .u8 0), .lit (.int .u8 0)]]

/-- 'pergolalaw14.OpcodeJoins': WHATEVER THE INPUT: true; the input reads as it did. -/
def opcodeJoinsSpec : ChangeSpec := { name := "opcodeJoins", fn := fun _ => fun
  | [d1, d2] => { results := [.lit (.bool true)], args := [d1, d2] }
  | _ => none }
def opcodeJoinsRow : OpenClaim := { program := "ytbjjboicfghldabdoor", sum := "ba06f9a8d607f5b0243a433a640139495cddbb408810f8db158acb7ae5dbba2b", func := "pergola/pergolalaw14.OpcodeJoins", spec := "opcodeJoins", inPlace := ["internal/abi.NoEscape", "internal/bytealg.MakeNoZero"], named := ["pergola/opcode.table"], apart := false, laid := [("pergola/opcode.table", laid_pergola_opcode_table)] }
def OpcodeJoinsSaid : Prop := opcodeJoinsRow.holds Tryd.pinned (OpenSpec.ofChange opcodeJoinsSpec)

/-- ITS FALSE NEIGHBOUR: 'it returns false'. Refute it at one input. -/
def opcodeJoinsWrong : ChangeSpec := { name := "opcodeJoins", fn := fun _ => fun
  | [d1, d2] => { results := [.lit (.bool false)], args := [d1, d2] }
  | _ => none }
def OpcodeJoinsWrongFalsely : Prop := opcodeJoinsRow.holds Tryd.pinned (OpenSpec.ofChange opcodeJoinsWrong)

/-- 'pergolalaw14.OpcodePieces': WHATEVER THE INPUT: true; the input reads as it did. -/
def opcodePiecesSpec : ChangeSpec := { name := "opcodePieces", fn := fun _ => fun
  | [d1, d2] => { results := [.lit (.bool true)], args := [d1, d2] }
  | _ => none }
def opcodePiecesRow : OpenClaim := { program := "ytbjjboicfghldabdoor", sum := "ba06f9a8d607f5b0243a433a640139495cddbb408810f8db158acb7ae5dbba2b", func := "pergola/pergolalaw14.OpcodePieces", spec := "opcodePieces", inPlace := ["internal/abi.NoEscape", "internal/bytealg.MakeNoZero"], named := ["pergola/opcode.table"], apart := false, laid := [("pergola/opcode.table", laid_pergola_opcode_table)] }
def OpcodePiecesSaid : Prop := opcodePiecesRow.holds Tryd.pinned (OpenSpec.ofChange opcodePiecesSpec)

/-- ITS FALSE NEIGHBOUR: 'it returns false'. Refute it at one input. -/
def opcodePiecesWrong : ChangeSpec := { name := "opcodePieces", fn := fun _ => fun
  | [d1, d2] => { results := [.lit (.bool false)], args := [d1, d2] }
  | _ => none }
def OpcodePiecesWrongFalsely : Prop := opcodePiecesRow.holds Tryd.pinned (OpenSpec.ofChange opcodePiecesWrong)

/- THE SECOND FORM. 'bulk': how many values and letters a reading holds, each counted each time it is reached (what is shared counts as often as it is met; a slice's spare places count too). A statement '..UptoSaid' is the law's where the arguments, and the package variables that the reading takes, are together of bulk at most 1048576: NARROWER than '..Said'. Prove '..Said' where nothing that the law and all that it calls make is longer than what came in: it says more and counts as full. Else prove '..UptoSaid'. A law counts once. -/
mutual
def uptoBulk {H : Type} : DataW H → Nat
  | .lit (.string bytes) => bytes.length + 1
  | .lit _ => 1
  | .nil => 1
  | .ptr d => uptoBulk d + 1
  | .slice elems spare => uptoBulkAll elems + uptoBulkAll spare + 1
  | .agg parts => uptoBulkAll parts + 1
  | .iface _ d => uptoBulk d + 1
  | .map entries => uptoBulkEntries entries + 1
  | .held _ => 1
def uptoBulkAll {H : Type} : List (DataW H) → Nat
  | [] => 0
  | d :: r => uptoBulk d + uptoBulkAll r
def uptoBulkEntries {H : Type} : List (Lit × DataW H) → Nat
  | [] => 0
  | x :: r => uptoBulkEntry x + uptoBulkEntries r
def uptoBulkEntry {H : Type} : Lit × DataW H → Nat
  | (.string bytes, d) => bytes.length + uptoBulk d + 1
  | (_, d) => uptoBulk d + 1
 end
def uptoSmall : (H : Type) → List (DataW H) → Bool := fun _ ds => decide (uptoBulkAll ds ≤ 1048576)
def OpenSpec.upto (s : _root_.Go.ChangeSpec) : _root_.Go.OpenSpec := { _root_.Go.OpenSpec.ofChange s with cond := some uptoSmall }

/-- 'pergolalaw14.OpcodeJoins', WHERE WHAT IT READS IS OF BULK AT MOST 1048576: true; the input reads as it did. -/
def opcodeJoinsUptoRow : OpenClaim := { program := "ytbjjboicfghldabdoor", sum := "ba06f9a8d607f5b0243a433a640139495cddbb408810f8db158acb7ae5dbba2b", func := "pergola/pergolalaw14.OpcodeJoins", spec := "opcodeJoins", inPlace := ["internal/abi.NoEscape", "internal/bytealg.MakeNoZero"], named := ["pergola/opcode.table"], apart := false, laid := [("pergola/opcode.table", laid_pergola_opcode_table)], narrowed := true }
def OpcodeJoinsUptoSaid : Prop := opcodeJoinsUptoRow.holds Tryd.pinned (OpenSpec.upto opcodeJoinsSpec)

/-- 'pergolalaw14.OpcodePieces', WHERE WHAT IT READS IS OF BULK AT MOST 1048576: true; the input reads as it did. -/
def opcodePiecesUptoRow : OpenClaim := { program := "ytbjjboicfghldabdoor", sum := "ba06f9a8d607f5b0243a433a640139495cddbb408810f8db158acb7ae5dbba2b", func := "pergola/pergolalaw14.OpcodePieces", spec := "opcodePieces", inPlace := ["internal/abi.NoEscape", "internal/bytealg.MakeNoZero"], named := ["pergola/opcode.table"], apart := false, laid := [("pergola/opcode.table", laid_pergola_opcode_table)], narrowed := true }
def OpcodePiecesUptoSaid : Prop := opcodePiecesUptoRow.holds Tryd.pinned (OpenSpec.upto opcodePiecesSpec)

end Rows
end Go.Proofs.YtbjjboicfghldabDoor
