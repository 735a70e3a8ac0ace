/-
  No cell of these rows narrows 'for every input' (looked for: loops, veiled, ifaces, maps, wideKeys, modest, calm, conditions, laid).
  DERIVED. THE GIVEN ROWS OF THIS SEAT. 6 by the template 'for every input the law returns true; each argument reads behind the call as it read before'; 0 by the template 'total and deterministic' (their statements: YtmaajddofmahpaaTotals.lean).
  GIVEN WITH THE SEED: the statements are not yours to turn. If you find one false, say at which input.
  Laid BY PROGRAM, IN A SANDBOX (cutbox-rows.mjs): the forced cells as the released guide's own fill.sh prints them over the translation 11b0fda9685e02c5… (all of the seat's roots in one cut). By AI agents, Wed Nov 11 2026. No macro, syntax, notation, axiom, sorry.
-/
import Derived.Test.YtmaajddofmahpaaChecked
import GoSem.Claim
import GoSem.ClaimJoined
import GoSem.ClaimMapViews
import Derived.JoinedTies
import Derived.KernelRfl
namespace Go.Proofs.Ytmaajddofmahpaa
/- THE CELL 'sum', in the pinned program and in every row, IS THE sha256 OF THE DUMP (.gsa) THAT YtmaajddofmahpaaProg.lean LOADS. Nothing in Lean hashes anything: it is a label: what it is worth is what the hold of that sum in a sandbox is worth. -/
noncomputable def Try.pinned : Pinned := { name := "ytmaajddofmahpaa", sum := "11b0fda9685e02c50c3ece1f67a45bcbbf9df858829f0b965389938e7fe7dfe4", checked := Try.checked }
namespace Rows
def none {H : Type} : Left H := { results := [], args := [] }

/-- 'pergolalaw12.AccountsEncodes': WHATEVER THE INPUT: true; the input reads as it did. -/
def accountsEncodesSpec : ChangeSpec := { name := "accountsEncodes", fn := fun _ => fun
  | [d] => { results := [.lit (.bool true)], args := [d] }
  | _ => none }
def accountsEncodesRow : OpenClaim := { program := "ytmaajddofmahpaa", sum := "11b0fda9685e02c50c3ece1f67a45bcbbf9df858829f0b965389938e7fe7dfe4", func := "pergola/pergolalaw12.AccountsEncodes", spec := "accountsEncodes", recurses := true, apart := false }
def AccountsEncodesSaid : Prop := accountsEncodesRow.holds Try.pinned (OpenSpec.ofChange accountsEncodesSpec)

/-- ITS FALSE NEIGHBOUR: 'it returns false'. Refute it at one input. -/
def accountsEncodesWrong : ChangeSpec := { name := "accountsEncodes", fn := fun _ => fun
  | [d] => { results := [.lit (.bool false)], args := [d] }
  | _ => none }
def AccountsEncodesWrongFalsely : Prop := accountsEncodesRow.holds Try.pinned (OpenSpec.ofChange accountsEncodesWrong)

/-- 'pergolalaw12.AccountsDecodes': WHATEVER THE INPUT: true; the input reads as it did. -/
def accountsDecodesSpec : ChangeSpec := { name := "accountsDecodes", fn := fun _ => fun
  | [d] => { results := [.lit (.bool true)], args := [d] }
  | _ => none }
def accountsDecodesRow : OpenClaim := { program := "ytmaajddofmahpaa", sum := "11b0fda9685e02c50c3ece1f67a45bcbbf9df858829f0b965389938e7fe7dfe4", func := "pergola/pergolalaw12.AccountsDecodes", spec := "accountsDecodes", recurses := true, apart := false }
def AccountsDecodesSaid : Prop := accountsDecodesRow.holds Try.pinned (OpenSpec.ofChange accountsDecodesSpec)

/-- ITS FALSE NEIGHBOUR: 'it returns false'. Refute it at one input. -/
def accountsDecodesWrong : ChangeSpec := { name := "accountsDecodes", fn := fun _ => fun
  | [d] => { results := [.lit (.bool false)], args := [d] }
  | _ => none }
def AccountsDecodesWrongFalsely : Prop := accountsDecodesRow.holds Try.pinned (OpenSpec.ofChange accountsDecodesWrong)

/-- 'pergolalaw12.AccountsSlots': WHATEVER THE INPUT: true; the input reads as it did. -/
def accountsSlotsSpec : ChangeSpec := { name := "accountsSlots", fn := fun _ => fun
  | [d1, d2] => { results := [.lit (.bool true)], args := [d1, d2] }
  | _ => none }
def accountsSlotsRow : OpenClaim := { program := "ytmaajddofmahpaa", sum := "11b0fda9685e02c50c3ece1f67a45bcbbf9df858829f0b965389938e7fe7dfe4", func := "pergola/pergolalaw12.AccountsSlots", spec := "accountsSlots", recurses := true, apart := false }
def AccountsSlotsSaid : Prop := accountsSlotsRow.holds Try.pinned (OpenSpec.ofChange accountsSlotsSpec)

/-- ITS FALSE NEIGHBOUR: 'it returns false'. Refute it at one input. -/
def accountsSlotsWrong : ChangeSpec := { name := "accountsSlots", fn := fun _ => fun
  | [d1, d2] => { results := [.lit (.bool false)], args := [d1, d2] }
  | _ => none }
def AccountsSlotsWrongFalsely : Prop := accountsSlotsRow.holds Try.pinned (OpenSpec.ofChange accountsSlotsWrong)

/-- 'pergolalaw12.AccountsBack': WHATEVER THE INPUT: true; the input reads as it did. -/
def accountsBackSpec : ChangeSpec := { name := "accountsBack", fn := fun _ => fun
  | [d] => { results := [.lit (.bool true)], args := [d] }
  | _ => none }
def accountsBackRow : OpenClaim := { program := "ytmaajddofmahpaa", sum := "11b0fda9685e02c50c3ece1f67a45bcbbf9df858829f0b965389938e7fe7dfe4", func := "pergola/pergolalaw12.AccountsBack", spec := "accountsBack", recurses := true, apart := false }
def AccountsBackSaid : Prop := accountsBackRow.holds Try.pinned (OpenSpec.ofChange accountsBackSpec)

/-- ITS FALSE NEIGHBOUR: 'it returns false'. Refute it at one input. -/
def accountsBackWrong : ChangeSpec := { name := "accountsBack", fn := fun _ => fun
  | [d] => { results := [.lit (.bool false)], args := [d] }
  | _ => none }
def AccountsBackWrongFalsely : Prop := accountsBackRow.holds Try.pinned (OpenSpec.ofChange accountsBackWrong)

/-- 'pergolalaw12.AccountsOnly': WHATEVER THE INPUT: true; the input reads as it did. -/
def accountsOnlySpec : ChangeSpec := { name := "accountsOnly", fn := fun _ => fun
  | [d] => { results := [.lit (.bool true)], args := [d] }
  | _ => none }
def accountsOnlyRow : OpenClaim := { program := "ytmaajddofmahpaa", sum := "11b0fda9685e02c50c3ece1f67a45bcbbf9df858829f0b965389938e7fe7dfe4", func := "pergola/pergolalaw12.AccountsOnly", spec := "accountsOnly", recurses := true, apart := false }
def AccountsOnlySaid : Prop := accountsOnlyRow.holds Try.pinned (OpenSpec.ofChange accountsOnlySpec)

/-- ITS FALSE NEIGHBOUR: 'it returns false'. Refute it at one input. -/
def accountsOnlyWrong : ChangeSpec := { name := "accountsOnly", fn := fun _ => fun
  | [d] => { results := [.lit (.bool false)], args := [d] }
  | _ => none }
def AccountsOnlyWrongFalsely : Prop := accountsOnlyRow.holds Try.pinned (OpenSpec.ofChange accountsOnlyWrong)

/-- 'pergolalaw12.AccountsUnlike': WHATEVER THE INPUT: true; the input reads as it did. -/
def accountsUnlikeSpec : ChangeSpec := { name := "accountsUnlike", fn := fun _ => fun
  | [d1, d2, d3] => { results := [.lit (.bool true)], args := [d1, d2, d3] }
  | _ => none }
def accountsUnlikeRow : OpenClaim := { program := "ytmaajddofmahpaa", sum := "11b0fda9685e02c50c3ece1f67a45bcbbf9df858829f0b965389938e7fe7dfe4", func := "pergola/pergolalaw12.AccountsUnlike", spec := "accountsUnlike", recurses := true, apart := false }
def AccountsUnlikeSaid : Prop := accountsUnlikeRow.holds Try.pinned (OpenSpec.ofChange accountsUnlikeSpec)

/-- ITS FALSE NEIGHBOUR: 'it returns false'. Refute it at one input. -/
def accountsUnlikeWrong : ChangeSpec := { name := "accountsUnlike", fn := fun _ => fun
  | [d1, d2, d3] => { results := [.lit (.bool false)], args := [d1, d2, d3] }
  | _ => none }
def AccountsUnlikeWrongFalsely : Prop := accountsUnlikeRow.holds Try.pinned (OpenSpec.ofChange accountsUnlikeWrong)

/- THE SECOND FORM. 'bulk': how many values and letters a reading holds, each counted each time it is reached (what is shared counts as often as it is met; a slice's spare places count too). A statement '..UptoSaid' is the law's where the arguments, and the package variables that the reading takes, are together of bulk at most 1048576: NARROWER than '..Said'. Prove '..Said' where nothing that the law and all that it calls make is longer than what came in: it says more and counts as full. Else prove '..UptoSaid'. A law counts once. -/
mutual
def uptoBulk {H : Type} : DataW H → Nat
  | .lit (.string bytes) => bytes.length + 1
  | .lit _ => 1
  | .nil => 1
  | .ptr d => uptoBulk d + 1
  | .slice elems spare => uptoBulkAll elems + uptoBulkAll spare + 1
  | .agg parts => uptoBulkAll parts + 1
  | .iface _ d => uptoBulk d + 1
  | .map entries => uptoBulkEntries entries + 1
  | .held _ => 1
def uptoBulkAll {H : Type} : List (DataW H) → Nat
  | [] => 0
  | d :: r => uptoBulk d + uptoBulkAll r
def uptoBulkEntries {H : Type} : List (Lit × DataW H) → Nat
  | [] => 0
  | x :: r => uptoBulkEntry x + uptoBulkEntries r
def uptoBulkEntry {H : Type} : Lit × DataW H → Nat
  | (.string bytes, d) => bytes.length + uptoBulk d + 1
  | (_, d) => uptoBulk d + 1
 end
def uptoSmall : (H : Type) → List (DataW H) → Bool := fun _ ds => decide (uptoBulkAll ds ≤ 1048576)
def OpenSpec.upto (s : _root_.Go.ChangeSpec) : _root_.Go.OpenSpec := { _root_.Go.OpenSpec.ofChange s with cond := some uptoSmall }

/-- 'pergolalaw12.AccountsEncodes', WHERE WHAT IT READS IS OF BULK AT MOST 1048576: true; the input reads as it did. -/
def accountsEncodesUptoRow : OpenClaim := { program := "ytmaajddofmahpaa", sum := "11b0fda9685e02c50c3ece1f67a45bcbbf9df858829f0b965389938e7fe7dfe4", func := "pergola/pergolalaw12.AccountsEncodes", spec := "accountsEncodes", recurses := true, apart := false, narrowed := true }
def AccountsEncodesUptoSaid : Prop := accountsEncodesUptoRow.holds Try.pinned (OpenSpec.upto accountsEncodesSpec)

/-- 'pergolalaw12.AccountsDecodes', WHERE WHAT IT READS IS OF BULK AT MOST 1048576: true; the input reads as it did. -/
def accountsDecodesUptoRow : OpenClaim := { program := "ytmaajddofmahpaa", sum := "11b0fda9685e02c50c3ece1f67a45bcbbf9df858829f0b965389938e7fe7dfe4", func := "pergola/pergolalaw12.AccountsDecodes", spec := "accountsDecodes", recurses := true, apart := false, narrowed := true }
def AccountsDecodesUptoSaid : Prop := accountsDecodesUptoRow.holds Try.pinned (OpenSpec.upto accountsDecodesSpec)

/-- 'pergolalaw12.AccountsSlots', WHERE WHAT IT READS IS OF BULK AT MOST 1048576: true; the input reads as it did. -/
def accountsSlotsUptoRow : OpenClaim := { program := "ytmaajddofmahpaa", sum := "11b0fda9685e02c50c3ece1f67a45bcbbf9df858829f0b965389938e7fe7dfe4", func := "pergola/pergolalaw12.AccountsSlots", spec := "accountsSlots", recurses := true, apart := false, narrowed := true }
def AccountsSlotsUptoSaid : Prop := accountsSlotsUptoRow.holds Try.pinned (OpenSpec.upto accountsSlotsSpec)

/-- 'pergolalaw12.AccountsBack', WHERE WHAT IT READS IS OF BULK AT MOST 1048576: true; the input reads as it did. -/
def accountsBackUptoRow : OpenClaim := { program := "ytmaajddofmahpaa", sum := "11b0fda9685e02c50c3ece1f67a45bcbbf9df858829f0b965389938e7fe7dfe4", func := "pergola/pergolalaw12.AccountsBack", spec := "accountsBack", recurses := true, apart := false, narrowed := true }
def AccountsBackUptoSaid : Prop := accountsBackUptoRow.holds Try.pinned (OpenSpec.upto accountsBackSpec)

/-- 'pergolalaw12.AccountsOnly', WHERE WHAT IT READS IS OF BULK AT MOST 1048576: true; the input reads as it did. -/
def accountsOnlyUptoRow : OpenClaim := { program := "ytmaajddofmahpaa", sum := "11b0fda9685e02c50c3ece1f67a45bcbbf9df858829f0b965389938e7fe7dfe4", func := "pergola/pergolalaw12.AccountsOnly", spec := "accountsOnly", recurses := true, apart := false, narrowed := true }
def AccountsOnlyUptoSaid : Prop := accountsOnlyUptoRow.holds Try.pinned (OpenSpec.upto accountsOnlySpec)

/-- 'pergolalaw12.AccountsUnlike', WHERE WHAT IT READS IS OF BULK AT MOST 1048576: true; the input reads as it did. -/
def accountsUnlikeUptoRow : OpenClaim := { program := "ytmaajddofmahpaa", sum := "11b0fda9685e02c50c3ece1f67a45bcbbf9df858829f0b965389938e7fe7dfe4", func := "pergola/pergolalaw12.AccountsUnlike", spec := "accountsUnlike", recurses := true, apart := false, narrowed := true }
def AccountsUnlikeUptoSaid : Prop := accountsUnlikeUptoRow.holds Try.pinned (OpenSpec.upto accountsUnlikeSpec)

end Rows
end Go.Proofs.Ytmaajddofmahpaa
