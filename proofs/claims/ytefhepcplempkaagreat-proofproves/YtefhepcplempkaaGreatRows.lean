/-
  No cell of these rows narrows 'for every input' (looked for: loops, veiled, ifaces, maps, wideKeys, modest, calm, conditions, laid).
  DERIVED. THE GIVEN ROWS OF THIS SEAT. 6 by the template 'for every input the law returns true; each argument reads behind the call as it read before'; 0 by the template 'total and deterministic' (their statements: YtefhepcplempkaaGreatTotals.lean).
  GIVEN WITH THE SEED: the statements are not yours to turn. If you find one false, say at which input.
  Laid BY PROGRAM, IN A SANDBOX (cutbox-rows.mjs): the forced cells as the released guide's own fill.sh prints them over the translation 3a83c641efb2527b… (all of the seat's roots in one cut). By AI agents, Wed Nov 11 2026. No macro, syntax, notation, axiom, sorry.
-/
import Derived.Test.YtefhepcplempkaaGreatChecked
import GoSem.Claim
import GoSem.ClaimJoined
import GoSem.ClaimMapViews
import Derived.JoinedTies
import Derived.KernelRfl
namespace Go.Proofs.YtefhepcplempkaaGreat
/- THE CELL 'sum', in the pinned program and in every row, IS THE sha256 OF THE DUMP (.gsa) THAT YtefhepcplempkaaGreatProg.lean LOADS. Nothing in Lean hashes anything: it is a label: what it is worth is what the hold of that sum in a sandbox is worth. -/
noncomputable def Tryz.pinned : Pinned := { name := "ytefhepcplempkaagreat", sum := "3a83c641efb2527b5ed6bcc8ec20e450d88c15c382e1aff9cd6ef40d4b573163", checked := Tryz.checked }
namespace Rows
def none {H : Type} : Left H := { results := [], args := [] }

/-- 'pergolalaw09.ProofProves': WHATEVER THE INPUT: true; the input reads as it did. -/
def proofProvesSpec : ChangeSpec := { name := "proofProves", fn := fun _ => fun
  | [d1, d2] => { results := [.lit (.bool true)], args := [d1, d2] }
  | _ => none }
def proofProvesRow : OpenClaim := { program := "ytefhepcplempkaagreat", sum := "3a83c641efb2527b5ed6bcc8ec20e450d88c15c382e1aff9cd6ef40d4b573163", func := "pergola/pergolalaw09.ProofProves", spec := "proofProves", unfollowed := true, recurses := true, apart := false }
def ProofProvesSaid : Prop := proofProvesRow.holds Tryz.pinned (OpenSpec.ofChange proofProvesSpec)

/-- ITS FALSE NEIGHBOUR: 'it returns false'. Refute it at one input. -/
def proofProvesWrong : ChangeSpec := { name := "proofProves", fn := fun _ => fun
  | [d1, d2] => { results := [.lit (.bool false)], args := [d1, d2] }
  | _ => none }
def ProofProvesWrongFalsely : Prop := proofProvesRow.holds Tryz.pinned (OpenSpec.ofChange proofProvesWrong)

/-- 'pergolalaw09.ProofVerifies': WHATEVER THE INPUT: true; the input reads as it did. -/
def proofVerifiesSpec : ChangeSpec := { name := "proofVerifies", fn := fun _ => fun
  | [d1, d2, d3] => { results := [.lit (.bool true)], args := [d1, d2, d3] }
  | _ => none }
def proofVerifiesRow : OpenClaim := { program := "ytefhepcplempkaagreat", sum := "3a83c641efb2527b5ed6bcc8ec20e450d88c15c382e1aff9cd6ef40d4b573163", func := "pergola/pergolalaw09.ProofVerifies", spec := "proofVerifies", unfollowed := true, recurses := true, apart := false }
def ProofVerifiesSaid : Prop := proofVerifiesRow.holds Tryz.pinned (OpenSpec.ofChange proofVerifiesSpec)

/-- ITS FALSE NEIGHBOUR: 'it returns false'. Refute it at one input. -/
def proofVerifiesWrong : ChangeSpec := { name := "proofVerifies", fn := fun _ => fun
  | [d1, d2, d3] => { results := [.lit (.bool false)], args := [d1, d2, d3] }
  | _ => none }
def ProofVerifiesWrongFalsely : Prop := proofVerifiesRow.holds Tryz.pinned (OpenSpec.ofChange proofVerifiesWrong)

/-- 'pergolalaw09.ProofBack': WHATEVER THE INPUT: true; the input reads as it did. -/
def proofBackSpec : ChangeSpec := { name := "proofBack", fn := fun _ => fun
  | [d1, d2] => { results := [.lit (.bool true)], args := [d1, d2] }
  | _ => none }
def proofBackRow : OpenClaim := { program := "ytefhepcplempkaagreat", sum := "3a83c641efb2527b5ed6bcc8ec20e450d88c15c382e1aff9cd6ef40d4b573163", func := "pergola/pergolalaw09.ProofBack", spec := "proofBack", unfollowed := true, recurses := true, apart := false }
def ProofBackSaid : Prop := proofBackRow.holds Tryz.pinned (OpenSpec.ofChange proofBackSpec)

/-- ITS FALSE NEIGHBOUR: 'it returns false'. Refute it at one input. -/
def proofBackWrong : ChangeSpec := { name := "proofBack", fn := fun _ => fun
  | [d1, d2] => { results := [.lit (.bool false)], args := [d1, d2] }
  | _ => none }
def ProofBackWrongFalsely : Prop := proofBackRow.holds Tryz.pinned (OpenSpec.ofChange proofBackWrong)

/-- 'pergolalaw09.ProofFooled': WHATEVER THE INPUT: true; the input reads as it did. -/
def proofFooledSpec : ChangeSpec := { name := "proofFooled", fn := fun _ => fun
  | [d1, d2, d3] => { results := [.lit (.bool true)], args := [d1, d2, d3] }
  | _ => none }
def proofFooledRow : OpenClaim := { program := "ytefhepcplempkaagreat", sum := "3a83c641efb2527b5ed6bcc8ec20e450d88c15c382e1aff9cd6ef40d4b573163", func := "pergola/pergolalaw09.ProofFooled", spec := "proofFooled", inPlace := ["internal/bytealg.Compare"], unfollowed := true, recurses := true, apart := false }
def ProofFooledSaid : Prop := proofFooledRow.holds Tryz.pinned (OpenSpec.ofChange proofFooledSpec)

/-- ITS FALSE NEIGHBOUR: 'it returns false'. Refute it at one input. -/
def proofFooledWrong : ChangeSpec := { name := "proofFooled", fn := fun _ => fun
  | [d1, d2, d3] => { results := [.lit (.bool false)], args := [d1, d2, d3] }
  | _ => none }
def ProofFooledWrongFalsely : Prop := proofFooledRow.holds Tryz.pinned (OpenSpec.ofChange proofFooledWrong)

/-- 'pergolalaw09.ProofSmall': WHATEVER THE INPUT: true; the input reads as it did. -/
def proofSmallSpec : ChangeSpec := { name := "proofSmall", fn := fun _ => fun
  | [d1, d2] => { results := [.lit (.bool true)], args := [d1, d2] }
  | _ => none }
def proofSmallRow : OpenClaim := { program := "ytefhepcplempkaagreat", sum := "3a83c641efb2527b5ed6bcc8ec20e450d88c15c382e1aff9cd6ef40d4b573163", func := "pergola/pergolalaw09.ProofSmall", spec := "proofSmall", inPlace := ["internal/bytealg.Compare"], unfollowed := true, recurses := true, apart := false }
def ProofSmallSaid : Prop := proofSmallRow.holds Tryz.pinned (OpenSpec.ofChange proofSmallSpec)

/-- ITS FALSE NEIGHBOUR: 'it returns false'. Refute it at one input. -/
def proofSmallWrong : ChangeSpec := { name := "proofSmall", fn := fun _ => fun
  | [d1, d2] => { results := [.lit (.bool false)], args := [d1, d2] }
  | _ => none }
def ProofSmallWrongFalsely : Prop := proofSmallRow.holds Tryz.pinned (OpenSpec.ofChange proofSmallWrong)

/-- 'pergolalaw09.ProofCut': WHATEVER THE INPUT: true; the input reads as it did. -/
def proofCutSpec : ChangeSpec := { name := "proofCut", fn := fun _ => fun
  | [d1, d2, d3] => { results := [.lit (.bool true)], args := [d1, d2, d3] }
  | _ => none }
def proofCutRow : OpenClaim := { program := "ytefhepcplempkaagreat", sum := "3a83c641efb2527b5ed6bcc8ec20e450d88c15c382e1aff9cd6ef40d4b573163", func := "pergola/pergolalaw09.ProofCut", spec := "proofCut", unfollowed := true, recurses := true, apart := false }
def ProofCutSaid : Prop := proofCutRow.holds Tryz.pinned (OpenSpec.ofChange proofCutSpec)

/-- ITS FALSE NEIGHBOUR: 'it returns false'. Refute it at one input. -/
def proofCutWrong : ChangeSpec := { name := "proofCut", fn := fun _ => fun
  | [d1, d2, d3] => { results := [.lit (.bool false)], args := [d1, d2, d3] }
  | _ => none }
def ProofCutWrongFalsely : Prop := proofCutRow.holds Tryz.pinned (OpenSpec.ofChange proofCutWrong)

/- THE SECOND FORM. 'bulk': how many values and letters a reading holds, each counted each time it is reached (what is shared counts as often as it is met; a slice's spare places count too). A statement '..UptoSaid' is the law's where the arguments, and the package variables that the reading takes, are together of bulk at most 1048576: NARROWER than '..Said'. Prove '..Said' where nothing that the law and all that it calls make is longer than what came in: it says more and counts as full. Else prove '..UptoSaid'. A law counts once. -/
mutual
def uptoBulk {H : Type} : DataW H → Nat
  | .lit (.string bytes) => bytes.length + 1
  | .lit _ => 1
  | .nil => 1
  | .ptr d => uptoBulk d + 1
  | .slice elems spare => uptoBulkAll elems + uptoBulkAll spare + 1
  | .agg parts => uptoBulkAll parts + 1
  | .iface _ d => uptoBulk d + 1
  | .map entries => uptoBulkEntries entries + 1
  | .held _ => 1
def uptoBulkAll {H : Type} : List (DataW H) → Nat
  | [] => 0
  | d :: r => uptoBulk d + uptoBulkAll r
def uptoBulkEntries {H : Type} : List (Lit × DataW H) → Nat
  | [] => 0
  | x :: r => uptoBulkEntry x + uptoBulkEntries r
def uptoBulkEntry {H : Type} : Lit × DataW H → Nat
  | (.string bytes, d) => bytes.length + uptoBulk d + 1
  | (_, d) => uptoBulk d + 1
 end
def uptoSmall : (H : Type) → List (DataW H) → Bool := fun _ ds => decide (uptoBulkAll ds ≤ 1048576)
def OpenSpec.upto (s : _root_.Go.ChangeSpec) : _root_.Go.OpenSpec := { _root_.Go.OpenSpec.ofChange s with cond := some uptoSmall }

/-- 'pergolalaw09.ProofProves', WHERE WHAT IT READS IS OF BULK AT MOST 1048576: true; the input reads as it did. -/
def proofProvesUptoRow : OpenClaim := { program := "ytefhepcplempkaagreat", sum := "3a83c641efb2527b5ed6bcc8ec20e450d88c15c382e1aff9cd6ef40d4b573163", func := "pergola/pergolalaw09.ProofProves", spec := "proofProves", unfollowed := true, recurses := true, apart := false, narrowed := true }
def ProofProvesUptoSaid : Prop := proofProvesUptoRow.holds Tryz.pinned (OpenSpec.upto proofProvesSpec)

/-- 'pergolalaw09.ProofVerifies', WHERE WHAT IT READS IS OF BULK AT MOST 1048576: true; the input reads as it did. -/
def proofVerifiesUptoRow : OpenClaim := { program := "ytefhepcplempkaagreat", sum := "3a83c641efb2527b5ed6bcc8ec20e450d88c15c382e1aff9cd6ef40d4b573163", func := "pergola/pergolalaw09.ProofVerifies", spec := "proofVerifies", unfollowed := true, recurses := true, apart := false, narrowed := true }
def ProofVerifiesUptoSaid : Prop := proofVerifiesUptoRow.holds Tryz.pinned (OpenSpec.upto proofVerifiesSpec)

/-- 'pergolalaw09.ProofBack', WHERE WHAT IT READS IS OF BULK AT MOST 1048576: true; the input reads as it did. -/
def proofBackUptoRow : OpenClaim := { program := "ytefhepcplempkaagreat", sum := "3a83c641efb2527b5ed6bcc8ec20e450d88c15c382e1aff9cd6ef40d4b573163", func := "pergola/pergolalaw09.ProofBack", spec := "proofBack", unfollowed := true, recurses := true, apart := false, narrowed := true }
def ProofBackUptoSaid : Prop := proofBackUptoRow.holds Tryz.pinned (OpenSpec.upto proofBackSpec)

/-- 'pergolalaw09.ProofFooled', WHERE WHAT IT READS IS OF BULK AT MOST 1048576: true; the input reads as it did. -/
def proofFooledUptoRow : OpenClaim := { program := "ytefhepcplempkaagreat", sum := "3a83c641efb2527b5ed6bcc8ec20e450d88c15c382e1aff9cd6ef40d4b573163", func := "pergola/pergolalaw09.ProofFooled", spec := "proofFooled", inPlace := ["internal/bytealg.Compare"], unfollowed := true, recurses := true, apart := false, narrowed := true }
def ProofFooledUptoSaid : Prop := proofFooledUptoRow.holds Tryz.pinned (OpenSpec.upto proofFooledSpec)

/-- 'pergolalaw09.ProofSmall', WHERE WHAT IT READS IS OF BULK AT MOST 1048576: true; the input reads as it did. -/
def proofSmallUptoRow : OpenClaim := { program := "ytefhepcplempkaagreat", sum := "3a83c641efb2527b5ed6bcc8ec20e450d88c15c382e1aff9cd6ef40d4b573163", func := "pergola/pergolalaw09.ProofSmall", spec := "proofSmall", inPlace := ["internal/bytealg.Compare"], unfollowed := true, recurses := true, apart := false, narrowed := true }
def ProofSmallUptoSaid : Prop := proofSmallUptoRow.holds Tryz.pinned (OpenSpec.upto proofSmallSpec)

/-- 'pergolalaw09.ProofCut', WHERE WHAT IT READS IS OF BULK AT MOST 1048576: true; the input reads as it did. -/
def proofCutUptoRow : OpenClaim := { program := "ytefhepcplempkaagreat", sum := "3a83c641efb2527b5ed6bcc8ec20e450d88c15c382e1aff9cd6ef40d4b573163", func := "pergola/pergolalaw09.ProofCut", spec := "proofCut", unfollowed := true, recurses := true, apart := false, narrowed := true }
def ProofCutUptoSaid : Prop := proofCutUptoRow.holds Tryz.pinned (OpenSpec.upto proofCutSpec)

end Rows
end Go.Proofs.YtefhepcplempkaaGreat
