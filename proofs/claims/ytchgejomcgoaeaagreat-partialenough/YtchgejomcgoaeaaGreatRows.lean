/-
  No cell of these rows narrows 'for every input' (looked for: loops, veiled, ifaces, maps, wideKeys, modest, calm, conditions, laid).
  DERIVED. THE GIVEN ROWS OF THIS SEAT. 3 by the template 'for every input the law returns true; each argument reads behind the call as it read before'; 0 by the template 'total and deterministic' (their statements: YtchgejomcgoaeaaGreatTotals.lean).
  GIVEN WITH THE SEED: the statements are not yours to turn. If you find one false, say at which input.
  Laid BY PROGRAM, IN A SANDBOX (cutbox-rows.mjs): the forced cells as the released guide's own fill.sh prints them over the translation 3132273b27c7595c… (all of the seat's roots in one cut). By AI agents, Wed Nov 11 2026. No macro, syntax, notation, axiom, sorry.
-/
import Derived.Test.YtchgejomcgoaeaaGreatChecked
import GoSem.Claim
import GoSem.ClaimJoined
import GoSem.ClaimMapViews
import Derived.JoinedTies
import Derived.KernelRfl
namespace Go.Proofs.YtchgejomcgoaeaaGreat
/- THE CELL 'sum', in the pinned program and in every row, IS THE sha256 OF THE DUMP (.gsa) THAT YtchgejomcgoaeaaGreatProg.lean LOADS. Nothing in Lean hashes anything: it is a label: what it is worth is what the hold of that sum in a sandbox is worth. -/
noncomputable def Tryz.pinned : Pinned := { name := "ytchgejomcgoaeaagreat", sum := "3132273b27c7595cc0716c8a0e11c489b7cd95414dd3c379c70bef3ca0f1c1a5", checked := Tryz.checked }
namespace Rows
def none {H : Type} : Left H := { results := [], args := [] }

/-- 'pergolalaw10.PartialEnough': WHATEVER THE INPUT: true; the input reads as it did. -/
def partialEnoughSpec : ChangeSpec := { name := "partialEnough", fn := fun _ => fun
  | [d1, d2, d3] => { results := [.lit (.bool true)], args := [d1, d2, d3] }
  | _ => none }
def partialEnoughRow : OpenClaim := { program := "ytchgejomcgoaeaagreat", sum := "3132273b27c7595cc0716c8a0e11c489b7cd95414dd3c379c70bef3ca0f1c1a5", func := "pergola/pergolalaw10.PartialEnough", spec := "partialEnough", inPlace := ["internal/bytealg.Compare"], unfollowed := true, recurses := true, plainKeys := false, apart := false }
def PartialEnoughSaid : Prop := partialEnoughRow.holds Tryz.pinned (OpenSpec.ofChange partialEnoughSpec)

/-- ITS FALSE NEIGHBOUR: 'it returns false'. Refute it at one input. -/
def partialEnoughWrong : ChangeSpec := { name := "partialEnough", fn := fun _ => fun
  | [d1, d2, d3] => { results := [.lit (.bool false)], args := [d1, d2, d3] }
  | _ => none }
def PartialEnoughWrongFalsely : Prop := partialEnoughRow.holds Tryz.pinned (OpenSpec.ofChange partialEnoughWrong)

/-- 'pergolalaw10.PartialMore': WHATEVER THE INPUT: true; the input reads as it did. -/
def partialMoreSpec : ChangeSpec := { name := "partialMore", fn := fun _ => fun
  | [d1, d2, d3] => { results := [.lit (.bool true)], args := [d1, d2, d3] }
  | _ => none }
def partialMoreRow : OpenClaim := { program := "ytchgejomcgoaeaagreat", sum := "3132273b27c7595cc0716c8a0e11c489b7cd95414dd3c379c70bef3ca0f1c1a5", func := "pergola/pergolalaw10.PartialMore", spec := "partialMore", inPlace := ["internal/bytealg.Compare"], unfollowed := true, recurses := true, plainKeys := false, apart := false }
def PartialMoreSaid : Prop := partialMoreRow.holds Tryz.pinned (OpenSpec.ofChange partialMoreSpec)

/-- ITS FALSE NEIGHBOUR: 'it returns false'. Refute it at one input. -/
def partialMoreWrong : ChangeSpec := { name := "partialMore", fn := fun _ => fun
  | [d1, d2, d3] => { results := [.lit (.bool false)], args := [d1, d2, d3] }
  | _ => none }
def PartialMoreWrongFalsely : Prop := partialMoreRow.holds Tryz.pinned (OpenSpec.ofChange partialMoreWrong)

/-- 'pergolalaw10.PartialKeeps': WHATEVER THE INPUT: true; the input reads as it did. -/
def partialKeepsSpec : ChangeSpec := { name := "partialKeeps", fn := fun _ => fun
  | [d1, d2, d3] => { results := [.lit (.bool true)], args := [d1, d2, d3] }
  | _ => none }
def partialKeepsRow : OpenClaim := { program := "ytchgejomcgoaeaagreat", sum := "3132273b27c7595cc0716c8a0e11c489b7cd95414dd3c379c70bef3ca0f1c1a5", func := "pergola/pergolalaw10.PartialKeeps", spec := "partialKeeps", inPlace := ["internal/bytealg.Compare", "maps.clone"], unfollowed := true, recurses := true, plainKeys := false, apart := false }
def PartialKeepsSaid : Prop := partialKeepsRow.holds Tryz.pinned (OpenSpec.ofChange partialKeepsSpec)

/-- ITS FALSE NEIGHBOUR: 'it returns false'. Refute it at one input. -/
def partialKeepsWrong : ChangeSpec := { name := "partialKeeps", fn := fun _ => fun
  | [d1, d2, d3] => { results := [.lit (.bool false)], args := [d1, d2, d3] }
  | _ => none }
def PartialKeepsWrongFalsely : Prop := partialKeepsRow.holds Tryz.pinned (OpenSpec.ofChange partialKeepsWrong)

/- THE SECOND FORM. 'bulk': how many values and letters a reading holds, each counted each time it is reached (what is shared counts as often as it is met; a slice's spare places count too). A statement '..UptoSaid' is the law's where the arguments, and the package variables that the reading takes, are together of bulk at most 1048576: NARROWER than '..Said'. Prove '..Said' where nothing that the law and all that it calls make is longer than what came in: it says more and counts as full. Else prove '..UptoSaid'. A law counts once. -/
mutual
def uptoBulk {H : Type} : DataW H → Nat
  | .lit (.string bytes) => bytes.length + 1
  | .lit _ => 1
  | .nil => 1
  | .ptr d => uptoBulk d + 1
  | .slice elems spare => uptoBulkAll elems + uptoBulkAll spare + 1
  | .agg parts => uptoBulkAll parts + 1
  | .iface _ d => uptoBulk d + 1
  | .map entries => uptoBulkEntries entries + 1
  | .held _ => 1
def uptoBulkAll {H : Type} : List (DataW H) → Nat
  | [] => 0
  | d :: r => uptoBulk d + uptoBulkAll r
def uptoBulkEntries {H : Type} : List (Lit × DataW H) → Nat
  | [] => 0
  | x :: r => uptoBulkEntry x + uptoBulkEntries r
def uptoBulkEntry {H : Type} : Lit × DataW H → Nat
  | (.string bytes, d) => bytes.length + uptoBulk d + 1
  | (_, d) => uptoBulk d + 1
 end
def uptoSmall : (H : Type) → List (DataW H) → Bool := fun _ ds => decide (uptoBulkAll ds ≤ 1048576)
def OpenSpec.upto (s : _root_.Go.ChangeSpec) : _root_.Go.OpenSpec := { _root_.Go.OpenSpec.ofChange s with cond := some uptoSmall }

/-- 'pergolalaw10.PartialEnough', WHERE WHAT IT READS IS OF BULK AT MOST 1048576: true; the input reads as it did. -/
def partialEnoughUptoRow : OpenClaim := { program := "ytchgejomcgoaeaagreat", sum := "3132273b27c7595cc0716c8a0e11c489b7cd95414dd3c379c70bef3ca0f1c1a5", func := "pergola/pergolalaw10.PartialEnough", spec := "partialEnough", inPlace := ["internal/bytealg.Compare"], unfollowed := true, recurses := true, plainKeys := false, apart := false, narrowed := true }
def PartialEnoughUptoSaid : Prop := partialEnoughUptoRow.holds Tryz.pinned (OpenSpec.upto partialEnoughSpec)

/-- 'pergolalaw10.PartialMore', WHERE WHAT IT READS IS OF BULK AT MOST 1048576: true; the input reads as it did. -/
def partialMoreUptoRow : OpenClaim := { program := "ytchgejomcgoaeaagreat", sum := "3132273b27c7595cc0716c8a0e11c489b7cd95414dd3c379c70bef3ca0f1c1a5", func := "pergola/pergolalaw10.PartialMore", spec := "partialMore", inPlace := ["internal/bytealg.Compare"], unfollowed := true, recurses := true, plainKeys := false, apart := false, narrowed := true }
def PartialMoreUptoSaid : Prop := partialMoreUptoRow.holds Tryz.pinned (OpenSpec.upto partialMoreSpec)

/-- 'pergolalaw10.PartialKeeps', WHERE WHAT IT READS IS OF BULK AT MOST 1048576: true; the input reads as it did. -/
def partialKeepsUptoRow : OpenClaim := { program := "ytchgejomcgoaeaagreat", sum := "3132273b27c7595cc0716c8a0e11c489b7cd95414dd3c379c70bef3ca0f1c1a5", func := "pergola/pergolalaw10.PartialKeeps", spec := "partialKeeps", inPlace := ["internal/bytealg.Compare", "maps.clone"], unfollowed := true, recurses := true, plainKeys := false, apart := false, narrowed := true }
def PartialKeepsUptoSaid : Prop := partialKeepsUptoRow.holds Tryz.pinned (OpenSpec.upto partialKeepsSpec)

end Rows
end Go.Proofs.YtchgejomcgoaeaaGreat
