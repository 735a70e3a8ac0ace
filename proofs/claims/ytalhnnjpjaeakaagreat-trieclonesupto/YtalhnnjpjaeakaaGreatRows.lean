/-
  No cell of these rows narrows 'for every input' (looked for: loops, veiled, ifaces, maps, wideKeys, modest, calm, conditions, laid).
  DERIVED. THE GIVEN ROWS OF THIS SEAT. 5 by the template 'for every input the law returns true; each argument reads behind the call as it read before'; 0 by the template 'total and deterministic' (their statements: YtalhnnjpjaeakaaGreatTotals.lean).
  GIVEN WITH THE SEED: the statements are not yours to turn. If you find one false, say at which input.
  Laid BY PROGRAM, IN A SANDBOX (cutbox-rows.mjs): the forced cells as the released guide's own fill.sh prints them over the translation b212d78a88466368… (all of the seat's roots in one cut). By AI agents, Wed Nov 11 2026. No macro, syntax, notation, axiom, sorry.
-/
import Derived.Test.YtalhnnjpjaeakaaGreatChecked
import GoSem.Claim
import GoSem.ClaimJoined
import GoSem.ClaimMapViews
import Derived.JoinedTies
import Derived.KernelRfl
namespace Go.Proofs.YtalhnnjpjaeakaaGreat
/- THE CELL 'sum', in the pinned program and in every row, IS THE sha256 OF THE DUMP (.gsa) THAT YtalhnnjpjaeakaaGreatProg.lean LOADS. Nothing in Lean hashes anything: it is a label: what it is worth is what the hold of that sum in a sandbox is worth. -/
noncomputable def Tryz.pinned : Pinned := { name := "ytalhnnjpjaeakaagreat", sum := "b212d78a88466368eceeb900f611cfda6c079b426d6e7e2650bc5a126356ed04", checked := Tryz.checked }
namespace Rows
def none {H : Type} : Left H := { results := [], args := [] }

/-- 'pergolalaw07.TrieExact': WHATEVER THE INPUT: true; the input reads as it did. -/
def trieExactSpec : ChangeSpec := { name := "trieExact", fn := fun _ => fun
  | [d] => { results := [.lit (.bool true)], args := [d] }
  | _ => none }
def trieExactRow : OpenClaim := { program := "ytalhnnjpjaeakaagreat", sum := "b212d78a88466368eceeb900f611cfda6c079b426d6e7e2650bc5a126356ed04", func := "pergola/pergolalaw07.TrieExact", spec := "trieExact", inPlace := ["internal/bytealg.Compare"], unfollowed := true, recurses := true, apart := false }
def TrieExactSaid : Prop := trieExactRow.holds Tryz.pinned (OpenSpec.ofChange trieExactSpec)

/-- ITS FALSE NEIGHBOUR: 'it returns false'. Refute it at one input. -/
def trieExactWrong : ChangeSpec := { name := "trieExact", fn := fun _ => fun
  | [d] => { results := [.lit (.bool false)], args := [d] }
  | _ => none }
def TrieExactWrongFalsely : Prop := trieExactRow.holds Tryz.pinned (OpenSpec.ofChange trieExactWrong)

/-- 'pergolalaw07.TrieClones': WHATEVER THE INPUT: true; the input reads as it did. -/
def trieClonesSpec : ChangeSpec := { name := "trieClones", fn := fun _ => fun
  | [d1, d2] => { results := [.lit (.bool true)], args := [d1, d2] }
  | _ => none }
def trieClonesRow : OpenClaim := { program := "ytalhnnjpjaeakaagreat", sum := "b212d78a88466368eceeb900f611cfda6c079b426d6e7e2650bc5a126356ed04", func := "pergola/pergolalaw07.TrieClones", spec := "trieClones", inPlace := ["internal/bytealg.Compare"], unfollowed := true, recurses := true, apart := false }
def TrieClonesSaid : Prop := trieClonesRow.holds Tryz.pinned (OpenSpec.ofChange trieClonesSpec)

/-- ITS FALSE NEIGHBOUR: 'it returns false'. Refute it at one input. -/
def trieClonesWrong : ChangeSpec := { name := "trieClones", fn := fun _ => fun
  | [d1, d2] => { results := [.lit (.bool false)], args := [d1, d2] }
  | _ => none }
def TrieClonesWrongFalsely : Prop := trieClonesRow.holds Tryz.pinned (OpenSpec.ofChange trieClonesWrong)

/-- 'pergolalaw07.TrieOneRoot': WHATEVER THE INPUT: true; the input reads as it did. -/
def trieOneRootSpec : ChangeSpec := { name := "trieOneRoot", fn := fun _ => fun
  | [d1, d2] => { results := [.lit (.bool true)], args := [d1, d2] }
  | _ => none }
def trieOneRootRow : OpenClaim := { program := "ytalhnnjpjaeakaagreat", sum := "b212d78a88466368eceeb900f611cfda6c079b426d6e7e2650bc5a126356ed04", func := "pergola/pergolalaw07.TrieOneRoot", spec := "trieOneRoot", inPlace := ["internal/bytealg.Compare"], unfollowed := true, recurses := true, apart := false }
def TrieOneRootSaid : Prop := trieOneRootRow.holds Tryz.pinned (OpenSpec.ofChange trieOneRootSpec)

/-- ITS FALSE NEIGHBOUR: 'it returns false'. Refute it at one input. -/
def trieOneRootWrong : ChangeSpec := { name := "trieOneRoot", fn := fun _ => fun
  | [d1, d2] => { results := [.lit (.bool false)], args := [d1, d2] }
  | _ => none }
def TrieOneRootWrongFalsely : Prop := trieOneRootRow.holds Tryz.pinned (OpenSpec.ofChange trieOneRootWrong)

/-- 'pergolalaw07.TrieBack': WHATEVER THE INPUT: true; the input reads as it did. -/
def trieBackSpec : ChangeSpec := { name := "trieBack", fn := fun _ => fun
  | [d1, d2, d3] => { results := [.lit (.bool true)], args := [d1, d2, d3] }
  | _ => none }
def trieBackRow : OpenClaim := { program := "ytalhnnjpjaeakaagreat", sum := "b212d78a88466368eceeb900f611cfda6c079b426d6e7e2650bc5a126356ed04", func := "pergola/pergolalaw07.TrieBack", spec := "trieBack", inPlace := ["internal/bytealg.Compare"], unfollowed := true, recurses := true, apart := false }
def TrieBackSaid : Prop := trieBackRow.holds Tryz.pinned (OpenSpec.ofChange trieBackSpec)

/-- ITS FALSE NEIGHBOUR: 'it returns false'. Refute it at one input. -/
def trieBackWrong : ChangeSpec := { name := "trieBack", fn := fun _ => fun
  | [d1, d2, d3] => { results := [.lit (.bool false)], args := [d1, d2, d3] }
  | _ => none }
def TrieBackWrongFalsely : Prop := trieBackRow.holds Tryz.pinned (OpenSpec.ofChange trieBackWrong)

/-- 'pergolalaw07.TrieNormal': WHATEVER THE INPUT: true; the input reads as it did. -/
def trieNormalSpec : ChangeSpec := { name := "trieNormal", fn := fun _ => fun
  | [d] => { results := [.lit (.bool true)], args := [d] }
  | _ => none }
def trieNormalRow : OpenClaim := { program := "ytalhnnjpjaeakaagreat", sum := "b212d78a88466368eceeb900f611cfda6c079b426d6e7e2650bc5a126356ed04", func := "pergola/pergolalaw07.TrieNormal", spec := "trieNormal", inPlace := ["internal/bytealg.Compare"], unfollowed := true, recurses := true, apart := false }
def TrieNormalSaid : Prop := trieNormalRow.holds Tryz.pinned (OpenSpec.ofChange trieNormalSpec)

/-- ITS FALSE NEIGHBOUR: 'it returns false'. Refute it at one input. -/
def trieNormalWrong : ChangeSpec := { name := "trieNormal", fn := fun _ => fun
  | [d] => { results := [.lit (.bool false)], args := [d] }
  | _ => none }
def TrieNormalWrongFalsely : Prop := trieNormalRow.holds Tryz.pinned (OpenSpec.ofChange trieNormalWrong)

/- THE SECOND FORM. 'bulk': how many values and letters a reading holds, each counted each time it is reached (what is shared counts as often as it is met; a slice's spare places count too). A statement '..UptoSaid' is the law's where the arguments, and the package variables that the reading takes, are together of bulk at most 1048576: NARROWER than '..Said'. Prove '..Said' where nothing that the law and all that it calls make is longer than what came in: it says more and counts as full. Else prove '..UptoSaid'. A law counts once. -/
mutual
def uptoBulk {H : Type} : DataW H → Nat
  | .lit (.string bytes) => bytes.length + 1
  | .lit _ => 1
  | .nil => 1
  | .ptr d => uptoBulk d + 1
  | .slice elems spare => uptoBulkAll elems + uptoBulkAll spare + 1
  | .agg parts => uptoBulkAll parts + 1
  | .iface _ d => uptoBulk d + 1
  | .map entries => uptoBulkEntries entries + 1
  | .held _ => 1
def uptoBulkAll {H : Type} : List (DataW H) → Nat
  | [] => 0
  | d :: r => uptoBulk d + uptoBulkAll r
def uptoBulkEntries {H : Type} : List (Lit × DataW H) → Nat
  | [] => 0
  | x :: r => uptoBulkEntry x + uptoBulkEntries r
def uptoBulkEntry {H : Type} : Lit × DataW H → Nat
  | (.string bytes, d) => bytes.length + uptoBulk d + 1
  | (_, d) => uptoBulk d + 1
 end
def uptoSmall : (H : Type) → List (DataW H) → Bool := fun _ ds => decide (uptoBulkAll ds ≤ 1048576)
def OpenSpec.upto (s : _root_.Go.ChangeSpec) : _root_.Go.OpenSpec := { _root_.Go.OpenSpec.ofChange s with cond := some uptoSmall }

/-- 'pergolalaw07.TrieExact', WHERE WHAT IT READS IS OF BULK AT MOST 1048576: true; the input reads as it did. -/
def trieExactUptoRow : OpenClaim := { program := "ytalhnnjpjaeakaagreat", sum := "b212d78a88466368eceeb900f611cfda6c079b426d6e7e2650bc5a126356ed04", func := "pergola/pergolalaw07.TrieExact", spec := "trieExact", inPlace := ["internal/bytealg.Compare"], unfollowed := true, recurses := true, apart := false, narrowed := true }
def TrieExactUptoSaid : Prop := trieExactUptoRow.holds Tryz.pinned (OpenSpec.upto trieExactSpec)

/-- 'pergolalaw07.TrieClones', WHERE WHAT IT READS IS OF BULK AT MOST 1048576: true; the input reads as it did. -/
def trieClonesUptoRow : OpenClaim := { program := "ytalhnnjpjaeakaagreat", sum := "b212d78a88466368eceeb900f611cfda6c079b426d6e7e2650bc5a126356ed04", func := "pergola/pergolalaw07.TrieClones", spec := "trieClones", inPlace := ["internal/bytealg.Compare"], unfollowed := true, recurses := true, apart := false, narrowed := true }
def TrieClonesUptoSaid : Prop := trieClonesUptoRow.holds Tryz.pinned (OpenSpec.upto trieClonesSpec)

/-- 'pergolalaw07.TrieOneRoot', WHERE WHAT IT READS IS OF BULK AT MOST 1048576: true; the input reads as it did. -/
def trieOneRootUptoRow : OpenClaim := { program := "ytalhnnjpjaeakaagreat", sum := "b212d78a88466368eceeb900f611cfda6c079b426d6e7e2650bc5a126356ed04", func := "pergola/pergolalaw07.TrieOneRoot", spec := "trieOneRoot", inPlace := ["internal/bytealg.Compare"], unfollowed := true, recurses := true, apart := false, narrowed := true }
def TrieOneRootUptoSaid : Prop := trieOneRootUptoRow.holds Tryz.pinned (OpenSpec.upto trieOneRootSpec)

/-- 'pergolalaw07.TrieBack', WHERE WHAT IT READS IS OF BULK AT MOST 1048576: true; the input reads as it did. -/
def trieBackUptoRow : OpenClaim := { program := "ytalhnnjpjaeakaagreat", sum := "b212d78a88466368eceeb900f611cfda6c079b426d6e7e2650bc5a126356ed04", func := "pergola/pergolalaw07.TrieBack", spec := "trieBack", inPlace := ["internal/bytealg.Compare"], unfollowed := true, recurses := true, apart := false, narrowed := true }
def TrieBackUptoSaid : Prop := trieBackUptoRow.holds Tryz.pinned (OpenSpec.upto trieBackSpec)

/-- 'pergolalaw07.TrieNormal', WHERE WHAT IT READS IS OF BULK AT MOST 1048576: true; the input reads as it did. -/
def trieNormalUptoRow : OpenClaim := { program := "ytalhnnjpjaeakaagreat", sum := "b212d78a88466368eceeb900f611cfda6c079b426d6e7e2650bc5a126356ed04", func := "pergola/pergolalaw07.TrieNormal", spec := "trieNormal", inPlace := ["internal/bytealg.Compare"], unfollowed := true, recurses := true, apart := false, narrowed := true }
def TrieNormalUptoSaid : Prop := trieNormalUptoRow.holds Tryz.pinned (OpenSpec.upto trieNormalSpec)

end Rows
end Go.Proofs.YtalhnnjpjaeakaaGreat
