/-
  No cell of these rows narrows 'for every input' (looked for: loops, veiled, ifaces, maps, wideKeys, modest, calm, conditions, laid).
  DERIVED. THE GIVEN ROWS OF THIS SEAT. 5 by the template 'for every input the law returns true; each argument reads behind the call as it read before'; 0 by the template 'total and deterministic' (their statements: YtdkpilgelgjieaaGreatTotals.lean).
  GIVEN WITH THE SEED: the statements are not yours to turn. If you find one false, say at which input.
  Laid BY PROGRAM, IN A SANDBOX (cutbox-rows.mjs): the forced cells as the released guide's own fill.sh prints them over the translation 7b836750659848f8… (all of the seat's roots in one cut). By AI agents, Wed Nov 11 2026. No macro, syntax, notation, axiom, sorry.
-/
import Derived.Test.YtdkpilgelgjieaaGreatChecked
import GoSem.Claim
import GoSem.ClaimJoined
import GoSem.ClaimMapViews
import Derived.JoinedTies
import Derived.KernelRfl
namespace Go.Proofs.YtdkpilgelgjieaaGreat
/- THE CELL 'sum', in the pinned program and in every row, IS THE sha256 OF THE DUMP (.gsa) THAT YtdkpilgelgjieaaGreatProg.lean LOADS. Nothing in Lean hashes anything: it is a label: what it is worth is what the hold of that sum in a sandbox is worth. -/
noncomputable def Tryz.pinned : Pinned := { name := "ytdkpilgelgjieaagreat", sum := "7b836750659848f8ef53a9a3534c793ef656a9f52bb157d531c7c37301976aa4", checked := Tryz.checked }
namespace Rows
def none {H : Type} : Left H := { results := [], args := [] }

/-- 'pergolalaw08.BulkRoots': WHATEVER THE INPUT: true; the input reads as it did. -/
def bulkRootsSpec : ChangeSpec := { name := "bulkRoots", fn := fun _ => fun
  | [d] => { results := [.lit (.bool true)], args := [d] }
  | _ => none }
def bulkRootsRow : OpenClaim := { program := "ytdkpilgelgjieaagreat", sum := "7b836750659848f8ef53a9a3534c793ef656a9f52bb157d531c7c37301976aa4", func := "pergola/pergolalaw08.BulkRoots", spec := "bulkRoots", recurses := true, apart := false }
def BulkRootsSaid : Prop := bulkRootsRow.holds Tryz.pinned (OpenSpec.ofChange bulkRootsSpec)

/-- ITS FALSE NEIGHBOUR: 'it returns false'. Refute it at one input. -/
def bulkRootsWrong : ChangeSpec := { name := "bulkRoots", fn := fun _ => fun
  | [d] => { results := [.lit (.bool false)], args := [d] }
  | _ => none }
def BulkRootsWrongFalsely : Prop := bulkRootsRow.holds Tryz.pinned (OpenSpec.ofChange bulkRootsWrong)

/-- 'pergolalaw08.BulkBuilds': WHATEVER THE INPUT: true; the input reads as it did. -/
def bulkBuildsSpec : ChangeSpec := { name := "bulkBuilds", fn := fun _ => fun
  | [d1, d2] => { results := [.lit (.bool true)], args := [d1, d2] }
  | _ => none }
def bulkBuildsRow : OpenClaim := { program := "ytdkpilgelgjieaagreat", sum := "7b836750659848f8ef53a9a3534c793ef656a9f52bb157d531c7c37301976aa4", func := "pergola/pergolalaw08.BulkBuilds", spec := "bulkBuilds", recurses := true, apart := false }
def BulkBuildsSaid : Prop := bulkBuildsRow.holds Tryz.pinned (OpenSpec.ofChange bulkBuildsSpec)

/-- ITS FALSE NEIGHBOUR: 'it returns false'. Refute it at one input. -/
def bulkBuildsWrong : ChangeSpec := { name := "bulkBuilds", fn := fun _ => fun
  | [d1, d2] => { results := [.lit (.bool false)], args := [d1, d2] }
  | _ => none }
def BulkBuildsWrongFalsely : Prop := bulkBuildsRow.holds Tryz.pinned (OpenSpec.ofChange bulkBuildsWrong)

/-- 'pergolalaw08.BulkTrie': WHATEVER THE INPUT: true; the input reads as it did. -/
def bulkTrieSpec : ChangeSpec := { name := "bulkTrie", fn := fun _ => fun
  | [d] => { results := [.lit (.bool true)], args := [d] }
  | _ => none }
def bulkTrieRow : OpenClaim := { program := "ytdkpilgelgjieaagreat", sum := "7b836750659848f8ef53a9a3534c793ef656a9f52bb157d531c7c37301976aa4", func := "pergola/pergolalaw08.BulkTrie", spec := "bulkTrie", unfollowed := true, recurses := true, apart := false }
def BulkTrieSaid : Prop := bulkTrieRow.holds Tryz.pinned (OpenSpec.ofChange bulkTrieSpec)

/-- ITS FALSE NEIGHBOUR: 'it returns false'. Refute it at one input. -/
def bulkTrieWrong : ChangeSpec := { name := "bulkTrie", fn := fun _ => fun
  | [d] => { results := [.lit (.bool false)], args := [d] }
  | _ => none }
def BulkTrieWrongFalsely : Prop := bulkTrieRow.holds Tryz.pinned (OpenSpec.ofChange bulkTrieWrong)

/-- 'pergolalaw08.BulkAll': WHATEVER THE INPUT: true; the input reads as it did. -/
def bulkAllSpec : ChangeSpec := { name := "bulkAll", fn := fun _ => fun
  | [d] => { results := [.lit (.bool true)], args := [d] }
  | _ => none }
def bulkAllRow : OpenClaim := { program := "ytdkpilgelgjieaagreat", sum := "7b836750659848f8ef53a9a3534c793ef656a9f52bb157d531c7c37301976aa4", func := "pergola/pergolalaw08.BulkAll", spec := "bulkAll", unfollowed := true, recurses := true, apart := false }
def BulkAllSaid : Prop := bulkAllRow.holds Tryz.pinned (OpenSpec.ofChange bulkAllSpec)

/-- ITS FALSE NEIGHBOUR: 'it returns false'. Refute it at one input. -/
def bulkAllWrong : ChangeSpec := { name := "bulkAll", fn := fun _ => fun
  | [d] => { results := [.lit (.bool false)], args := [d] }
  | _ => none }
def BulkAllWrongFalsely : Prop := bulkAllRow.holds Tryz.pinned (OpenSpec.ofChange bulkAllWrong)

/-- 'pergolalaw08.BulkLists': WHATEVER THE INPUT: true; the input reads as it did. -/
def bulkListsSpec : ChangeSpec := { name := "bulkLists", fn := fun _ => fun
  | [d] => { results := [.lit (.bool true)], args := [d] }
  | _ => none }
def bulkListsRow : OpenClaim := { program := "ytdkpilgelgjieaagreat", sum := "7b836750659848f8ef53a9a3534c793ef656a9f52bb157d531c7c37301976aa4", func := "pergola/pergolalaw08.BulkLists", spec := "bulkLists", recurses := true, apart := false }
def BulkListsSaid : Prop := bulkListsRow.holds Tryz.pinned (OpenSpec.ofChange bulkListsSpec)

/-- ITS FALSE NEIGHBOUR: 'it returns false'. Refute it at one input. -/
def bulkListsWrong : ChangeSpec := { name := "bulkLists", fn := fun _ => fun
  | [d] => { results := [.lit (.bool false)], args := [d] }
  | _ => none }
def BulkListsWrongFalsely : Prop := bulkListsRow.holds Tryz.pinned (OpenSpec.ofChange bulkListsWrong)

/- THE SECOND FORM. 'bulk': how many values and letters a reading holds, each counted each time it is reached (what is shared counts as often as it is met; a slice's spare places count too). A statement '..UptoSaid' is the law's where the arguments, and the package variables that the reading takes, are together of bulk at most 1048576: NARROWER than '..Said'. Prove '..Said' where nothing that the law and all that it calls make is longer than what came in: it says more and counts as full. Else prove '..UptoSaid'. A law counts once. -/
mutual
def uptoBulk {H : Type} : DataW H → Nat
  | .lit (.string bytes) => bytes.length + 1
  | .lit _ => 1
  | .nil => 1
  | .ptr d => uptoBulk d + 1
  | .slice elems spare => uptoBulkAll elems + uptoBulkAll spare + 1
  | .agg parts => uptoBulkAll parts + 1
  | .iface _ d => uptoBulk d + 1
  | .map entries => uptoBulkEntries entries + 1
  | .held _ => 1
def uptoBulkAll {H : Type} : List (DataW H) → Nat
  | [] => 0
  | d :: r => uptoBulk d + uptoBulkAll r
def uptoBulkEntries {H : Type} : List (Lit × DataW H) → Nat
  | [] => 0
  | x :: r => uptoBulkEntry x + uptoBulkEntries r
def uptoBulkEntry {H : Type} : Lit × DataW H → Nat
  | (.string bytes, d) => bytes.length + uptoBulk d + 1
  | (_, d) => uptoBulk d + 1
 end
def uptoSmall : (H : Type) → List (DataW H) → Bool := fun _ ds => decide (uptoBulkAll ds ≤ 1048576)
def OpenSpec.upto (s : _root_.Go.ChangeSpec) : _root_.Go.OpenSpec := { _root_.Go.OpenSpec.ofChange s with cond := some uptoSmall }

/-- 'pergolalaw08.BulkRoots', WHERE WHAT IT READS IS OF BULK AT MOST 1048576: true; the input reads as it did. -/
def bulkRootsUptoRow : OpenClaim := { program := "ytdkpilgelgjieaagreat", sum := "7b836750659848f8ef53a9a3534c793ef656a9f52bb157d531c7c37301976aa4", func := "pergola/pergolalaw08.BulkRoots", spec := "bulkRoots", recurses := true, apart := false, narrowed := true }
def BulkRootsUptoSaid : Prop := bulkRootsUptoRow.holds Tryz.pinned (OpenSpec.upto bulkRootsSpec)

/-- 'pergolalaw08.BulkBuilds', WHERE WHAT IT READS IS OF BULK AT MOST 1048576: true; the input reads as it did. -/
def bulkBuildsUptoRow : OpenClaim := { program := "ytdkpilgelgjieaagreat", sum := "7b836750659848f8ef53a9a3534c793ef656a9f52bb157d531c7c37301976aa4", func := "pergola/pergolalaw08.BulkBuilds", spec := "bulkBuilds", recurses := true, apart := false, narrowed := true }
def BulkBuildsUptoSaid : Prop := bulkBuildsUptoRow.holds Tryz.pinned (OpenSpec.upto bulkBuildsSpec)

/-- 'pergolalaw08.BulkTrie', WHERE WHAT IT READS IS OF BULK AT MOST 1048576: true; the input reads as it did. -/
def bulkTrieUptoRow : OpenClaim := { program := "ytdkpilgelgjieaagreat", sum := "7b836750659848f8ef53a9a3534c793ef656a9f52bb157d531c7c37301976aa4", func := "pergola/pergolalaw08.BulkTrie", spec := "bulkTrie", unfollowed := true, recurses := true, apart := false, narrowed := true }
def BulkTrieUptoSaid : Prop := bulkTrieUptoRow.holds Tryz.pinned (OpenSpec.upto bulkTrieSpec)

/-- 'pergolalaw08.BulkAll', WHERE WHAT IT READS IS OF BULK AT MOST 1048576: true; the input reads as it did. -/
def bulkAllUptoRow : OpenClaim := { program := "ytdkpilgelgjieaagreat", sum := "7b836750659848f8ef53a9a3534c793ef656a9f52bb157d531c7c37301976aa4", func := "pergola/pergolalaw08.BulkAll", spec := "bulkAll", unfollowed := true, recurses := true, apart := false, narrowed := true }
def BulkAllUptoSaid : Prop := bulkAllUptoRow.holds Tryz.pinned (OpenSpec.upto bulkAllSpec)

/-- 'pergolalaw08.BulkLists', WHERE WHAT IT READS IS OF BULK AT MOST 1048576: true; the input reads as it did. -/
def bulkListsUptoRow : OpenClaim := { program := "ytdkpilgelgjieaagreat", sum := "7b836750659848f8ef53a9a3534c793ef656a9f52bb157d531c7c37301976aa4", func := "pergola/pergolalaw08.BulkLists", spec := "bulkLists", recurses := true, apart := false, narrowed := true }
def BulkListsUptoSaid : Prop := bulkListsUptoRow.holds Tryz.pinned (OpenSpec.upto bulkListsSpec)

end Rows
end Go.Proofs.YtdkpilgelgjieaaGreat
