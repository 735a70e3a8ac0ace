/-
  NARROWER THAN 'FOR EVERY INPUT', by the rows' own cells (each row's printed sentence says how): NestBody: loops · NestShorter: loops · NestMakes: loops.
  DERIVED. THE GIVEN ROWS OF THIS SEAT. 4 by the template 'for every input the law returns true; each argument reads behind the call as it read before'; 0 by the template 'total and deterministic' (their statements: YtkbdkenpblcofabTotals.lean).
  GIVEN WITH THE SEED: the statements are not yours to turn. If you find one false, say at which input.
  Laid BY PROGRAM, IN A SANDBOX (cutbox-rows.mjs): the forced cells as the released guide's own fill.sh prints them over the translation 8ae0c2ad34023e5f… (all of the seat's roots in one cut). By AI agents, Wed Nov 11 2026. No macro, syntax, notation, axiom, sorry.
-/
import Derived.Test.YtkbdkenpblcofabChecked
import GoSem.Claim
import GoSem.ClaimJoined
import GoSem.ClaimMapViews
import Derived.JoinedTies
import Derived.KernelRfl
namespace Go.Proofs.Ytkbdkenpblcofab
/- THE CELL 'sum', in the pinned program and in every row, IS THE sha256 OF THE DUMP (.gsa) THAT YtkbdkenpblcofabProg.lean LOADS. Nothing in Lean hashes anything: it is a label: what it is worth is what the hold of that sum in a sandbox is worth. -/
noncomputable def Try.pinned : Pinned := { name := "ytkbdkenpblcofab", sum := "8ae0c2ad34023e5f6b2af1929c2e74f18f67d0b8f999ef7ce3fbff5e0c2f2fec", checked := Try.checked }
namespace Rows
def none {H : Type} : Left H := { results := [], args := [] }

/-- 'pergolalaw02.NestBody': WHATEVER THE INPUT: true; the input reads as it did. -/
def nestBodySpec : ChangeSpec := { name := "nestBody", fn := fun _ => fun
  | [d] => { results := [.lit (.bool true)], args := [d] }
  | _ => none }
def nestBodyRow : OpenClaim := { program := "ytkbdkenpblcofab", sum := "8ae0c2ad34023e5f6b2af1929c2e74f18f67d0b8f999ef7ce3fbff5e0c2f2fec", func := "pergola/pergolalaw02.NestBody", spec := "nestBody", recurses := true, loops := true, apart := false }
def NestBodySaid : Prop := nestBodyRow.holds Try.pinned (OpenSpec.ofChange nestBodySpec)

/-- ITS FALSE NEIGHBOUR: 'it returns false'. Refute it at one input. -/
def nestBodyWrong : ChangeSpec := { name := "nestBody", fn := fun _ => fun
  | [d] => { results := [.lit (.bool false)], args := [d] }
  | _ => none }
def NestBodyWrongFalsely : Prop := nestBodyRow.holds Try.pinned (OpenSpec.ofChange nestBodyWrong)

/-- 'pergolalaw02.NestShorter': WHATEVER THE INPUT: true; the input reads as it did. -/
def nestShorterSpec : ChangeSpec := { name := "nestShorter", fn := fun _ => fun
  | [d1, d2] => { results := [.lit (.bool true)], args := [d1, d2] }
  | _ => none }
def nestShorterRow : OpenClaim := { program := "ytkbdkenpblcofab", sum := "8ae0c2ad34023e5f6b2af1929c2e74f18f67d0b8f999ef7ce3fbff5e0c2f2fec", func := "pergola/pergolalaw02.NestShorter", spec := "nestShorter", recurses := true, loops := true, apart := false }
def NestShorterSaid : Prop := nestShorterRow.holds Try.pinned (OpenSpec.ofChange nestShorterSpec)

/-- ITS FALSE NEIGHBOUR: 'it returns false'. Refute it at one input. -/
def nestShorterWrong : ChangeSpec := { name := "nestShorter", fn := fun _ => fun
  | [d1, d2] => { results := [.lit (.bool false)], args := [d1, d2] }
  | _ => none }
def NestShorterWrongFalsely : Prop := nestShorterRow.holds Try.pinned (OpenSpec.ofChange nestShorterWrong)

/-- 'pergolalaw02.NestMakes': WHATEVER THE INPUT: true; the input reads as it did. -/
def nestMakesSpec : ChangeSpec := { name := "nestMakes", fn := fun _ => fun
  | [d1, d2] => { results := [.lit (.bool true)], args := [d1, d2] }
  | _ => none }
def nestMakesRow : OpenClaim := { program := "ytkbdkenpblcofab", sum := "8ae0c2ad34023e5f6b2af1929c2e74f18f67d0b8f999ef7ce3fbff5e0c2f2fec", func := "pergola/pergolalaw02.NestMakes", spec := "nestMakes", recurses := true, loops := true, apart := false }
def NestMakesSaid : Prop := nestMakesRow.holds Try.pinned (OpenSpec.ofChange nestMakesSpec)

/-- ITS FALSE NEIGHBOUR: 'it returns false'. Refute it at one input. -/
def nestMakesWrong : ChangeSpec := { name := "nestMakes", fn := fun _ => fun
  | [d1, d2] => { results := [.lit (.bool false)], args := [d1, d2] }
  | _ => none }
def NestMakesWrongFalsely : Prop := nestMakesRow.holds Try.pinned (OpenSpec.ofChange nestMakesWrong)

/-- 'pergolalaw02.NestMemory': WHATEVER THE INPUT: true; the input reads as it did. -/
def nestMemorySpec : ChangeSpec := { name := "nestMemory", fn := fun _ => fun
  | [d] => { results := [.lit (.bool true)], args := [d] }
  | _ => none }
def nestMemoryRow : OpenClaim := { program := "ytkbdkenpblcofab", sum := "8ae0c2ad34023e5f6b2af1929c2e74f18f67d0b8f999ef7ce3fbff5e0c2f2fec", func := "pergola/pergolalaw02.NestMemory", spec := "nestMemory", recurses := true, apart := false }
def NestMemorySaid : Prop := nestMemoryRow.holds Try.pinned (OpenSpec.ofChange nestMemorySpec)

/-- ITS FALSE NEIGHBOUR: 'it returns false'. Refute it at one input. -/
def nestMemoryWrong : ChangeSpec := { name := "nestMemory", fn := fun _ => fun
  | [d] => { results := [.lit (.bool false)], args := [d] }
  | _ => none }
def NestMemoryWrongFalsely : Prop := nestMemoryRow.holds Try.pinned (OpenSpec.ofChange nestMemoryWrong)

/- THE SECOND FORM. 'bulk': how many values and letters a reading holds, each counted each time it is reached (what is shared counts as often as it is met; a slice's spare places count too). A statement '..UptoSaid' is the law's where the arguments, and the package variables that the reading takes, are together of bulk at most 1048576: NARROWER than '..Said'. Prove '..Said' where nothing that the law and all that it calls make is longer than what came in: it says more and counts as full. Else prove '..UptoSaid'. A law counts once. -/
mutual
def uptoBulk {H : Type} : DataW H → Nat
  | .lit (.string bytes) => bytes.length + 1
  | .lit _ => 1
  | .nil => 1
  | .ptr d => uptoBulk d + 1
  | .slice elems spare => uptoBulkAll elems + uptoBulkAll spare + 1
  | .agg parts => uptoBulkAll parts + 1
  | .iface _ d => uptoBulk d + 1
  | .map entries => uptoBulkEntries entries + 1
  | .held _ => 1
def uptoBulkAll {H : Type} : List (DataW H) → Nat
  | [] => 0
  | d :: r => uptoBulk d + uptoBulkAll r
def uptoBulkEntries {H : Type} : List (Lit × DataW H) → Nat
  | [] => 0
  | x :: r => uptoBulkEntry x + uptoBulkEntries r
def uptoBulkEntry {H : Type} : Lit × DataW H → Nat
  | (.string bytes, d) => bytes.length + uptoBulk d + 1
  | (_, d) => uptoBulk d + 1
 end
def uptoSmall : (H : Type) → List (DataW H) → Bool := fun _ ds => decide (uptoBulkAll ds ≤ 1048576)
def OpenSpec.upto (s : _root_.Go.ChangeSpec) : _root_.Go.OpenSpec := { _root_.Go.OpenSpec.ofChange s with cond := some uptoSmall }

/-- 'pergolalaw02.NestBody', WHERE WHAT IT READS IS OF BULK AT MOST 1048576: true; the input reads as it did. -/
def nestBodyUptoRow : OpenClaim := { program := "ytkbdkenpblcofab", sum := "8ae0c2ad34023e5f6b2af1929c2e74f18f67d0b8f999ef7ce3fbff5e0c2f2fec", func := "pergola/pergolalaw02.NestBody", spec := "nestBody", recurses := true, loops := true, apart := false, narrowed := true }
def NestBodyUptoSaid : Prop := nestBodyUptoRow.holds Try.pinned (OpenSpec.upto nestBodySpec)

/-- 'pergolalaw02.NestShorter', WHERE WHAT IT READS IS OF BULK AT MOST 1048576: true; the input reads as it did. -/
def nestShorterUptoRow : OpenClaim := { program := "ytkbdkenpblcofab", sum := "8ae0c2ad34023e5f6b2af1929c2e74f18f67d0b8f999ef7ce3fbff5e0c2f2fec", func := "pergola/pergolalaw02.NestShorter", spec := "nestShorter", recurses := true, loops := true, apart := false, narrowed := true }
def NestShorterUptoSaid : Prop := nestShorterUptoRow.holds Try.pinned (OpenSpec.upto nestShorterSpec)

/-- 'pergolalaw02.NestMakes', WHERE WHAT IT READS IS OF BULK AT MOST 1048576: true; the input reads as it did. -/
def nestMakesUptoRow : OpenClaim := { program := "ytkbdkenpblcofab", sum := "8ae0c2ad34023e5f6b2af1929c2e74f18f67d0b8f999ef7ce3fbff5e0c2f2fec", func := "pergola/pergolalaw02.NestMakes", spec := "nestMakes", recurses := true, loops := true, apart := false, narrowed := true }
def NestMakesUptoSaid : Prop := nestMakesUptoRow.holds Try.pinned (OpenSpec.upto nestMakesSpec)

/-- 'pergolalaw02.NestMemory', WHERE WHAT IT READS IS OF BULK AT MOST 1048576: true; the input reads as it did. -/
def nestMemoryUptoRow : OpenClaim := { program := "ytkbdkenpblcofab", sum := "8ae0c2ad34023e5f6b2af1929c2e74f18f67d0b8f999ef7ce3fbff5e0c2f2fec", func := "pergola/pergolalaw02.NestMemory", spec := "nestMemory", recurses := true, apart := false, narrowed := true }
def NestMemoryUptoSaid : Prop := nestMemoryUptoRow.holds Try.pinned (OpenSpec.upto nestMemorySpec)

end Rows
end Go.Proofs.Ytkbdkenpblcofab
