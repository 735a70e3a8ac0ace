/-
  DERIVED. GIVEN WITH THE SEED: THE CARDS: each row of YtbjjboicfghldabDoorRows.lean that lists a variable, with what it lists TIED to the program's text (the seventh form; the later family's looks); each row that meets fmt, with fmt's text TOLD by the authors' own Lean function (tested against real Go, not proved from fmt's source: count such statements apart). THE CARD IS WHAT COUNTS. Prove the row's statement (the work); the ties are given (YtbjjboicfghldabDoorTie.lean); close each card by the builder's one call (the guide's Derived/Test/ToyasCard.lean, 'card_holds'). Laid BY PROGRAM, IN A SANDBOX (cutbox-door.mjs). By AI agents, Wed Nov 11 2026. No macro, syntax, notation, axiom, sorry.
-/
import Derived.Test.YtbjjboicfghldabDoorRows
import GoSem.ClaimSeven
namespace Go.Proofs.YtbjjboicfghldabDoor
namespace Rows

/-- THE TIED CARD OF 'pergolalaw14.OpcodeJoins'. -/
def opcodeJoinsCard : Claim7 := { stood := { row := opcodeJoinsRow, standIns := [], harness := (true, "7f8afe790fc4224b1ce4a9793f2e17c44998593adadf34569ffcafc5af4d7356"), looks := false }, kinds := [], alts := [], laidByText := true, laidKinds := [.data], laidTests := true, laidLooks := .later }
def OpcodeJoinsCardSaid : Prop := Claim7.holds Tryd.pinned (.plain (OpenSpec.ofChange opcodeJoinsSpec)) opcodeJoinsCard

/-- THE TIED CARD OF 'pergolalaw14.OpcodePieces'. -/
def opcodePiecesCard : Claim7 := { stood := { row := opcodePiecesRow, standIns := [], harness := (true, "7f8afe790fc4224b1ce4a9793f2e17c44998593adadf34569ffcafc5af4d7356"), looks := false }, kinds := [], alts := [], laidByText := true, laidKinds := [.data], laidTests := true, laidLooks := .later }
def OpcodePiecesCardSaid : Prop := Claim7.holds Tryd.pinned (.plain (OpenSpec.ofChange opcodePiecesSpec)) opcodePiecesCard

/-- THE SECOND FORM's CARD OF 'pergolalaw14.OpcodeJoins'. -/
def opcodeJoinsUptoCard : Claim7 := { stood := { row := opcodeJoinsUptoRow, standIns := [], harness := (true, "7f8afe790fc4224b1ce4a9793f2e17c44998593adadf34569ffcafc5af4d7356"), looks := false }, kinds := [], alts := [], laidByText := true, laidKinds := [.data], laidTests := true, laidLooks := .later }
def OpcodeJoinsUptoCardSaid : Prop := Claim7.holds Tryd.pinned (.plain (OpenSpec.upto opcodeJoinsSpec)) opcodeJoinsUptoCard

/-- THE SECOND FORM's CARD OF 'pergolalaw14.OpcodePieces'. -/
def opcodePiecesUptoCard : Claim7 := { stood := { row := opcodePiecesUptoRow, standIns := [], harness := (true, "7f8afe790fc4224b1ce4a9793f2e17c44998593adadf34569ffcafc5af4d7356"), looks := false }, kinds := [], alts := [], laidByText := true, laidKinds := [.data], laidTests := true, laidLooks := .later }
def OpcodePiecesUptoCardSaid : Prop := Claim7.holds Tryd.pinned (.plain (OpenSpec.upto opcodePiecesSpec)) opcodePiecesUptoCard
end Rows
end Go.Proofs.YtbjjboicfghldabDoor
