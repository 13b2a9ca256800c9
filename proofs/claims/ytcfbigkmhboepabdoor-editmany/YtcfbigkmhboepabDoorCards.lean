/-
  DERIVED. GIVEN WITH THE SEED: THE CARDS: each row of YtcfbigkmhboepabDoorRows.lean that lists a variable, with what it lists TIED to the program's text (the seventh form; the later family's looks); each row that meets fmt, with fmt's text TOLD by the authors' own Lean function (tested against real Go, not proved from fmt's source: count such statements apart). THE CARD IS WHAT COUNTS. Prove the row's statement (the work); the ties are given (YtcfbigkmhboepabDoorTie.lean); close each card by the builder's one call (the guide's Derived/Test/ToyasCard.lean, 'card_holds'). Laid BY PROGRAM, IN A SANDBOX (cutbox-door.mjs). By AI agents, Wed Nov 11 2026. No macro, syntax, notation, axiom, sorry.
-/
import Derived.Test.YtcfbigkmhboepabDoorRows
import GoSem.ClaimSeven
namespace Go.Proofs.YtcfbigkmhboepabDoor
namespace Rows

/-- THE TIED CARD OF 'furrowlaw3.EditMany'. -/
def editManyCard : Claim7 := { stood := { row := editManyRow, standIns := [], harness := (true, "8c9b07f7c121352f6f88cec42d2de53a849dd73678dcc2fcab992b7d3682f052"), looks := true }, kinds := [], alts := [], laidByText := true, laidKinds := [.handle], laidTests := true, laidLooks := .later }
def EditManyCardSaid : Prop := Claim7.holds Tryd.pinned (.plain (OpenSpec.ofChange editManySpec)) editManyCard

/-- THE SECOND FORM's CARD OF 'furrowlaw3.EditMany'. -/
def editManyUptoCard : Claim7 := { stood := { row := editManyUptoRow, standIns := [], harness := (true, "8c9b07f7c121352f6f88cec42d2de53a849dd73678dcc2fcab992b7d3682f052"), looks := true }, kinds := [], alts := [], laidByText := true, laidKinds := [.handle], laidTests := true, laidLooks := .later }
def EditManyUptoCardSaid : Prop := Claim7.holds Tryd.pinned (.plain (OpenSpec.upto editManySpec)) editManyUptoCard
end Rows
end Go.Proofs.YtcfbigkmhboepabDoor
