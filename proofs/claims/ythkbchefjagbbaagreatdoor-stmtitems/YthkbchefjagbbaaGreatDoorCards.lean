/-
  DERIVED. GIVEN WITH THE SEED: THE CARDS: each row of YthkbchefjagbbaaGreatDoorRows.lean that lists a variable, with what it lists TIED to the program's text (the seventh form; the later family's looks); each row that meets fmt, with fmt's text TOLD by the authors' own Lean function (tested against real Go, not proved from fmt's source: count such statements apart). THE CARD IS WHAT COUNTS. Prove the row's statement (the work); the ties are given (YthkbchefjagbbaaGreatDoorTie.lean); close each card by the builder's one call (the guide's Derived/Test/ToyasCard.lean, 'card_holds'). Laid BY PROGRAM, IN A SANDBOX (cutbox-door.mjs). By AI agents, Wed Nov 11 2026. No macro, syntax, notation, axiom, sorry.
-/
import Derived.Test.YthkbchefjagbbaaGreatDoorRows
import GoSem.ClaimSeven
namespace Go.Proofs.YthkbchefjagbbaaGreatDoor
namespace Rows

/-- THE TIED CARD OF 'furrowlaw5.ExprBack'. -/
def exprBackCard : Claim7 := { stood := { row := exprBackRow, standIns := [], harness := (true, "5bf1773eac28763265b488524b2e543a505251427e8829b0d37dd497714c93d8"), looks := true }, kinds := [], alts := [], laidByText := true, laidKinds := [.data, .data, .data, .data, .handle, .pinned], laidTests := true, laidLooks := .later }
def ExprBackCardSaid : Prop := Claim7.holds Tryz.pinned (.plain (OpenSpec.ofChange exprBackSpec)) exprBackCard

/-- THE TIED CARD OF 'furrowlaw6.StmtItems'. -/
def stmtItemsCard : Claim7 := { stood := { row := stmtItemsRow, standIns := [], harness := (true, "5bf1773eac28763265b488524b2e543a505251427e8829b0d37dd497714c93d8"), looks := true }, kinds := [], alts := [], laidByText := true, laidKinds := [.data, .data, .data, .data, .handle, .pinned], laidTests := true, laidLooks := .later }
def StmtItemsCardSaid : Prop := Claim7.holds Tryz.pinned (.plain (OpenSpec.ofChange stmtItemsSpec)) stmtItemsCard

/-- THE TIED CARD OF 'furrowlaw7.TreeWalk'. -/
def treeWalkCard : Claim7 := { stood := { row := treeWalkRow, standIns := [], harness := (true, "5bf1773eac28763265b488524b2e543a505251427e8829b0d37dd497714c93d8"), looks := true }, kinds := [], alts := [], laidByText := true, laidKinds := [.data, .handle, .pinned], laidTests := true, laidLooks := .later }
def TreeWalkCardSaid : Prop := Claim7.holds Tryz.pinned (.plain (OpenSpec.ofChange treeWalkSpec)) treeWalkCard

/-- THE TIED CARD OF 'furrowlaw7.TreeDeep'. -/
def treeDeepCard : Claim7 := { stood := { row := treeDeepRow, standIns := [], harness := (true, "5bf1773eac28763265b488524b2e543a505251427e8829b0d37dd497714c93d8"), looks := true }, kinds := [], alts := [], laidByText := true, laidKinds := [.data, .handle, .pinned], laidTests := true, laidLooks := .later }
def TreeDeepCardSaid : Prop := Claim7.holds Tryz.pinned (.plain (OpenSpec.ofChange treeDeepSpec)) treeDeepCard

/-- THE TIED CARD OF 'furrowlaw7.TreeOpen'. -/
def treeOpenCard : Claim7 := { stood := { row := treeOpenRow, standIns := [], harness := (true, "5bf1773eac28763265b488524b2e543a505251427e8829b0d37dd497714c93d8"), looks := true }, kinds := [], alts := [], laidByText := true, laidKinds := [.data, .handle, .pinned], laidTests := true, laidLooks := .later }
def TreeOpenCardSaid : Prop := Claim7.holds Tryz.pinned (.plain (OpenSpec.ofChange treeOpenSpec)) treeOpenCard

/-- THE TIED CARD OF 'furrowlaw7.TreeChoices'. -/
def treeChoicesCard : Claim7 := { stood := { row := treeChoicesRow, standIns := [], harness := (true, "5bf1773eac28763265b488524b2e543a505251427e8829b0d37dd497714c93d8"), looks := true }, kinds := [], alts := [], laidByText := true, laidKinds := [.data, .handle, .pinned], laidTests := true, laidLooks := .later }
def TreeChoicesCardSaid : Prop := Claim7.holds Tryz.pinned (.plain (OpenSpec.ofChange treeChoicesSpec)) treeChoicesCard

/-- THE SECOND FORM's CARD OF 'furrowlaw5.ExprBack'. -/
def exprBackUptoCard : Claim7 := { stood := { row := exprBackUptoRow, standIns := [], harness := (true, "5bf1773eac28763265b488524b2e543a505251427e8829b0d37dd497714c93d8"), looks := true }, kinds := [], alts := [], laidByText := true, laidKinds := [.data, .data, .data, .data, .handle, .pinned], laidTests := true, laidLooks := .later }
def ExprBackUptoCardSaid : Prop := Claim7.holds Tryz.pinned (.plain (OpenSpec.upto exprBackSpec)) exprBackUptoCard

/-- THE SECOND FORM's CARD OF 'furrowlaw6.StmtItems'. -/
def stmtItemsUptoCard : Claim7 := { stood := { row := stmtItemsUptoRow, standIns := [], harness := (true, "5bf1773eac28763265b488524b2e543a505251427e8829b0d37dd497714c93d8"), looks := true }, kinds := [], alts := [], laidByText := true, laidKinds := [.data, .data, .data, .data, .handle, .pinned], laidTests := true, laidLooks := .later }
def StmtItemsUptoCardSaid : Prop := Claim7.holds Tryz.pinned (.plain (OpenSpec.upto stmtItemsSpec)) stmtItemsUptoCard

/-- THE SECOND FORM's CARD OF 'furrowlaw7.TreeWalk'. -/
def treeWalkUptoCard : Claim7 := { stood := { row := treeWalkUptoRow, standIns := [], harness := (true, "5bf1773eac28763265b488524b2e543a505251427e8829b0d37dd497714c93d8"), looks := true }, kinds := [], alts := [], laidByText := true, laidKinds := [.data, .handle, .pinned], laidTests := true, laidLooks := .later }
def TreeWalkUptoCardSaid : Prop := Claim7.holds Tryz.pinned (.plain (OpenSpec.upto treeWalkSpec)) treeWalkUptoCard

/-- THE SECOND FORM's CARD OF 'furrowlaw7.TreeDeep'. -/
def treeDeepUptoCard : Claim7 := { stood := { row := treeDeepUptoRow, standIns := [], harness := (true, "5bf1773eac28763265b488524b2e543a505251427e8829b0d37dd497714c93d8"), looks := true }, kinds := [], alts := [], laidByText := true, laidKinds := [.data, .handle, .pinned], laidTests := true, laidLooks := .later }
def TreeDeepUptoCardSaid : Prop := Claim7.holds Tryz.pinned (.plain (OpenSpec.upto treeDeepSpec)) treeDeepUptoCard

/-- THE SECOND FORM's CARD OF 'furrowlaw7.TreeOpen'. -/
def treeOpenUptoCard : Claim7 := { stood := { row := treeOpenUptoRow, standIns := [], harness := (true, "5bf1773eac28763265b488524b2e543a505251427e8829b0d37dd497714c93d8"), looks := true }, kinds := [], alts := [], laidByText := true, laidKinds := [.data, .handle, .pinned], laidTests := true, laidLooks := .later }
def TreeOpenUptoCardSaid : Prop := Claim7.holds Tryz.pinned (.plain (OpenSpec.upto treeOpenSpec)) treeOpenUptoCard

/-- THE SECOND FORM's CARD OF 'furrowlaw7.TreeChoices'. -/
def treeChoicesUptoCard : Claim7 := { stood := { row := treeChoicesUptoRow, standIns := [], harness := (true, "5bf1773eac28763265b488524b2e543a505251427e8829b0d37dd497714c93d8"), looks := true }, kinds := [], alts := [], laidByText := true, laidKinds := [.data, .handle, .pinned], laidTests := true, laidLooks := .later }
def TreeChoicesUptoCardSaid : Prop := Claim7.holds Tryz.pinned (.plain (OpenSpec.upto treeChoicesSpec)) treeChoicesUptoCard
end Rows
end Go.Proofs.YthkbchefjagbbaaGreatDoor
