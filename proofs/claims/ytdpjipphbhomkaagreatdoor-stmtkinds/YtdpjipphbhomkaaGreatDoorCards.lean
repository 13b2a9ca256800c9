/-
  DERIVED. GIVEN WITH THE SEED: THE CARDS: each row of YtdpjipphbhomkaaGreatDoorRows.lean that lists a variable, with what it lists TIED to the program's text (the seventh form; the later family's looks); each row that meets fmt, with fmt's text TOLD by the authors' own Lean function (tested against real Go, not proved from fmt's source: count such statements apart). THE CARD IS WHAT COUNTS. Prove the row's statement (the work); the ties are given (YtdpjipphbhomkaaGreatDoorTie.lean); close each card by the builder's one call (the guide's Derived/Test/ToyasCard.lean, 'card_holds'). Laid BY PROGRAM, IN A SANDBOX (cutbox-door.mjs). By AI agents, Wed Nov 11 2026. No macro, syntax, notation, axiom, sorry.
-/
import Derived.Test.YtdpjipphbhomkaaGreatDoorRows
import GoSem.ClaimSeven
namespace Go.Proofs.YtdpjipphbhomkaaGreatDoor
namespace Rows

/-- THE TIED CARD OF 'furrowlaw6.StmtLine'. -/
def stmtLineCard : Claim7 := { stood := { row := stmtLineRow, standIns := [], harness := (true, "ed48917517f66f9760d4ff036d4faa56ea07d9f0840448b399bb4f12ac486d6d"), looks := true }, kinds := [], alts := [], laidByText := true, laidKinds := [.data, .data, .data, .data, .handle, .pinned], laidTests := true, laidLooks := .later }
def StmtLineCardSaid : Prop := Claim7.holds Tryz.pinned (.plain (OpenSpec.ofChange stmtLineSpec)) stmtLineCard

/-- THE TIED CARD OF 'furrowlaw6.StmtKinds'. -/
def stmtKindsCard : Claim7 := { stood := { row := stmtKindsRow, standIns := [], harness := (true, "ed48917517f66f9760d4ff036d4faa56ea07d9f0840448b399bb4f12ac486d6d"), looks := true }, kinds := [], alts := [], laidByText := true, laidKinds := [.data, .data, .data, .data, .handle, .pinned], laidTests := true, laidLooks := .later }
def StmtKindsCardSaid : Prop := Claim7.holds Tryz.pinned (.plain (OpenSpec.ofChange stmtKindsSpec)) stmtKindsCard

/-- THE TIED CARD OF 'furrowlaw6.StmtItems'. -/
def stmtItemsCard : Claim7 := { stood := { row := stmtItemsRow, standIns := [], harness := (true, "ed48917517f66f9760d4ff036d4faa56ea07d9f0840448b399bb4f12ac486d6d"), looks := true }, kinds := [], alts := [], laidByText := true, laidKinds := [.data, .data, .data, .data, .handle, .pinned], laidTests := true, laidLooks := .later }
def StmtItemsCardSaid : Prop := Claim7.holds Tryz.pinned (.plain (OpenSpec.ofChange stmtItemsSpec)) stmtItemsCard

/-- THE TIED CARD OF 'furrowlaw6.StmtSteps'. -/
def stmtStepsCard : Claim7 := { stood := { row := stmtStepsRow, standIns := [], harness := (true, "ed48917517f66f9760d4ff036d4faa56ea07d9f0840448b399bb4f12ac486d6d"), looks := true }, kinds := [], alts := [], laidByText := true, laidKinds := [.data, .data, .data, .data, .handle, .pinned], laidTests := true, laidLooks := .later }
def StmtStepsCardSaid : Prop := Claim7.holds Tryz.pinned (.plain (OpenSpec.ofChange stmtStepsSpec)) stmtStepsCard

/-- THE SECOND FORM's CARD OF 'furrowlaw6.StmtLine'. -/
def stmtLineUptoCard : Claim7 := { stood := { row := stmtLineUptoRow, standIns := [], harness := (true, "ed48917517f66f9760d4ff036d4faa56ea07d9f0840448b399bb4f12ac486d6d"), looks := true }, kinds := [], alts := [], laidByText := true, laidKinds := [.data, .data, .data, .data, .handle, .pinned], laidTests := true, laidLooks := .later }
def StmtLineUptoCardSaid : Prop := Claim7.holds Tryz.pinned (.plain (OpenSpec.upto stmtLineSpec)) stmtLineUptoCard

/-- THE SECOND FORM's CARD OF 'furrowlaw6.StmtKinds'. -/
def stmtKindsUptoCard : Claim7 := { stood := { row := stmtKindsUptoRow, standIns := [], harness := (true, "ed48917517f66f9760d4ff036d4faa56ea07d9f0840448b399bb4f12ac486d6d"), looks := true }, kinds := [], alts := [], laidByText := true, laidKinds := [.data, .data, .data, .data, .handle, .pinned], laidTests := true, laidLooks := .later }
def StmtKindsUptoCardSaid : Prop := Claim7.holds Tryz.pinned (.plain (OpenSpec.upto stmtKindsSpec)) stmtKindsUptoCard

/-- THE SECOND FORM's CARD OF 'furrowlaw6.StmtItems'. -/
def stmtItemsUptoCard : Claim7 := { stood := { row := stmtItemsUptoRow, standIns := [], harness := (true, "ed48917517f66f9760d4ff036d4faa56ea07d9f0840448b399bb4f12ac486d6d"), looks := true }, kinds := [], alts := [], laidByText := true, laidKinds := [.data, .data, .data, .data, .handle, .pinned], laidTests := true, laidLooks := .later }
def StmtItemsUptoCardSaid : Prop := Claim7.holds Tryz.pinned (.plain (OpenSpec.upto stmtItemsSpec)) stmtItemsUptoCard

/-- THE SECOND FORM's CARD OF 'furrowlaw6.StmtSteps'. -/
def stmtStepsUptoCard : Claim7 := { stood := { row := stmtStepsUptoRow, standIns := [], harness := (true, "ed48917517f66f9760d4ff036d4faa56ea07d9f0840448b399bb4f12ac486d6d"), looks := true }, kinds := [], alts := [], laidByText := true, laidKinds := [.data, .data, .data, .data, .handle, .pinned], laidTests := true, laidLooks := .later }
def StmtStepsUptoCardSaid : Prop := Claim7.holds Tryz.pinned (.plain (OpenSpec.upto stmtStepsSpec)) stmtStepsUptoCard
end Rows
end Go.Proofs.YtdpjipphbhomkaaGreatDoor
