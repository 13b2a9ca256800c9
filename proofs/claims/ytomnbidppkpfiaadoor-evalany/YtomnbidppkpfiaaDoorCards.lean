/-
  DERIVED. GIVEN WITH THE SEED: THE CARDS: each row of YtomnbidppkpfiaaDoorRows.lean that lists a variable, with what it lists TIED to the program's text (the seventh form; the later family's looks); each row that meets fmt, with fmt's text TOLD by the authors' own Lean function (tested against real Go, not proved from fmt's source: count such statements apart). THE CARD IS WHAT COUNTS. Prove the row's statement (the work); the ties are given (YtomnbidppkpfiaaDoorTie.lean); close each card by the builder's one call (the guide's Derived/Test/ToyasCard.lean, 'card_holds'). Laid BY PROGRAM, IN A SANDBOX (cutbox-door.mjs). By AI agents, Wed Nov 11 2026. No macro, syntax, notation, axiom, sorry.
-/
import Derived.Test.YtomnbidppkpfiaaDoorRows
import GoSem.ClaimSeven
namespace Go.Proofs.YtomnbidppkpfiaaDoor
namespace Rows

/-- THE TIED CARD OF 'furrowlaw9.EvalAny'. -/
def evalAnyCard : Claim7 := { stood := { row := evalAnyRow, standIns := [], harness := (true, "e5fbf28b401b77758d20f5c02854c4be4e147fde66bd5baf4d64564a1b8dbbcb"), looks := true }, kinds := [], alts := [], laidByText := true, laidKinds := [.handle], laidTests := true, laidLooks := .later }
def EvalAnyCardSaid : Prop := Claim7.holds Tryd.pinned (.plain (OpenSpec.ofChange evalAnySpec)) evalAnyCard

/-- THE SECOND FORM's CARD OF 'furrowlaw9.EvalAny'. -/
def evalAnyUptoCard : Claim7 := { stood := { row := evalAnyUptoRow, standIns := [], harness := (true, "e5fbf28b401b77758d20f5c02854c4be4e147fde66bd5baf4d64564a1b8dbbcb"), looks := true }, kinds := [], alts := [], laidByText := true, laidKinds := [.handle], laidTests := true, laidLooks := .later }
def EvalAnyUptoCardSaid : Prop := Claim7.holds Tryd.pinned (.plain (OpenSpec.upto evalAnySpec)) evalAnyUptoCard
end Rows
end Go.Proofs.YtomnbidppkpfiaaDoor
