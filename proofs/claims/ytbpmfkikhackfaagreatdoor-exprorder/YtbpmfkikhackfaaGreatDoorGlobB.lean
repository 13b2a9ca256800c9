/- The one variable that errors.As reads. -/
import Derived.Test.YtbpmfkikhackfaaGreatDoorMemB
namespace Go.Proofs.YtbpmfkikhackfaaGreatDoor.Line
open Go.ChangeShapes Go.WideShapes Go.ChangeAt Go.RowKit
set_option linter.unusedVariables false

/-- what the row s list gives: the one variable that errors.As reads -/
def Glob (w : World) : Prop := w.cell? ⟨0, 0, none⟩ = some (.iface 162 (.agg #[.pointer (some ⟨7, 35, none⟩)]))
theorem Glob.below {w w' : World} (h : Glob w) (hb : Below w.heap.size w w') : Glob w' := (hb.cell (p := ⟨0, 0, none⟩) (cell_lt h)).trans h
end Go.Proofs.YtbpmfkikhackfaaGreatDoor.Line
