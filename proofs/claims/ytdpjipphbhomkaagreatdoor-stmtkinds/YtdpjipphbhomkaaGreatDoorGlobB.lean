/- The one variable that errors.As reads. -/
import Derived.Test.YtdpjipphbhomkaaGreatDoorMemB
namespace Go.Proofs.YtdpjipphbhomkaaGreatDoor.Line
open Go.ChangeShapes Go.WideShapes Go.ChangeAt Go.RowKit
set_option linter.unusedVariables false

/-- what the row s list gives: the one variable that errors.As reads -/
def Glob (w : World) : Prop := w.cell? ⟨0, 0, none⟩ = some (.iface 184 (.agg #[.pointer (some ⟨7, 32, none⟩)]))
theorem Glob.below {w w' : World} (h : Glob w) (hb : Below w.heap.size w w') : Glob w' := (hb.cell (p := ⟨0, 0, none⟩) (cell_lt h)).trans h
end Go.Proofs.YtdpjipphbhomkaaGreatDoor.Line
