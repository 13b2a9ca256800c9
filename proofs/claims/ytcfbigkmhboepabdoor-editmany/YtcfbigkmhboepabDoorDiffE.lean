/- The contract of the reference's Diff where both rows are alike (none); the other way is not done. -/
import Derived.Test.YtcfbigkmhboepabDoorSameAny
import Derived.Test.YtcfbigkmhboepabDoorOwnE
import Derived.Test.YtcfbigkmhboepabDoorSlice
import Derived.BigQuiet
import Derived.Deep.QuietTactic
namespace Go.Proofs.YtcfbigkmhboepabDoor.Line
open Go.ChangeShapes Go.WideShapes Go.ChangeAt Go.RowKit
set_option linter.unusedVariables false

theorem Row.arg {w : World} {v : Value} {ls : List (List UInt8)} (h : Row w v ls) : ∃ o c, v = .slice o ls.length c ∧ ∀ i (h : i < ls.length), ∃ b off, o = some ⟨b, off, none⟩ ∧ w.cell? ⟨b, off + i, none⟩ = some (.string ⟨(ls[i]).toArray⟩) := by
  rcases h with ⟨a, cap, rfl, rfl⟩ | ⟨b, off, cap, rfl, _, h⟩
  · exact ⟨a, cap, rfl, fun i hi => by simp at hi⟩
  · exact ⟨_, cap, rfl, fun i hi => ⟨b, off, rfl, h i hi⟩⟩

end Go.Proofs.YtcfbigkmhboepabDoor.Line
