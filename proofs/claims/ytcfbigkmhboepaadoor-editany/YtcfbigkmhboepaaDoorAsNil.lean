/- errors.As of no error: false. -/
import Derived.Test.YtcfbigkmhboepaaDoorMemB
namespace Go.Proofs.YtcfbigkmhboepaaDoor.Line
open Go.ChangeShapes Go.WideShapes Go.ChangeAt Go.RowKit
set_option linter.unusedVariables false

theorem as_nil (v : Value) (w : World) : Calls Tryd.prog 25 #[.nilIface, v] w fun e w' => e = .returned (.bool false) ∧ w' = w := by
  go_enter Tryd.func25, Tryd.ntmps25
  go_wp2
  go_ret
  exact ⟨rfl, rfl⟩
end Go.Proofs.YtcfbigkmhboepaaDoor.Line
