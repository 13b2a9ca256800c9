/- The contract of the project's copied. -/
import Derived.Test.YtcfbigkmhboepaaDoorAppE
namespace Go.Proofs.YtcfbigkmhboepaaDoor.Line
open Go.ChangeShapes Go.WideShapes Go.ChangeAt Go.RowKit
set_option linter.unusedVariables false

set_option maxHeartbeats 1000000 in
theorem copied_any (x : Value) (ms : List (List UInt8)) (w : World) (hx : Row w x ms) (hl : ms.length ≤ 1000000) : Calls Tryd.prog 26 #[x] w fun e w' =>
    ∃ u, e = .returned u ∧ Own w.heap.size w' u ms ∧ Below w.heap.size w w' := by
  obtain ⟨v1, w1, hr1, ho1, hg1⟩ := append_row (base := w.heap.size) (Own.nil _ w) hx (Nat.le_refl _) (by simpa using hl)
  have H : Hid (Own w.heap.size w1 v1 ms ∧ Below w.heap.size w w1) := hide ⟨by simpa using ho1, (Below.refl _ _).grown hg1 (Nat.le_refl _) (fun j hj => by cases hj)⟩
  clear ho1 hg1
  go_enter Tryd.func26, Tryd.ntmps26
  go_wp2_with (at_builtin; refine wpList_append_run rfl _ _ rfl rfl _ _ rfl rfl v1 w1 hr1 ?_)
  go_ret
  exact ⟨_, rfl, (unhide H).1, (unhide H).2⟩
end Go.Proofs.YtcfbigkmhboepaaDoor.Line
