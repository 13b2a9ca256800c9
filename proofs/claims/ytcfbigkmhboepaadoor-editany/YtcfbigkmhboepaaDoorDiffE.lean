/- The contract of the reference's Diff where both rows are alike (none); the other way is not done. -/
import Derived.Test.YtcfbigkmhboepaaDoorSameAny
import Derived.Test.YtcfbigkmhboepaaDoorOwnE
import Derived.Test.YtcfbigkmhboepaaDoorSlice
import Derived.BigQuiet
import Derived.Deep.QuietTactic
namespace Go.Proofs.YtcfbigkmhboepaaDoor.Line
open Go.ChangeShapes Go.WideShapes Go.ChangeAt Go.RowKit
set_option linter.unusedVariables false

theorem Row.arg {w : World} {v : Value} {ls : List (List UInt8)} (h : Row w v ls) : ∃ o c, v = .slice o ls.length c ∧ ∀ i (h : i < ls.length), ∃ b off, o = some ⟨b, off, none⟩ ∧ w.cell? ⟨b, off + i, none⟩ = some (.string ⟨(ls[i]).toArray⟩) := by
  rcases h with ⟨a, cap, rfl, rfl⟩ | ⟨b, off, cap, rfl, _, h⟩
  · exact ⟨a, cap, rfl, fun i hi => by simp at hi⟩
  · exact ⟨_, cap, rfl, fun i hi => ⟨b, off, rfl, h i hi⟩⟩

set_option maxHeartbeats 4000000 in
set_option maxRecDepth 100000 in
theorem refDiff_same (u v : Value) (A : List (List UInt8)) (w : World) (hu : Row w u A) (hv : Row w v A) (hA : A.length ≤ 1000000) : Calls Tryd.prog 22 #[u, v] w fun e w' => e = .returned (.slice none 0 0) ∧ ∃ n, w' = w.drewN n := by
  have HS := hide (sameLines_eq u v A w hu hv (by omega))
  go_enter Tryd.func22, Tryd.ntmps22
  go_wp2_with (go_at_call 19; refine (unhide HS).mono ?_; rintro e w2 ⟨rfl, n, rfl⟩)
  go_ret
  exact ⟨rfl, n, rfl⟩

end Go.Proofs.YtcfbigkmhboepaaDoor.Line
