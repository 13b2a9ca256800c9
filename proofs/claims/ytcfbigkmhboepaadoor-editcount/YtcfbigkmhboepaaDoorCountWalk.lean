/- EditCount, walked: at every number and all edits it answers true. -/
import Derived.Test.YtcfbigkmhboepaaDoorKnownD
import Derived.Test.YtcfbigkmhboepaaDoorOfE
import Derived.Test.YtcfbigkmhboepaaDoorCheckE
import Derived.Test.YtcfbigkmhboepaaDoorTellsAnyB
namespace Go.Proofs.YtcfbigkmhboepaaDoor.Line
open Go.ChangeShapes Go.WideShapes Go.ChangeAt Go.RowKit
set_option linter.unusedVariables false

set_option maxHeartbeats 4000000 in
theorem editCount_any (N : Int) (v : Value) (E : List RawE) (w : World) (hv : Eds w v E) (hl : E.length ≤ 9223372036854775807) (hG : Glob w) : Calls Tryd.prog 6 #[.int .i64 N, v] w fun e w' => e = .returned (.bool true) ∧ Below w.heap.size w w' := by
  have HV := hide hv
  have HG := hide hG
  obtain ⟨a, c, rfl⟩ := hv.shape
  clear hv hG
  go_enter Tryd.func6, Tryd.ntmps6
  go_wp2_with fail
  refine (known_any w (unhide HG)).mono ?_
  rintro e w1 ⟨rfl, hb1⟩
  have H1 := hide hb1
  clear hb1
  by_cases hm : 20 < E.length
  · go_wp2
    go_ret
    exact ⟨rfl, unhide H1⟩
  go_wp2_with fail
  refine (check_any N E _ w1 ((unhide HV).below (unhide H1)) (by omega)).mono ?_
  rintro e w2 ⟨g, rfl, hs, hb2⟩
  have H2 := hide (And.intro hs hb2)
  clear hs hb2
  go_wp2_with fail
  have hv2 := ((unhide HV).below (unhide H1)).below (unhide H2).2
  refine (of_any _ E w2 hv2 (by omega)).mono ?_
  rintro e w3 ⟨u, rfl, ho, hb3⟩
  have H3 := hide (And.intro ho hb3)
  clear ho hb3 hv2
  go_wp2_with fail
  refine (checkEdits_any N E _ w3 (unhide H3).1.eds (by omega)).mono ?_
  rintro e w4 ⟨g2, rfl, ht, hb4⟩
  have H4 := hide (And.intro ht hb4)
  clear ht hb4
  go_wp2_with fail
  have hG4 := ((((unhide HG).below (unhide H1)).below (unhide H2).2).below (unhide H3).2).below (unhide H4).2
  have hs4 := ((unhide H2).1.below (unhide H3).2).below (unhide H4).2
  refine (tells_any w4 _ _ wEdit _ _ hG4 hs4 (unhide H4).1).mono ?_
  rintro e w5 ⟨rfl, hb5⟩
  have H5 := hide hb5
  clear hG4 hs4 hb5
  go_wp2
  go_ret
  exact ⟨rfl, bthen (bthen (bthen (bthen (unhide H1) (unhide H2).2) (unhide H3).2) (unhide H4).2) (unhide H5)⟩
end Go.Proofs.YtcfbigkmhboepaaDoor.Line
