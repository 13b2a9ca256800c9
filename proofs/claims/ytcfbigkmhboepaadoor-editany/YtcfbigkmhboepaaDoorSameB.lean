/- The contract of the reference's SameLines, over slices of strings that are only read, alike. -/
import Derived.Test.YtcfbigkmhboepaaDoorMemB
namespace Go.Proofs.YtcfbigkmhboepaaDoor.Line
open Go.ChangeShapes Go.WideShapes Go.ChangeAt Go.RowKit
set_option linter.unusedVariables false

set_option maxHeartbeats 2000000 in
set_option maxRecDepth 100000 in
theorem sameLines_eq (u v : Value) (ls : List (List UInt8)) (w : World) (hu : Row w u ls) (hv : Row w v ls) (hl : ls.length ≤ 9223372036854775806) :
    Calls Tryd.prog 19 #[u, v] w fun e w' => e = .returned (.bool true) ∧ ∃ n, w' = w.drewN n := by
  by_cases h0 : ls = []
  · subst h0
    obtain ⟨a, c, rfl⟩ : ∃ a c, u = .slice a 0 c := by
      rcases hu with ⟨a, c, rfl, _⟩ | ⟨b, off, c, rfl, _⟩
      · exact ⟨_, _, rfl⟩
      · exact ⟨_, _, rfl⟩
    obtain ⟨a', c', rfl⟩ : ∃ a c, v = .slice a 0 c := by
      rcases hv with ⟨a, c, rfl, _⟩ | ⟨b, off, c, rfl, _⟩
      · exact ⟨_, _, rfl⟩
      · exact ⟨_, _, rfl⟩
    go_enter Tryd.func19, Tryd.ntmps19
    go_wp2
    refine wp_loop_rounds 1 ?_
    rw [rounds_succ]
    go_wp2
    go_ret
    exact ⟨rfl, 0, rfl⟩
  · rcases hu with ⟨_, _, _, h⟩ | ⟨b, off, c, rfl, hc, hcell⟩
    · exact absurd h h0
    rcases hv with ⟨_, _, _, h⟩ | ⟨b', off', c', rfl, hc', hcell'⟩
    · exact absurd h h0
    clear h0
    have H1 := hide hcell
    have H2 := hide hcell'
    clear hcell hcell'
    go_enter Tryd.func19, Tryd.ntmps19
    go_wp2
    go_loopw [5] (fun q wr => ∃ i : Nat, i ≤ ls.length ∧ q = .int .i64 i ∧ ∃ n, wr = w.drewN n) (fun q _ => ls.length - (intOf q).toNat)
    case atStart => exact ⟨0, Nat.zero_le _, rfl, 0, rfl⟩
    case round =>
      obtain ⟨i, hi, rfl, n, rfl⟩ := hrel
      by_cases hlt : i < ls.length
      · have c1 := unhide H1 i hlt
        have c2 := unhide H2 i hlt
        generalize ls[i] = x at *
        go_wp2
        go_region
        all_goals go_wp2
        all_goals go_roundw
        case rel => exact ⟨i + 1, by omega, by go_num, n + 1, rfl⟩
        case measure => simp [intOf]; omega
      · go_wp2
        go_ret
        exact ⟨rfl, n, rfl⟩

end Go.Proofs.YtcfbigkmhboepaaDoor.Line
