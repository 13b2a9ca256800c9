/- The contract of furrowlaw3.Same, over edits that are alike. -/
import Derived.Test.YtcfbigkmhboepaaDoorMemE
import Derived.Test.YtcfbigkmhboepaaDoorSameB
import Derived.BigQuiet
import Derived.Deep.QuietTactic
namespace Go.Proofs.YtcfbigkmhboepaaDoor.Line
open Go.ChangeShapes Go.WideShapes Go.ChangeAt Go.RowKit
set_option linter.unusedVariables false

theorem Row.cells {w w' : World} {v : Value} {ls : List (List UInt8)} (h : Row w v ls) (hc : ∀ a, w'.cell? a = w.cell? a) : Row w' v ls := by
  rcases h with h | ⟨b, off, cap, rfl, hl, h⟩
  · exact .inl h
  · exact .inr ⟨b, off, cap, rfl, hl, fun i hi => by rw [hc]; exact h i hi⟩

set_option maxHeartbeats 4000000 in
set_option maxRecDepth 100000 in
theorem same_eq (u v : Value) (E : List RawE) (w : World) (hu : Eds w u E) (hv : Eds w v E) (hl : E.length ≤ 9223372036854775806) (hn : ∀ i (h : i < E.length), E[i].n.length ≤ 9223372036854775806) :
    Calls Tryd.prog 20 #[u, v] w fun e w' => e = .returned (.bool true) ∧ ∃ n, w' = w.drewN n := by
  by_cases h0 : E = []
  · subst h0
    obtain ⟨a, c, rfl⟩ := hu.shape
    obtain ⟨a', c', rfl⟩ := hv.shape
    go_enter Tryd.func20, Tryd.ntmps20
    go_wp2
    refine wp_loop_rounds 1 ?_
    rw [rounds_succ]
    go_wp2
    go_ret
    exact ⟨rfl, 0, rfl⟩
  · rcases hu with ⟨_, _, _, h⟩ | ⟨b, off, c, rfl, hc, hcell⟩
    · exact absurd h h0
    rcases hv with ⟨_, _, _, h⟩ | ⟨b', off', c', rfl, hc', hcell'⟩
    · exact absurd h h0
    clear h0
    have H1 := hide hcell
    have H2 := hide hcell'
    have HN := hide hn
    clear hcell hcell' hn
    go_enter Tryd.func20, Tryd.ntmps20
    go_wp2
    go_loopw [5] (fun q wr => ∃ i : Nat, i ≤ E.length ∧ q = .int .i64 i ∧ ∃ n, wr = w.drewN n) (fun q _ => E.length - (intOf q).toNat)
    case atStart => exact ⟨0, Nat.zero_le _, rfl, 0, rfl⟩
    case round =>
      obtain ⟨i, hi, rfl, n, rfl⟩ := hrel
      by_cases hlt : i < E.length
      · obtain ⟨c1, c2, x, c3, c4⟩ := (unhide H1 i hlt).below (below_drewN (Below.refl _ _) n)
        obtain ⟨k1, k2, y, k3, k4⟩ := (unhide H2 i hlt).below (below_drewN (Below.refl _ _) n)
        generalize hW : w.drewN n = W0 at *
        have HW := hide hW
        clear hW
        have hnn := unhide HN i hlt
        have HS := hide (fun (W : World) (h : ∀ a, W.cell? a = W0.cell? a) => sameLines_eq x y E[i].n W (c4.cells h) (k4.cells h) hnn)
        obtain ⟨xa, xc, rfl⟩ : ∃ a cap, x = .slice a E[i].n.length cap := by
          rcases c4 with ⟨a, cap, rfl, h⟩ | ⟨b, off, cap, rfl, _⟩
          · exact ⟨a, cap, by rw [h]; rfl⟩
          · exact ⟨_, _, rfl⟩
        obtain ⟨ya, yc, rfl⟩ : ∃ a cap, y = .slice a E[i].n.length cap := by
          rcases k4 with ⟨a, cap, rfl, h⟩ | ⟨b, off, cap, rfl, _⟩
          · exact ⟨a, cap, by rw [h]; rfl⟩
          · exact ⟨_, _, rfl⟩
        clear c4 k4 hnn
        generalize E[i].n.length = m at *
        generalize E[i].f = ff at *
        generalize E[i].t = tt at *
        go_wp2_with fail
        go_quiet ((go_at_call 19; refine Calls.quiet_of (unhide HS _ (fun _ => rfl))))
        go_wp2
        go_roundw
        case rel => exact ⟨i + 1, by omega, by go_num, _, by rw [← unhide HW, World.drewN_drewN]⟩
        case measure => simp [intOf]; omega
      · go_wp2
        go_ret
        exact ⟨rfl, n, rfl⟩
end Go.Proofs.YtcfbigkmhboepaaDoor.Line
