/- The contract of furrowlaw3.few. -/
import Derived.Test.YtcfbigkmhboepaaDoorMemE
namespace Go.Proofs.YtcfbigkmhboepaaDoor.Line
open Go.ChangeShapes Go.WideShapes Go.ChangeAt Go.RowKit
set_option linter.unusedVariables false

theorem Row.shape {w : World} {v : Value} {ls : List (List UInt8)} (h : Row w v ls) : ∃ a cap, v = .slice a ls.length cap := by
  rcases h with ⟨a, cap, rfl, rfl⟩ | ⟨b, off, cap, rfl, _⟩
  · exact ⟨_, _, rfl⟩
  · exact ⟨_, _, rfl⟩

def fewB (n : Nat) (E : List RawE) : Bool := decide (n ≤ 40 ∧ E.length ≤ 20 ∧ ∀ i (h : i < E.length), E[i].n.length ≤ 20)
theorem fewB_yes {n : Nat} {E : List RawE} (h : fewB n E = true) : n ≤ 40 ∧ E.length ≤ 20 ∧ ∀ i (h : i < E.length), E[i].n.length ≤ 20 := of_decide_eq_true h
theorem fewB_mk {n : Nat} {E : List RawE} (h1 : n ≤ 40) (h2 : E.length ≤ 20) (h3 : ∀ i (h : i < E.length), E[i].n.length ≤ 20) : fewB n E = true := decide_eq_true ⟨h1, h2, h3⟩
theorem fewB_no {n : Nat} {E : List RawE} (h : ¬ (n ≤ 40 ∧ E.length ≤ 20 ∧ ∀ i (h : i < E.length), E[i].n.length ≤ 20)) : fewB n E = false := decide_eq_false h

set_option maxHeartbeats 2000000 in
set_option maxRecDepth 100000 in
theorem few_any (a : Option Addr) (n cap0 : Nat) (v : Value) (E : List RawE) (w : World) (hv : Eds w v E) (hn : n ≤ 9223372036854775807) (hl : E.length ≤ 9223372036854775807) :
    Calls Tryd.prog 10 #[.slice a n cap0, v] w fun e w' => e = .returned (.bool (fewB n E)) ∧ w' = w := by
  by_cases h1 : 40 < n
  · rw [fewB_no (by omega)]
    obtain ⟨a', cap, rfl⟩ := hv.shape
    go_enter Tryd.func10, Tryd.ntmps10
    go_wp2
    go_ret
    exact ⟨rfl, rfl⟩
  by_cases h2 : 20 < E.length
  · rw [fewB_no (by omega)]
    obtain ⟨a', cap, rfl⟩ := hv.shape
    go_enter Tryd.func10, Tryd.ntmps10
    go_wp2
    go_ret
    exact ⟨rfl, rfl⟩
  rcases hv with ⟨a', cap, rfl, rfl⟩ | ⟨b, off, cap, rfl, hcap, hcells⟩
  · rw [fewB_mk (by omega) (by simp) (fun i h => by simp at h)]
    go_enter Tryd.func10, Tryd.ntmps10
    go_wp2
    refine wp_loop_rounds 1 ?_
    rw [rounds_succ]
    go_wp2
    go_ret
    exact ⟨rfl, rfl⟩
  · have HC := hide hcells
    clear hcells
    go_enter Tryd.func10, Tryd.ntmps10
    go_wp2
    go_loop [5] (fun q => ∃ i : Nat, i ≤ E.length ∧ q = .int .i64 i ∧ Hid (∀ j (hj : j < E.length), j < i → E[j].n.length ≤ 20)) (fun q => E.length - (intOf q).toNat)
    case atStart => exact ⟨0, Nat.zero_le _, rfl, hide (fun j hj h => by omega)⟩
    case round =>
      obtain ⟨i, hi, rfl, HS⟩ := hrel
      by_cases hlt : i < E.length
      · obtain ⟨-, -, u, d2, hr⟩ := unhide HC i hlt
        obtain ⟨ua, uc, rfl⟩ := hr.shape
        clear hr
        by_cases g : 20 < E[i].n.length
        · have HF := hide (fewB_no (n := n) (E := E) (fun h => by have := h.2.2 i hlt; omega))
          generalize E[i].n.length = m at *
          go_wp2
          go_ret
          rw [unhide HF]; exact ⟨rfl, rfl⟩
        · have HS2 := hide (show E[i].n.length ≤ 20 by omega)
          generalize hm : E[i].n.length = m at *
          go_wp2
          go_round
          case rel => exact ⟨i + 1, by omega, by go_num, hide (fun j hj h => by
            by_cases e : j = i
            · subst e; rw [hm]; exact unhide HS2
            · exact unhide HS j hj (by omega))⟩
          case measure => simp [intOf]; omega
      · have HF := hide (fewB_mk (n := n) (E := E) (by omega) (by omega) (fun j hj => unhide HS j hj (by omega)))
        go_wp2
        go_ret
        rw [unhide HF]; exact ⟨rfl, rfl⟩
end Go.Proofs.YtcfbigkmhboepaaDoor.Line
