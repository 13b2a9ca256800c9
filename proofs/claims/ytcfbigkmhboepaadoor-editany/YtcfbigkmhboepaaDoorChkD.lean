/- The contract of the project's check: one edit, alone and behind the one ahead. -/
import Derived.Test.YtcfbigkmhboepaaDoorMemE
namespace Go.Proofs.YtcfbigkmhboepaaDoor.Line
open Go.ChangeShapes Go.WideShapes Go.ChangeAt Go.RowKit
set_option linter.unusedVariables false

/-- an error of that number, none for 0 -/
def errV (k : Nat) : Value := if k = 0 then .nilIface else .iface 61 (.int .i64 k)

set_option maxHeartbeats 1000000 in
theorem chk_any (N ah f t : Int) (a : Option Addr) (n c : Nat) (w : World) : Calls Tryd.prog 28 #[.int .i64 N, .int .i64 ah, .agg #[.int .i64 f, .int .i64 t, .slice a n c]] w fun e w' =>
    e = .returned (errV (if f < 0 ∨ t < f ∨ N < t then 1 else if f ≤ ah then 7 else 0)) ∧ Below w.heap.size w w' := by
  by_cases g1 : f < 0
  · rw [if_pos (.inl g1)]
    have q1 : decide (f < 0) = true := decide_eq_true g1
    go_enter Tryd.func28, Tryd.ntmps28
    go_wp2
    go_ret
    exact ⟨rfl, alloc_below _ _⟩
  have q1 : decide (f < 0) = false := decide_eq_false g1
  by_cases g2 : t < f
  · rw [if_pos (.inr (.inl g2))]
    have q2 : decide (t < f) = true := decide_eq_true g2
    go_enter Tryd.func28, Tryd.ntmps28
    go_wp2
    go_ret
    exact ⟨rfl, alloc_below _ _⟩
  have q2 : decide (t < f) = false := decide_eq_false g2
  by_cases g3 : N < t
  · rw [if_pos (.inr (.inr g3))]
    have q3 : decide (N < t) = true := decide_eq_true g3
    go_enter Tryd.func28, Tryd.ntmps28
    go_wp2
    go_ret
    exact ⟨rfl, alloc_below _ _⟩
  have q3 : decide (N < t) = false := decide_eq_false g3
  rw [if_neg (by omega)]
  by_cases g4 : f ≤ ah
  · rw [if_pos g4]
    have q4 : decide (f ≤ ah) = true := decide_eq_true g4
    go_enter Tryd.func28, Tryd.ntmps28
    go_wp2
    go_ret
    exact ⟨rfl, alloc_below _ _⟩
  · rw [if_neg g4]
    have q4 : decide (f ≤ ah) = false := decide_eq_false g4
    go_enter Tryd.func28, Tryd.ntmps28
    go_wp2
    go_ret
    exact ⟨rfl, alloc_below _ _⟩
end Go.Proofs.YtcfbigkmhboepaaDoor.Line
