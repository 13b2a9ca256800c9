/- The contract of the reference's Text. -/
import Derived.Test.YtepnafnljfjeoaaGreatDoorEvRight
import Derived.Test.YtepnafnljfjeoaaGreatDoorPlainWs
import Derived.Test.YtepnafnljfjeoaaGreatDoorStDec
import Derived.Test.YtepnafnljfjeoaaGreatDoorRegE
import Derived.Deep.RegionWith
import Derived.Deep.CutRange
namespace Go.Proofs.YtepnafnljfjeoaaGreatDoor.Line
open Go.ChangeShapes Go.WideShapes Go.ChangeAt Go.RowKit
open Ex (E)
set_option linter.unusedVariables false

def rndT (s : List UInt8) (y : Bool) : List UInt8 := if y then [40] ++ s ++ [41] else s
set_option maxHeartbeats 4000000 in
theorem round_any (s : List UInt8) (y : Bool) (hl : s.length ≤ 1000000) (w : World) : Calls Tryz.prog 29 #[.string ⟨s.toArray⟩, .bool y] w fun e w' => e = .returned (.string ⟨(rndT s y).toArray⟩) ∧ Below w.heap.size w w' := by
  have c1 : (⟨#[40]⟩ : ByteArray) ++ ⟨s.toArray⟩ = ⟨([40] ++ s).toArray⟩ := cat2 [40] s
  have c2 : (⟨([40] ++ s).toArray⟩ : ByteArray) ++ ⟨#[41]⟩ = ⟨([40] ++ s ++ [41]).toArray⟩ := cat2 _ [41]
  have hl2 : ([40] ++ s).length ≤ 1000001 := by simp; omega
  cases y with
  | true =>
    have e : rndT s true = [40] ++ s ++ [41] := rfl
    rw [e]
    clear e
    go_enter Tryz.func29, Tryz.ntmps29
    go_wp2
    go_ret
    exact ⟨rfl, Below.refl _ _⟩
  | false =>
    have e : rndT s false = s := rfl
    rw [e]
    clear e
    go_enter Tryz.func29, Tryz.ntmps29
    go_wp2
    go_ret
    exact ⟨rfl, Below.refl _ _⟩
set_option maxHeartbeats 4000000 in
theorem sumK_any (x : E) (a : Option Addr) (n c : Nat) (w : World) : Calls Tryz.prog 31 #[treeV x (.slice a n c)] w fun e w' => e = .returned (.bool (x.kind == 5 || x.kind == 6)) ∧ Below w.heap.size w w' := by
  go_enter Tryz.func31, Tryz.ntmps31
  go_wp2_with fail
  all_goals (
    go_ret
    exact ⟨by simp_all, alloc_below w _⟩)
set_option maxHeartbeats 4000000 in
theorem prodK_any (x : E) (a : Option Addr) (n c : Nat) (w : World) : Calls Tryz.prog 32 #[treeV x (.slice a n c)] w fun e w' => e = .returned (.bool (x.kind == 7 || x.kind == 8)) ∧ Below w.heap.size w w' := by
  go_enter Tryz.func32, Tryz.ntmps32
  go_wp2_with fail
  all_goals (
    go_ret
    exact ⟨by simp_all, alloc_below w _⟩)
set_option maxHeartbeats 4000000 in
set_option maxRecDepth 100000 in
theorem decimalI_any (n : Int) (h1 : -9223372036854775808 < n) (h2 : n ≤ 9223372036854775807) (w : World) : Calls Tryz.prog 30 #[.int .i64 n] w fun e w' => e = .returned (.string ⟨(Lib.itoa n).toArray⟩) ∧ Below w.heap.size w w' := by
  by_cases hn : n < 0
  · rw [itoa_neg hn]
    have hl : (Words.dec n.natAbs).length ≤ 30 := by
      unfold Words.dec
      split
      · decide
      · exact Nat.le_trans (Words.digs_len 20 _ (by omega)) (by decide)
    have HD := hide (decimal_any n.natAbs (by omega) w)
    have hz : -n = ((n.natAbs : Nat) : Int) := by omega
    have c1 : (⟨#[45]⟩ : ByteArray) ++ ⟨(Words.dec n.natAbs).toArray⟩ = ⟨(45 :: Words.dec n.natAbs).toArray⟩ := cat2 [45] _
    have g1 : ¬ n = -9223372036854775808 := by omega
    generalize Words.dec n.natAbs = D at *
    generalize n.natAbs = m at *
    go_enter Tryz.func30, Tryz.ntmps30
    have HZ := hide hz
    clear hz
    go_wp2_with fail
    rw [unhide HZ]
    refine (unhide HD).mono ?_
    rintro ev w2 ⟨rfl, hb⟩
    go_wp2
    go_ret
    exact ⟨rfl, hb⟩
  · rw [itoa_pos hn]
    have := decimal_any n.natAbs (by omega) w
    rw [show ((n.natAbs : Nat) : Int) = n by omega] at this
    exact this
end Go.Proofs.YtepnafnljfjeoaaGreatDoor.Line
