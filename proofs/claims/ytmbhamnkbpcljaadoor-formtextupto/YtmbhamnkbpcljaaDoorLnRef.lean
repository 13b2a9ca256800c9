/- The reference's checked sum and product; the project's mind of what was too great (reckoner). -/
import Derived.Test.YtmbhamnkbpcljaaDoorNumB
import Derived.Test.YtmbhamnkbpcljaaDoorLnPl
import Derived.Test.YtmbhamnkbpcljaaDoorLnMem
namespace Go.Proofs.YtmbhamnkbpcljaaDoor.Line
open Go.ChangeShapes Go.WideShapes Go.ChangeAt Go.RowKit
set_option linter.unusedVariables false

theorem refAdd_any (a b : Int) (w : World) (h1 : -9223372036854775808 ≤ a) (h2 : a ≤ 9223372036854775807) (h3 : -9223372036854775808 ≤ b) (h4 : b ≤ 9223372036854775807) :
    Calls Tryd.prog 33 #[.int .i64 a, .int .i64 b] w fun e w' => e = .returned (.tuple #[.int .i64 (fitV (a + b)), .bool (fitO (a + b))]) ∧ w' = w := by
  have hw : wrap64 (a + b) = if 9223372036854775807 < a + b then a + b - 18446744073709551616 else if a + b < -9223372036854775808 then a + b + 18446744073709551616 else a + b := by
    unfold wrap64; split
    · omega
    · split <;> omega
  have H : Hid (wrap64 (a + b) = if 9223372036854775807 < a + b then a + b - 18446744073709551616 else if a + b < -9223372036854775808 then a + b + 18446744073709551616 else a + b) := hw
  clear hw
  go_enter Tryd.func33, Tryd.ntmps33
  go_wp2
  all_goals go_ret2
  all_goals have HW := H.out
  all_goals split at HW
  all_goals first
    | exact ⟨ret_two (fitV_out (by omega)).symm (fitO_out (by omega)).symm, rfl⟩
    | exact ⟨ret_two ((fitV_in (by omega) (by omega)).trans (by omega)).symm (fitO_in (by omega) (by omega)).symm, rfl⟩
    | (split at HW
       all_goals first
         | (exfalso; omega)
         | exact ⟨ret_two (fitV_out (by omega)).symm (fitO_out (by omega)).symm, rfl⟩
         | exact ⟨ret_two (HW.trans (fitV_in (by omega) (by omega)).symm) (fitO_in (by omega) (by omega)).symm, rfl⟩)

theorem refMul_any (a b : Int) (w : World) (h1 : -9223372036854775808 ≤ a) (h2 : a ≤ 9223372036854775807) (h3 : -9223372036854775808 ≤ b) (h4 : b ≤ 9223372036854775807) :
    Calls Tryd.prog 36 #[.int .i64 a, .int .i64 b] w fun e w' => e = .returned (.tuple #[.int .i64 (fitV (a * b)), .bool (fitO (a * b))]) ∧ w' = w := by
  by_cases ha : a = 0
  · subst ha
    rw [Int.zero_mul]
    go_enter Tryd.func36, Tryd.ntmps36
    go_wp2
    go_ret2
    exact ⟨ret_two (fitV_in (by omega) (by omega)).symm (fitO_in (by omega) (by omega)).symm, rfl⟩
  by_cases hb : b = 0
  · subst hb
    rw [Int.mul_zero]
    go_enter Tryd.func36, Tryd.ntmps36
    go_wp2
    all_goals go_ret2
    all_goals exact ⟨ret_two (fitV_in (by omega) (by omega)).symm (fitO_in (by omega) (by omega)).symm, rfl⟩
  by_cases hm : b = -1
  · subst hm
    rw [Int.mul_neg_one]
    cases hl : (a == -9223372036854775808)
    · have hl' : ¬ a = -9223372036854775808 := by simpa using hl
      go_enter Tryd.func36, Tryd.ntmps36
      go_wp2
      all_goals go_ret2
      · exact ⟨ret_two (Eq.trans (by omega) (fitV_in (x := -a) (by omega) (by omega)).symm) (fitO_in (by omega) (by omega)).symm, rfl⟩
      · exact ⟨ret_two (fitV_in (by omega) (by omega)).symm (fitO_in (by omega) (by omega)).symm, rfl⟩
    · have hl' : a = -9223372036854775808 := by simpa using hl
      subst hl'
      go_enter Tryd.func36, Tryd.ntmps36
      go_wp2
      all_goals go_ret2
      all_goals exact ⟨ret_two (fitV_out (by omega)).symm (fitO_out (by omega)).symm, rfl⟩
  by_cases hn : a = -1 ∧ b = -9223372036854775808
  · obtain ⟨rfl, rfl⟩ := hn
    go_enter Tryd.func36, Tryd.ntmps36
    go_wp2
    all_goals go_ret2
    all_goals exact ⟨ret_two (fitV_out (by omega)).symm (fitO_out (by omega)).symm, rfl⟩
  have hz := mul_round a b h1 h2 h3 h4 hb hm
  have HZ : Hid ((-9223372036854775808 ≤ a * b ∧ a * b ≤ 9223372036854775807) ↔ wrap64 ((wrap64 (a * b)).tdiv b) = a) := hz
  clear hz
  have hb' : (b == 0) = false := by simpa using hb
  have hm' : (b == -1) = false := by simpa using hm
  cases hc : (a == -1)
  · clear hn
    go_enter Tryd.func36, Tryd.ntmps36
    go_wp2
    all_goals go_ret2
    · have g : ¬ wrap64 ((wrap64 (a * b)).tdiv b) = a := by simpa using ‹(wrap64 ((wrap64 (a * b)).tdiv b) != a) = true›
      have g : ¬ (-9223372036854775808 ≤ a * b ∧ a * b ≤ 9223372036854775807) := fun x => g (HZ.out.1 x)
      exact ⟨ret_two (fitV_out (by omega)).symm (fitO_out (by omega)).symm, rfl⟩
    · have g : wrap64 ((wrap64 (a * b)).tdiv b) = a := by simpa using ‹(wrap64 ((wrap64 (a * b)).tdiv b) != a) = false›
      have g := HZ.out.2 g
      exact ⟨ret_two ((wrap64_self _ g.1 g.2).trans (fitV_in g.1 g.2).symm) (fitO_in g.1 g.2).symm, rfl⟩
  · have hl : (b == -9223372036854775808) = false := by simp at *; omega
    clear hn
    go_enter Tryd.func36, Tryd.ntmps36
    go_wp2
    all_goals go_ret2
    · have g : ¬ wrap64 ((wrap64 (a * b)).tdiv b) = a := by simpa using ‹(wrap64 ((wrap64 (a * b)).tdiv b) != a) = true›
      have g : ¬ (-9223372036854775808 ≤ a * b ∧ a * b ≤ 9223372036854775807) := fun x => g (HZ.out.1 x)
      exact ⟨ret_two (fitV_out (by omega)).symm (fitO_out (by omega)).symm, rfl⟩
    · have g : wrap64 ((wrap64 (a * b)).tdiv b) = a := by simpa using ‹(wrap64 ((wrap64 (a * b)).tdiv b) != a) = false›
      have g := HZ.out.2 g
      exact ⟨ret_two ((wrap64_self _ g.1 g.2).trans (fitV_in g.1 g.2).symm) (fitO_in g.1 g.2).symm, rfl⟩

/- the reckoner: one cell, whether anything was too great -/
abbrev RcT : TypeId := 74
theorem kept_any (w : World) (rb : Nat) (o : Bool) (x : Int) (ok : Bool) (h : w.cell? ⟨rb, 0, none⟩ = some (.bool o)) (hf : w.frozen? ⟨rb, 0, none⟩ = false) :
    Calls Tryd.prog 50 #[.pointer (some ⟨rb, 0, none⟩), .int .i64 x, .bool ok] w fun e w' => e = .returned (.int .i64 x) ∧ w' = w.setCell ⟨rb, 0, none⟩ (.bool (o || !ok)) := by
  cases o <;> cases ok
  all_goals go_enter Tryd.func50, Tryd.ntmps50
  all_goals go_wp2_with fail
  all_goals go_ret
  all_goals exact ⟨rfl, rfl⟩
theorem radd_any (w : World) (rb : Nat) (o : Bool) (a b : Int) (h : w.cell? ⟨rb, 0, none⟩ = some (.bool o)) (hf : w.frozen? ⟨rb, 0, none⟩ = false) (ha : In64 a) (hb : In64 b) :
    Calls Tryd.prog 31 #[.pointer (some ⟨rb, 0, none⟩), .int .i64 a, .int .i64 b] w fun e w' => e = .returned (.int .i64 (fitV (a + b))) ∧ w' = w.setCell ⟨rb, 0, none⟩ (.bool (o || !fitO (a + b))) := by
  have HA := hide (add_any a b w ha.1 ha.2 hb.1 hb.2)
  have HK := hide (kept_any w rb o (fitV (a + b)) (fitO (a + b)) h hf)
  clear ha hb h hf
  generalize fitV (a + b) = V at *
  generalize fitO (a + b) = O at *
  go_enter Tryd.func31, Tryd.ntmps31
  go_wp2_with fail
  refine (unhide HA).mono ?_
  rintro e w1 ⟨rfl, hw⟩
  have hw := hw.symm
  subst hw
  go_wp2_with fail
  refine (unhide HK).mono ?_
  rintro e w2 ⟨rfl, hw⟩
  subst hw
  go_wp2_with fail
  go_ret
  exact ⟨rfl, rfl⟩
theorem rmul_any (w : World) (rb : Nat) (o : Bool) (a b : Int) (h : w.cell? ⟨rb, 0, none⟩ = some (.bool o)) (hf : w.frozen? ⟨rb, 0, none⟩ = false) (ha : In64 a) (hb : In64 b) :
    Calls Tryd.prog 35 #[.pointer (some ⟨rb, 0, none⟩), .int .i64 a, .int .i64 b] w fun e w' => e = .returned (.int .i64 (fitV (a * b))) ∧ w' = w.setCell ⟨rb, 0, none⟩ (.bool (o || !fitO (a * b))) := by
  have HA := hide (mul_any a b w ha.1 ha.2 hb.1 hb.2)
  have HK := hide (kept_any w rb o (fitV (a * b)) (fitO (a * b)) h hf)
  clear ha hb h hf
  generalize fitV (a * b) = V at *
  generalize fitO (a * b) = O at *
  go_enter Tryd.func35, Tryd.ntmps35
  go_wp2_with fail
  refine (unhide HA).mono ?_
  rintro e w1 ⟨rfl, hw⟩
  have hw := hw.symm
  subst hw
  go_wp2_with fail
  refine (unhide HK).mono ?_
  rintro e w2 ⟨rfl, hw⟩
  subst hw
  go_wp2_with fail
  go_ret
  exact ⟨rfl, rfl⟩
end Go.Proofs.YtmbhamnkbpcljaaDoor.Line
