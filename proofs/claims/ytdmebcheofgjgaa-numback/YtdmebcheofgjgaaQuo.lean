/- Contracts of the rounded quotients: num.Floor, num.Ceil and the reference's. -/
import Derived.Test.YtdmebcheofgjgaaSmall
namespace Go.Proofs.Ytdmebcheofgjgaa.Num
open Go.ChangeShapes Go.WideShapes Go.ChangeAt Go.RowKit Plain
set_option linter.unusedVariables false

theorem floor_any (a b : Int) (w : World) (h1 : -9223372036854775808 ≤ a) (h2 : a ≤ 9223372036854775807)  (h3 : -9223372036854775808 ≤ b) (h4 : b ≤ 9223372036854775807) :
    Calls Try.prog 13 #[.int .i64 a, .int .i64 b] w fun e w' => e = .returned (.tuple #[.int .i64 (floorV a b), .bool (quoO a b)]) ∧ ∃ n, w' = w.drewN n := by
  cases hq : quoO a b
  · rw [floor_none hq]
    go_enter Try.func13, Try.ntmps13
    go_wp2_with (go_at_call 29; refine (hasQuo_any _ _ _ h1 h2 h3 h4).mono ?_; rintro e w' ⟨rfl, rfl⟩)
    go_ret2
    exact ⟨rfl, 0, rfl⟩
  · have F := floor_is a b h1 h2 hq
    have hb := quo_ne hq
    have HF : Hid ((¬ ((0 < a.tmod b ∧ b < 0) ∨ (a.tmod b < 0 ∧ 0 < b)) → wrap64 (a.tdiv b) = floorV a b) ∧
    ((0 < a.tmod b ∧ b < 0) ∨ (a.tmod b < 0 ∧ 0 < b) → wrap64 (wrap64 (a.tdiv b) - 1) = floorV a b)) := F
    clear F
    go_enter Try.func13, Try.ntmps13
    go_wp2_with (go_at_call 29; refine (hasQuo_any _ _ _ h1 h2 h3 h4).mono ?_; rintro e w' ⟨rfl, rfl⟩)
    go_region
    all_goals go_wp2
    all_goals go_ret2
    all_goals first
      | exact ⟨ret_two (HF.out.1 (by omega)) rfl, 1, rfl⟩
      | exact ⟨ret_two (HF.out.2 (by omega)) rfl, 1, rfl⟩

theorem ceil_any (a b : Int) (w : World) (h1 : -9223372036854775808 ≤ a) (h2 : a ≤ 9223372036854775807)  (h3 : -9223372036854775808 ≤ b) (h4 : b ≤ 9223372036854775807) :
    Calls Try.prog 14 #[.int .i64 a, .int .i64 b] w fun e w' => e = .returned (.tuple #[.int .i64 (ceilV a b), .bool (quoO a b)]) ∧ ∃ n, w' = w.drewN n := by
  cases hq : quoO a b
  · rw [ceil_none hq]
    go_enter Try.func14, Try.ntmps14
    go_wp2_with (go_at_call 29; refine (hasQuo_any _ _ _ h1 h2 h3 h4).mono ?_; rintro e w' ⟨rfl, rfl⟩)
    go_ret2
    exact ⟨rfl, 0, rfl⟩
  · have F := ceil_is a b h1 h2 hq
    have hb := quo_ne hq
    have HF : Hid ((¬ ((0 < a.tmod b ∧ 0 < b) ∨ (a.tmod b < 0 ∧ b < 0)) → wrap64 (a.tdiv b) = ceilV a b) ∧
    ((0 < a.tmod b ∧ 0 < b) ∨ (a.tmod b < 0 ∧ b < 0) → wrap64 (wrap64 (a.tdiv b) + 1) = ceilV a b)) := F
    clear F
    go_enter Try.func14, Try.ntmps14
    go_wp2_with (go_at_call 29; refine (hasQuo_any _ _ _ h1 h2 h3 h4).mono ?_; rintro e w' ⟨rfl, rfl⟩)
    go_region
    all_goals go_wp2
    all_goals go_ret2
    all_goals first
      | exact ⟨ret_two (HF.out.1 (by omega)) rfl, 1, rfl⟩
      | exact ⟨ret_two (HF.out.2 (by omega)) rfl, 1, rfl⟩

theorem refFloor_any (a b : Int) (w : World) (h1 : -9223372036854775808 ≤ a) (h2 : a ≤ 9223372036854775807)  (h3 : -9223372036854775808 ≤ b) (h4 : b ≤ 9223372036854775807) :
    Calls Try.prog 18 #[.int .i64 a, .int .i64 b] w fun e w' => e = .returned (.tuple #[.int .i64 (floorV a b), .bool (quoO a b)]) ∧ w' = w := by
  cases hq : quoO a b
  · rw [floor_none hq]
    have hc : (b == 0) = true ∨ ((b == 0) = false ∧ (a == -9223372036854775808) = true ∧ (b == -1) = true) := by
      unfold quoO at hq; have := of_decide_eq_false hq; simp; omega
    clear hq
    rcases hc with hc | ⟨hb, ha, hc⟩
    all_goals
      go_enter Try.func18, Try.ntmps18
      go_wp2
      go_ret2
      exact ⟨rfl, rfl⟩
  · have F := floor_is a b h1 h2 hq
    have hb := quo_ne hq
    have hb' : (b == 0) = false := by simpa using hb
    have hq' := (of_decide_eq_true hq).2
    have HF : Hid ((¬ ((0 < a.tmod b ∧ b < 0) ∨ (a.tmod b < 0 ∧ 0 < b)) → wrap64 (a.tdiv b) = floorV a b) ∧
    ((0 < a.tmod b ∧ b < 0) ∨ (a.tmod b < 0 ∧ 0 < b) → wrap64 (wrap64 (a.tdiv b) - 1) = floorV a b)) := F
    clear F
    have hc : (a == -9223372036854775808) = true → (b == -1) = false := by simp at *; omega
    clear hq'
    cases ha : (a == -9223372036854775808)
    · clear hc
      go_enter Try.func18, Try.ntmps18
      go_wp2
      all_goals go_ret2
      · exact ⟨ret_two (HF.out.1 (by omega)) rfl, rfl⟩
      · exact ⟨ret_two (HF.out.2 (sign_differ hb ‹_› (And.right ‹_›))) rfl, rfl⟩
      · exact ⟨ret_two (HF.out.1 (by have := sign_same hb ‹_› (Or.resolve_left ‹_› (by simpa using ‹¬ a.tmod b = 0›)); omega)) rfl, rfl⟩
    · have hc := hc ha
      go_enter Try.func18, Try.ntmps18
      go_wp2
      all_goals go_ret2
      · exact ⟨ret_two (HF.out.1 (by omega)) rfl, rfl⟩
      · exact ⟨ret_two (HF.out.2 (sign_differ hb ‹_› (And.right ‹_›))) rfl, rfl⟩
      · exact ⟨ret_two (HF.out.1 (by have := sign_same hb ‹_› (Or.resolve_left ‹_› (by simpa using ‹¬ a.tmod b = 0›)); omega)) rfl, rfl⟩

theorem refCeil_any (a b : Int) (w : World) (h1 : -9223372036854775808 ≤ a) (h2 : a ≤ 9223372036854775807)  (h3 : -9223372036854775808 ≤ b) (h4 : b ≤ 9223372036854775807) :
    Calls Try.prog 19 #[.int .i64 a, .int .i64 b] w fun e w' => e = .returned (.tuple #[.int .i64 (ceilV a b), .bool (quoO a b)]) ∧ w' = w := by
  cases hq : quoO a b
  · rw [ceil_none hq]
    have hc : (b == 0) = true ∨ ((b == 0) = false ∧ (a == -9223372036854775808) = true ∧ (b == -1) = true) := by
      unfold quoO at hq; have := of_decide_eq_false hq; simp; omega
    clear hq
    rcases hc with hc | ⟨hb, ha, hc⟩
    all_goals
      go_enter Try.func19, Try.ntmps19
      go_wp2
      go_ret2
      exact ⟨rfl, rfl⟩
  · have F := ceil_is a b h1 h2 hq
    have hb := quo_ne hq
    have hb' : (b == 0) = false := by simpa using hb
    have hq' := (of_decide_eq_true hq).2
    have HF : Hid ((¬ ((0 < a.tmod b ∧ 0 < b) ∨ (a.tmod b < 0 ∧ b < 0)) → wrap64 (a.tdiv b) = ceilV a b) ∧
    ((0 < a.tmod b ∧ 0 < b) ∨ (a.tmod b < 0 ∧ b < 0) → wrap64 (wrap64 (a.tdiv b) + 1) = ceilV a b)) := F
    clear F
    have hc : (a == -9223372036854775808) = true → (b == -1) = false := by simp at *; omega
    clear hq'
    cases ha : (a == -9223372036854775808)
    · clear hc
      go_enter Try.func19, Try.ntmps19
      go_wp2
      all_goals go_ret2
      · exact ⟨ret_two (HF.out.1 (by omega)) rfl, rfl⟩
      · exact ⟨ret_two (HF.out.2 (sign_same hb ‹_› (by simpa using (And.right ‹(a.tmod b != 0) = true ∧ (decide (a < 0) == decide (b < 0)) = true›)))) rfl, rfl⟩
      · exact ⟨ret_two (HF.out.1 (by have := sign_differ hb ‹_› (by have := (Or.resolve_left ‹(a.tmod b != 0) = false ∨ (decide (a < 0) == decide (b < 0)) = false› (by simpa using ‹¬ a.tmod b = 0›)); rw [this]; rfl); omega)) rfl, rfl⟩
    · have hc := hc ha
      go_enter Try.func19, Try.ntmps19
      go_wp2
      all_goals go_ret2
      · exact ⟨ret_two (HF.out.1 (by omega)) rfl, rfl⟩
      · exact ⟨ret_two (HF.out.2 (sign_same hb ‹_› (by simpa using (And.right ‹(a.tmod b != 0) = true ∧ (decide (a < 0) == decide (b < 0)) = true›)))) rfl, rfl⟩
      · exact ⟨ret_two (HF.out.1 (by have := sign_differ hb ‹_› (by have := (Or.resolve_left ‹(a.tmod b != 0) = false ∨ (decide (a < 0) == decide (b < 0)) = false› (by simpa using ‹¬ a.tmod b = 0›)); rw [this]; rfl); omega)) rfl, rfl⟩

end Go.Proofs.Ytdmebcheofgjgaa.Num
