/- Contracts of the loops' counts: num.stepsDone, num.Times, num.Last and the reference's Times and Last. -/
import Derived.Test.YtdmebcheofgjgaaSmall
namespace Go.Proofs.Ytdmebcheofgjgaa.Num
open Go.ChangeShapes Go.WideShapes Go.ChangeAt Go.RowKit Plain
set_option linter.unusedVariables false

theorem stepsN_some {lo hi step : Int} (h : goesO lo hi step = true) : stepsN lo hi step = stepsV lo hi step := by unfold stepsN; rw [if_pos h]
theorem stepsN_none {lo hi step : Int} (h : goesO lo hi step = false) : stepsN lo hi step = 0 := by unfold stepsN; rw [if_neg (by simp [h])]
theorem stepsN_bounds (lo hi step : Int) (h1 : -9223372036854775808 ≤ lo) (h2 : lo ≤ 9223372036854775807) (h3 : -9223372036854775808 ≤ hi) (h4 : hi ≤ 9223372036854775807) :
    0 ≤ stepsN lo hi step ∧ stepsN lo hi step ≤ 18446744073709551615 := by
  have := steps_bounds lo hi step h1 h2 h3 h4
  unfold stepsN; split <;> omega

theorem steps_any (lo hi step : Int) (w : World) (h1 : -9223372036854775808 ≤ lo) (h2 : lo ≤ 9223372036854775807) (h3 : -9223372036854775808 ≤ hi) (h4 : hi ≤ 9223372036854775807) (h5 : -9223372036854775808 ≤ step) (h6 : step ≤ 9223372036854775807) :
    Calls Try.prog 31 #[.int .i64 lo, .int .i64 hi, .int .i64 step] w fun e w' => e = .returned (.tuple #[.int .u64 (stepsN lo hi step), .bool (goesO lo hi step)]) ∧ w' = w := by
  have hu := steps_up lo hi step h1 h2 h3 h4
  have hd := steps_down lo hi step h1 h2 h3 h4
  have HU : Hid (lo ≤ hi → IntKind.u64.wrap ((IntKind.u64.wrap (IntKind.u64.wrap hi - IntKind.u64.wrap lo)).tdiv (step.natAbs : Int)) = stepsV lo hi step) := hu
  have HD : Hid (hi ≤ lo → IntKind.u64.wrap ((IntKind.u64.wrap (IntKind.u64.wrap lo - IntKind.u64.wrap hi)).tdiv (step.natAbs : Int)) = stepsV lo hi step) := hd
  clear hu hd
  go_enter Try.func31, Try.ntmps31
  go_wp2_with (go_at_call 27; refine (size_any _ _ (by assumption) (by assumption)).mono ?_; rintro e w' ⟨rfl, hw⟩; have hw := hw.symm; subst hw)
  all_goals go_ret2
  all_goals first
    | exact ⟨ret_two (stepsN_none (goes_not (by omega))).symm (goes_not (by omega)).symm, rfl⟩
    | exact ⟨ret_two ((HD.out (by omega)).trans (stepsN_some (goes_down (by omega) (by omega))).symm) (goes_down (by omega) (by omega)).symm, rfl⟩
    | exact ⟨ret_two ((HU.out (by omega)).trans (stepsN_some (goes_up (by omega) (by omega))).symm) (goes_up (by omega) (by omega)).symm, rfl⟩

theorem times_any (lo hi step : Int) (w : World) (h1 : -9223372036854775808 ≤ lo) (h2 : lo ≤ 9223372036854775807) (h3 : -9223372036854775808 ≤ hi) (h4 : hi ≤ 9223372036854775807) (h5 : -9223372036854775808 ≤ step) (h6 : step ≤ 9223372036854775807) :
    Calls Try.prog 22 #[.int .i64 lo, .int .i64 hi, .int .i64 step] w fun e w' => e = .returned (.int .u64 (timesV lo hi step)) ∧ w' = w := by
  have hb := stepsN_bounds lo hi step h1 h2 h3 h4
  cases hg : goesO lo hi step
  · rw [times_none hg]
    go_enter Try.func22, Try.ntmps22
    go_wp2_with (go_at_call 31; refine (steps_any _ _ _ _ h1 h2 h3 h4 h5 h6).mono ?_; rintro e w' ⟨rfl, hw⟩; have hw := hw.symm; subst hw)
    go_ret
    exact ⟨rfl, rfl⟩
  · have hs := stepsN_some hg
    have HS : Hid (stepsN lo hi step = stepsV lo hi step) := hs
    clear hs
    cases hm : (stepsN lo hi step == 18446744073709551615)
    · have hm' : ¬ stepsN lo hi step = 18446744073709551615 := by simpa using hm
      go_enter Try.func22, Try.ntmps22
      go_wp2_with (go_at_call 31; refine (steps_any _ _ _ _ h1 h2 h3 h4 h5 h6).mono ?_; rintro e w' ⟨rfl, hw⟩; have hw := hw.symm; subst hw)
      go_ret
      exact ⟨ret_int (by rw [times_some hg (by rw [← HS.out]; exact hm'), ← HS.out]), rfl⟩
    · have hm' : Hid (stepsN lo hi step = 18446744073709551615) := (by simpa using hm : stepsN lo hi step = 18446744073709551615)
      go_enter Try.func22, Try.ntmps22
      go_wp2_with (go_at_call 31; refine (steps_any _ _ _ _ h1 h2 h3 h4 h5 h6).mono ?_; rintro e w' ⟨rfl, hw⟩; have hw := hw.symm; subst hw)
      go_ret
      exact ⟨ret_int (by rw [times_great hg (by rw [← HS.out]; exact hm'.out), ← HS.out]), rfl⟩

theorem last_any (lo hi step : Int) (w : World) (h1 : -9223372036854775808 ≤ lo) (h2 : lo ≤ 9223372036854775807) (h3 : -9223372036854775808 ≤ hi) (h4 : hi ≤ 9223372036854775807) (h5 : -9223372036854775808 ≤ step) (h6 : step ≤ 9223372036854775807) :
    Calls Try.prog 24 #[.int .i64 lo, .int .i64 hi, .int .i64 step] w fun e w' => e = .returned (.int .i64 (lastV lo hi step)) ∧ w' = w := by
  cases hg : goesO lo hi step
  · rw [last_none hg]
    go_enter Try.func24, Try.ntmps24
    go_wp2_with (go_at_call 31; refine (steps_any _ _ _ _ h1 h2 h3 h4 h5 h6).mono ?_; rintro e w' ⟨rfl, hw⟩; have hw := hw.symm; subst hw)
    go_ret
    exact ⟨rfl, rfl⟩
  · have hl := last_bounds lo hi step hg h1 h2 h3 h4
    have hr := last_round lo (stepsV lo hi step) step hl.1 hl.2
    rw [← last_some hg, ← stepsN_some hg] at hr
    have HR : Hid (wrap64 (IntKind.u64.wrap (IntKind.u64.wrap lo + IntKind.u64.wrap (stepsN lo hi step * IntKind.u64.wrap step))) = lastV lo hi step) := hr
    clear hr hl
    go_enter Try.func24, Try.ntmps24
    go_wp2_with (go_at_call 31; refine (steps_any _ _ _ _ h1 h2 h3 h4 h5 h6).mono ?_; rintro e w' ⟨rfl, hw⟩; have hw := hw.symm; subst hw)
    go_ret
    exact ⟨ret_int HR.out, rfl⟩

theorem refTimes_any (lo hi step : Int) (w : World) (h1 : -9223372036854775808 ≤ lo) (h2 : lo ≤ 9223372036854775807) (h3 : -9223372036854775808 ≤ hi) (h4 : hi ≤ 9223372036854775807) (h5 : -9223372036854775808 ≤ step) (h6 : step ≤ 9223372036854775807) :
    Calls Try.prog 23 #[.int .i64 lo, .int .i64 hi, .int .i64 step] w fun e w' => e = .returned (.int .u64 (timesV lo hi step)) ∧ w' = w := by
  cases hg : goesO lo hi step
  · rw [times_none hg]
    have hc := goes_not_cases hg
    clear hg
    by_cases hz : step = 0
    · subst hz
      go_enter Try.func23, Try.ntmps23
      go_wp2
      go_ret
      exact ⟨rfl, rfl⟩
    · have hz' : (step == 0) = false := by simpa using hz
      by_cases hs : 0 < step
      · have hl : hi < lo := by omega
        clear hc
        go_enter Try.func23, Try.ntmps23
        go_wp2
        go_ret
        exact ⟨rfl, rfl⟩
      · have hs' : step < 0 := by omega
        have hl : lo < hi := by omega
        clear hc
        go_enter Try.func23, Try.ntmps23
        go_wp2
        go_ret
        exact ⟨rfl, rfl⟩
  · have hu := steps_up lo hi step h1 h2 h3 h4
    have hd := steps_down lo hi step h1 h2 h3 h4
    have HU : Hid (lo ≤ hi → IntKind.u64.wrap ((IntKind.u64.wrap (IntKind.u64.wrap hi - IntKind.u64.wrap lo)).tdiv (step.natAbs : Int)) = stepsV lo hi step) := hu
    have HD : Hid (hi ≤ lo → IntKind.u64.wrap ((IntKind.u64.wrap (IntKind.u64.wrap lo - IntKind.u64.wrap hi)).tdiv (step.natAbs : Int)) = stepsV lo hi step) := hd
    clear hu hd
    have HB := steps_bounds lo hi step h1 h2 h3 h4
    have HB' : Hid (0 ≤ stepsV lo hi step ∧ stepsV lo hi step ≤ 18446744073709551615) := HB
    clear HB
    have HG : Hid (goesO lo hi step = true) := hg
    rcases goes_cases hg with ⟨hs, hl⟩ | ⟨hs, hl⟩
    · have hz' : (step == 0) = false := by simp; omega
      clear hg
      go_enter Try.func23, Try.ntmps23
      go_wp2_with (go_at_call 30; refine (refSize_any _ _ (by assumption) (by assumption)).mono ?_; rintro e w' ⟨rfl, hw⟩; have hw := hw.symm; subst hw)
      all_goals go_ret
      · have g := ‹(IntKind.u64.wrap _ == 18446744073709551615) = true›
        rw [HU.out hl] at g
        exact ⟨ret_int ((HU.out hl).trans (times_great HG.out (by simpa using g)).symm), rfl⟩
      · have g := ‹(IntKind.u64.wrap _ == 18446744073709551615) = false›
        rw [HU.out hl] at g
        have g : ¬ stepsV lo hi step = 18446744073709551615 := by simpa using g
        exact ⟨ret_int (by rw [HU.out hl, times_some HG.out g, IntKind.wrap_u64]; have := HB'.out; omega), rfl⟩
    · have hz' : (step == 0) = false := by simp; omega
      clear hg
      go_enter Try.func23, Try.ntmps23
      go_wp2_with (go_at_call 30; refine (refSize_any _ _ (by assumption) (by assumption)).mono ?_; rintro e w' ⟨rfl, hw⟩; have hw := hw.symm; subst hw)
      all_goals go_ret
      · have g := ‹(IntKind.u64.wrap _ == 18446744073709551615) = true›
        rw [HD.out hl] at g
        exact ⟨ret_int ((HD.out hl).trans (times_great HG.out (by simpa using g)).symm), rfl⟩
      · have g := ‹(IntKind.u64.wrap _ == 18446744073709551615) = false›
        rw [HD.out hl] at g
        have g : ¬ stepsV lo hi step = 18446744073709551615 := by simpa using g
        exact ⟨ret_int (by rw [HD.out hl, times_some HG.out g, IntKind.wrap_u64]; have := HB'.out; omega), rfl⟩

theorem refLast_any (lo hi step : Int) (w : World) (h1 : -9223372036854775808 ≤ lo) (h2 : lo ≤ 9223372036854775807) (h3 : -9223372036854775808 ≤ hi) (h4 : hi ≤ 9223372036854775807) (h5 : -9223372036854775808 ≤ step) (h6 : step ≤ 9223372036854775807) :
    Calls Try.prog 25 #[.int .i64 lo, .int .i64 hi, .int .i64 step] w fun e w' => e = .returned (.int .i64 (lastV lo hi step)) ∧ w' = w := by
  cases hg : goesO lo hi step
  · rw [last_none hg]
    have hc := goes_not_cases hg
    clear hg
    by_cases hz : step = 0
    · subst hz
      go_enter Try.func25, Try.ntmps25
      go_wp2
      go_ret
      exact ⟨rfl, rfl⟩
    · have hz' : (step == 0) = false := by simpa using hz
      by_cases hs : 0 < step
      · have hl : hi < lo := by omega
        clear hc
        go_enter Try.func25, Try.ntmps25
        go_wp2
        go_ret
        exact ⟨rfl, rfl⟩
      · have hs' : step < 0 := by omega
        have hl : lo < hi := by omega
        clear hc
        go_enter Try.func25, Try.ntmps25
        go_wp2
        go_ret
        exact ⟨rfl, rfl⟩
  · have hu := steps_up lo hi step h1 h2 h3 h4
    have hd := steps_down lo hi step h1 h2 h3 h4
    have HU : Hid (lo ≤ hi → IntKind.u64.wrap ((IntKind.u64.wrap (IntKind.u64.wrap hi - IntKind.u64.wrap lo)).tdiv (step.natAbs : Int)) = stepsV lo hi step) := hu
    have HD : Hid (hi ≤ lo → IntKind.u64.wrap ((IntKind.u64.wrap (IntKind.u64.wrap lo - IntKind.u64.wrap hi)).tdiv (step.natAbs : Int)) = stepsV lo hi step) := hd
    clear hu hd
    have hl := last_bounds lo hi step hg h1 h2 h3 h4
    have hr := last_round lo (stepsV lo hi step) step hl.1 hl.2
    rw [← last_some hg] at hr
    have HR : Hid (wrap64 (IntKind.u64.wrap (IntKind.u64.wrap lo + IntKind.u64.wrap (stepsV lo hi step * IntKind.u64.wrap step))) = lastV lo hi step) := hr
    clear hr hl
    rcases goes_cases hg with ⟨hs, hl⟩ | ⟨hs, hl⟩
    · have hz' : (step == 0) = false := by simp; omega
      clear hg
      go_enter Try.func25, Try.ntmps25
      go_wp2_with (go_at_call 30; refine (refSize_any _ _ (by assumption) (by assumption)).mono ?_; rintro e w' ⟨rfl, hw⟩; have hw := hw.symm; subst hw)
      all_goals go_ret
      exact ⟨ret_int (Eq.trans (by rw [HU.out hl, show IntKind.u64.wrap step = step by rw [IntKind.wrap_u64]; omega]) HR.out), rfl⟩
    · have hz' : (step == 0) = false := by simp; omega
      clear hg
      go_enter Try.func25, Try.ntmps25
      go_wp2_with (go_at_call 30; refine (refSize_any _ _ (by assumption) (by assumption)).mono ?_; rintro e w' ⟨rfl, hw⟩; have hw := hw.symm; subst hw)
      all_goals go_ret
      exact ⟨ret_int (Eq.trans (by rw [HD.out hl]) HR.out), rfl⟩

end Go.Proofs.Ytdmebcheofgjgaa.Num
