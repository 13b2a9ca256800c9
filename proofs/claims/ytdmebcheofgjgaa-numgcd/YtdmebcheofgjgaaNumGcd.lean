/- What num.Gcd tells of two int32 numbers divides both, and is the greatest such; of a multiple it is the size: the law furrowlaw1.NumGcd returns true for every input. Conditions: none. -/
import Derived.Test.YtdmebcheofgjgaaRows
import Derived.WalkKit
import Derived.ProofKit
import Derived.OpenShut
import Derived.Test.YtdmebcheofgjgaaKnown
import Derived.Test.YtdmebcheofgjgaaPlainGcd
import Derived.Deep.QuietTactic
import Derived.BigQuiet
namespace Go.Proofs.Ytdmebcheofgjgaa.numGcd
open Go.ChangeShapes Go.WideShapes Go.ChangeAt Go.RowKit
set_option linter.unusedVariables false      -- a walk need not use every 'w<i>' (that an integer argument fits its kind)

theorem own : ownKnob Try.prog.godebug = none := by kernel_rfl

open Plain
theorem gcd_none (w : World) :
    Calls Try.prog 8 #[.int .i32 0, .int .i32 0] w fun e w' => e = .returned (.bool true) ∧ Grown w w' := by
  have hg : Int.gcd 0 0 = 0 := rfl
  go_enter Try.func8, Try.ntmps8
  go_wp2_with (first
    | (go_at_call 9; refine (Num.known_any _).mono ?_; rintro e w' ⟨rfl, n, rfl⟩)
    | (go_at_call 20; refine (Num.gcd_any _ _ _ (by omega) (by omega) (by omega) (by omega)).mono ?_; rintro e w' ⟨rfl, n, rfl⟩))
  go_ret
  exact ⟨rfl, Grown.refl _⟩
theorem gcd_one (a1 : Int) (w : World) (h3 : -2147483648 ≤ a1) (h4 : a1 ≤ 2147483647) (hz : ¬ a1 = 0) :
    Calls Try.prog 8 #[.int .i32 0, .int .i32 a1] w fun e w' => e = .returned (.bool true) ∧ Grown w w' := by
  have hn : ¬ ((0 : Int) = 0 ∧ a1 = 0) := fun h => hz h.2
  have hp := gcd_pos hn
  have hl := gcd_le (a := 0) (b := a1) (by omega) (by omega) h3 h4
  have m1 := gcd_tmod_left 0 a1
  have m2 := gcd_tmod_right 0 a1
  have m3 := gcd_swap 0 a1
  have hz' : (a1 == 0) = false := by simpa using hz
  obtain ⟨G, eG⟩ : ∃ G, Int.gcd 0 a1 = G := ⟨_, rfl⟩
  rw [eG] at hp hl m1 m2 m3
  have hg0 : ((G : Int) == 0) = false := by simp; omega
  have hg1 : ¬ (G : Int) = 0 := by omega
  clear hn
  go_enter Try.func8, Try.ntmps8
  go_wp2_with (first
    | (go_at_call 9; refine (Num.known_any _).mono ?_; rintro e w' ⟨rfl, n, rfl⟩)
    | (go_at_call 20; refine (Num.gcd_any _ _ _ (by omega) (by omega) (by omega) (by omega)).mono ?_; rintro e w' ⟨rfl, n, rfl⟩))
  go_ret
  exact ⟨rfl, Grown.refl _⟩
theorem gcd_two (a0 a1 : Int) (w : World) (h1 : -2147483648 ≤ a0) (h2 : a0 ≤ 2147483647) (h3 : -2147483648 ≤ a1) (h4 : a1 ≤ 2147483647) (hz : ¬ a0 = 0) :
    Calls Try.prog 8 #[.int .i32 a0, .int .i32 a1] w fun e w' => e = .returned (.bool true) ∧ Grown w w' := by
  have hn : ¬ (a0 = 0 ∧ a1 = 0) := fun h => hz h.1
  have hp := gcd_pos hn
  have hl := gcd_le h1 h2 h3 h4
  have m1 := gcd_tmod_left a0 a1
  have m2 := gcd_tmod_right a0 a1
  have m3 := gcd_swap a0 a1
  have m4 := gcd_multiple a0 (a1.tmod 1000)
  have m5 := gcd_rest a0 a1 hn
  have hz' : (a0 == 0) = false := by simpa using hz
  have ht := tmod_lt a1 1000 (by omega)
  obtain ⟨T, eT⟩ : ∃ T, a1.tmod 1000 = T := ⟨_, rfl⟩
  obtain ⟨G, eG⟩ : ∃ G, Int.gcd a0 a1 = G := ⟨_, rfl⟩
  rw [eG] at hp hl m1 m2 m3 m5
  rw [eT] at m4 ht
  have hg0 : ((G : Int) == 0) = false := by simp; omega
  have hg1 : ¬ (G : Int) = 0 := by omega
  have hM : (a0 * T).natAbs ≤ 2147483648 * 1000 := by rw [Int.natAbs_mul]; exact Nat.mul_le_mul (by omega) (by omega)
  obtain ⟨M, eM⟩ : ∃ M, a0 * T = M := ⟨_, rfl⟩
  rw [eM] at hM m4
  have hM1 : -2147483648000 ≤ M := by omega
  have hM2 : M ≤ 2147483648000 := by omega
  have eW : wrap64 M = M := wrap64_self _ (by omega) (by omega)
  have hq : ∀ x : Int, -2147483648 ≤ x → x ≤ 2147483647 → -2147483648 ≤ x.tdiv G ∧ x.tdiv G ≤ 2147483648 := by
    intro x k1 k2
    have h : (x.tdiv G).natAbs = x.natAbs / (G : Int).natAbs := Int.natAbs_tdiv x G
    have g : x.natAbs / (G : Int).natAbs ≤ x.natAbs := Nat.div_le_self _ _
    omega
  obtain ⟨q1, q2⟩ := hq a0 h1 h2
  obtain ⟨q3, q4⟩ := hq a1 h3 h4
  clear hn hM hq
  by_cases hs : a0 < 0
  · have m6 : ((Int.gcd a0 M : Nat) : Int) = -a0 := by rw [m4]; omega
    clear m4
    go_enter Try.func8, Try.ntmps8
    go_wp2_with (first
      | (go_at_call 9; refine (Num.known_any _).mono ?_; rintro e w' ⟨rfl, n, rfl⟩)
      | (go_at_call 20; refine (Num.gcd_any _ _ _ (by omega) (by omega) (by omega) (by omega)).mono ?_; rintro e w' ⟨rfl, n, rfl⟩))
    generalize hW : World.drewN w _ = W
    have HG : Hid (Grown w W) := by subst hW; exact Grown.refl _
    clear hW
    go_quiet ((go_at_call 20; exact Calls.quiet_of (Num.gcd_any _ _ _ (by omega) (by omega) (by omega) (by omega))))
    go_wp2
    go_ret
    exact ⟨rfl, HG.out⟩
  · have hs' : 0 ≤ a0 := by omega
    have m6 : ((Int.gcd a0 M : Nat) : Int) = a0 := by rw [m4]; omega
    have m7 : a0 % (G : Int) = 0 := by rw [← Int.tmod_eq_emod_of_nonneg hs']; exact m1
    have m8 : (a0 / (G : Int)).gcd (a1.tdiv G) = 1 := by rw [← Int.tdiv_eq_ediv_of_nonneg hs']; exact m5
    have q5 : -2147483648 ≤ a0 / (G : Int) := by rw [← Int.tdiv_eq_ediv_of_nonneg hs']; exact q1
    have q6 : a0 / (G : Int) ≤ 2147483648 := by rw [← Int.tdiv_eq_ediv_of_nonneg hs']; exact q2
    clear hs
    clear m4
    go_enter Try.func8, Try.ntmps8
    go_wp2_with (first
      | (go_at_call 9; refine (Num.known_any _).mono ?_; rintro e w' ⟨rfl, n, rfl⟩)
      | (go_at_call 20; refine (Num.gcd_any _ _ _ (by omega) (by omega) (by omega) (by omega)).mono ?_; rintro e w' ⟨rfl, n, rfl⟩))
    generalize hW : World.drewN w _ = W
    have HG : Hid (Grown w W) := by subst hW; exact Grown.refl _
    clear hW
    go_quiet ((go_at_call 20; exact Calls.quiet_of (Num.gcd_any _ _ _ (by omega) (by omega) (by omega) (by omega))))
    go_wp2
    go_ret
    exact ⟨rfl, HG.out⟩

/-! ### STEP 1: THE WALK: the Go text returns true. 'Grown w w'': the world has at most new blocks (Derived/RowKit3.lean). Part the cases AHEAD of 'go_enter' where a test parts the walk; take each callee by a contract of your own. -/
theorem walk (a0 : Int) (a1 : Int) (w0 : (Lit.int .i32 a0).wf = true) (w1 : (Lit.int .i32 a1).wf = true) (w : World) :
    Calls Try.prog 8 #[.int .i32 a0, .int .i32 a1] w fun e w' => e = .returned (.bool true) ∧ Grown w w' := by
  obtain ⟨h1, h2⟩ := bounds_i32 w0
  obtain ⟨h3, h4⟩ := bounds_i32 w1
  by_cases hz : a0 = 0
  · subst hz
    by_cases hy : a1 = 0
    · subst hy; exact gcd_none w
    · exact gcd_one a1 w h3 h4 hy
  · exact gcd_two a0 a1 w h1 h2 h3 h4 hz

/-! ### THE ROW's STEP: WRITTEN OUT: LEAVE IT -/
set_option maxRecDepth 100000 in
theorem lifted (os : Os) (started : os.Started) (H : Type) (enc : TypeId × Value → H) :
    ReturnsInHanded {} Try.checked os 8 .any (Rows.numGcdSpec.pre6 enc Try.prog Try.f8 Rows.numGcdRow.domain false) (Rows.numGcdSpec.post enc Try.prog Try.f8 false true false false) := by
  refine returnsInHanded_of_change (C := Try.checked) own started (by kernel_rfl) Try.func8
    (ChangeSpec.witness6 (enc := enc) (C := Try.checked) false ⟨#[], #[.int .i32 0, .int .i32 0], []⟩ 8 (by kernel_rfl) (by kernel_rfl) (by kernel_rfl) (by kernel_rfl)) ?_
  intro W base args ds gs before hval0 hW hcnd _
  have hval : ∀ (j : Nat) t v, Try.f8.params[j]? = some t → args[j]? = some v → Value.okWide Try.prog W .any base t v := hval0
  have hW' := hW
  obtain ⟨p, q, hA0, hV, rfl, hfz, hnd⟩ := hW
  have hA : DataW.TrodAll enc Try.prog W 0 (fun _ => true) true Try.f8.params.toList args.toList ds p := hA0
  rw [Try.params8] at hA hval
  obtain ⟨v0, vs0, d0, ds0, p0, q0, hargs, rfl, rfl, h0, r0⟩ := trodAll_cons hA
  obtain ⟨v1, vs1, d1, ds1, p1, q1, rfl, rfl, rfl, h1, r1⟩ := trodAll_cons r0
  obtain ⟨rfl, rfl, rfl⟩ := trodAll_nil r1
  obtain rfl : args = #[v0, v1] := by cases args; simp_all
  obtain ⟨rfl, rfl⟩ := trodVars_none hV
  obtain ⟨a0, rfl, rfl, rfl, w0⟩ := open_int Try.underlying21 (hval 0 21 v0 rfl rfl) h0
  obtain ⟨a1, rfl, rfl, rfl, w1⟩ := open_int Try.underlying21 (hval 1 21 v1 rfl rfl) h1
  clear hA0 hval0
  simp only [List.append_nil] at hW'
  refine (walk a0 a1 w0 w1 W).mono fun e W' ⟨he, hg⟩ => ?_
  subst he
  exact ⟨_, rfl, post_of_same (pa := []) (pv := []) hW' (fun _ _ _ => (trodAll_cons_mk (shut_bool Try.underlying4 _) trodAll_mk0)) (fun sp _ => (trodAll_cons_mk (shut_int Try.underlying21 w0) (trodAll_cons_mk (shut_int Try.underlying21 w1) trodAll_mk0))) (fun _ _ => rfl) rfl
    (hg.frame _) hg.2.1 (ok_one (by kernel_rfl) rfl (okWide_bool_mk Try.underlying4 _))⟩

theorem over : Rows.numGcdRow.holds Try.pinned (OpenSpec.ofChange Rows.numGcdSpec) :=
  OpenClaim.holds_of_wide 8 Try.f8 rfl rfl rfl rfl rfl rfl rfl ⟨rfl, rfl, rfl, rfl, rfl⟩ rfl rfl rfl rfl rfl (by kernel_rfl) Try.func8 (by kernel_rfl)
    (of_decide_eq_true (by kernel_rfl)) (by unfold Func.isWrapper; first | (rw [if_pos (by decide +kernel)]; kernel_rfl) | (rw [if_neg (by decide +kernel)]; exact ⟨rfl, rfl⟩))
    (fun os started H enc _ => lifted os started H enc)

/-- ████ THE STATEMENT ████ -/
theorem proved : Rows.NumGcdSaid :=
  over
#print axioms proved
end Go.Proofs.Ytdmebcheofgjgaa.numGcd

namespace Go.Proofs.Ytdmebcheofgjgaa
theorem numGcd_holds : Rows.NumGcdSaid := numGcd.proved
end Go.Proofs.Ytdmebcheofgjgaa
