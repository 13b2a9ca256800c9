/- Of any two int32 numbers the quotient rounded down is the one below, rounded up the one above, and they part by one just where there is a rest; by 0 there is none: the law furrowlaw1.NumRounds returns true for every input. Conditions: none. -/
import Derived.Test.YtdmebcheofgjgaaRows
import Derived.WalkKit
import Derived.ProofKit
import Derived.OpenShut
import Derived.Test.YtdmebcheofgjgaaKnown
import Derived.Test.YtdmebcheofgjgaaPlainTwo
namespace Go.Proofs.Ytdmebcheofgjgaa.numRounds
open Go.ChangeShapes Go.WideShapes Go.ChangeAt Go.RowKit
set_option linter.unusedVariables false      -- a walk need not use every 'w<i>' (that an integer argument fits its kind)

theorem own : ownKnob Try.prog.godebug = none := by kernel_rfl

open Plain
theorem rounds_zero (a0 : Int) (w : World) (h1 : -2147483648 ≤ a0) (h2 : a0 ≤ 2147483647) :
    Calls Try.prog 6 #[.int .i32 a0, .int .i32 0] w fun e w' => e = .returned (.bool true) ∧ Grown w w' := by
  have hq : quoO a0 0 = false := by unfold quoO; exact decide_eq_false (by simp)
  go_enter Try.func6, Try.ntmps6
  go_wp2_with (first
    | (go_at_call 9; refine (Num.known_any _).mono ?_; rintro e w' ⟨rfl, n, rfl⟩)
    | (go_at_call 13; refine (Num.floor_any _ _ _ (by omega) (by omega) (by omega) (by omega)).mono ?_; rintro e w' ⟨rfl, n, rfl⟩)
    | (go_at_call 14; refine (Num.ceil_any _ _ _ (by omega) (by omega) (by omega) (by omega)).mono ?_; rintro e w' ⟨rfl, n, rfl⟩))
  go_ret
  exact ⟨rfl, Grown.refl _⟩

theorem rounds_some (a0 a1 : Int) (w : World) (h1 : -2147483648 ≤ a0) (h2 : a0 ≤ 2147483647) (h3 : -2147483648 ≤ a1) (h4 : a1 ≤ 2147483647) (hz : ¬ a1 = 0) :
    Calls Try.prog 6 #[.int .i32 a0, .int .i32 a1] w fun e w' => e = .returned (.bool true) ∧ Grown w w' := by
  obtain ⟨hq, hr0, hr1, hf, hp, hn, hs⟩ := rounds a0 a1 h1 h2 h3 h4 hz
  have hz' : (a1 == 0) = false := by simpa using hz
  obtain ⟨F, eF⟩ : ∃ F, floorV a0 a1 = F := ⟨_, rfl⟩
  obtain ⟨C, eC⟩ : ∃ C, ceilV a0 a1 = C := ⟨_, rfl⟩
  obtain ⟨Q, eQ⟩ : ∃ Q, a0.tdiv a1 = Q := ⟨_, rfl⟩
  rw [eF] at hr0 hr1 hf hp hn hs
  rw [eC] at hr0 hr1 hp hn hs
  rw [eQ] at hr0 hf
  have e1 : wrap64 (F * a1) = F * a1 := wrap64_self _ (by omega) (by omega)
  have e2 : wrap64 (C * a1) = C * a1 := wrap64_self _ (by omega) (by omega)
  have e3 : wrap64 Q = Q := wrap64_self _ (by omega) (by omega)
  obtain ⟨P1, eP1⟩ : ∃ P1, F * a1 = P1 := ⟨_, rfl⟩
  obtain ⟨P2, eP2⟩ : ∃ P2, C * a1 = P2 := ⟨_, rfl⟩
  rw [eP1] at hn hs hp e1
  rw [eP2] at hn hs hp e2
  by_cases ht : a0.tmod a1 = 0
  · obtain ⟨rfl, rfl⟩ := hr0 ht
    have hPP : P1 = P2 := by rw [← eP1, ← eP2]
    subst hPP
    clear hr1 e2 eP2
    by_cases hsg : a1 < 0
    · have hn := hn hsg
      clear hs
      go_enter Try.func6, Try.ntmps6
      go_wp2_with (first
        | (go_at_call 9; refine (Num.known_any _).mono ?_; rintro e w' ⟨rfl, n, rfl⟩)
        | (go_at_call 13; refine (Num.floor_any _ _ _ (by omega) (by omega) (by omega) (by omega)).mono ?_; rintro e w' ⟨rfl, n, rfl⟩)
        | (go_at_call 14; refine (Num.ceil_any _ _ _ (by omega) (by omega) (by omega) (by omega)).mono ?_; rintro e w' ⟨rfl, n, rfl⟩))
      go_ret
      exact ⟨rfl, Grown.refl _⟩
    · have hsg' : 0 < a1 := by omega
      have hs := hs hsg'
      clear hn
      go_enter Try.func6, Try.ntmps6
      go_wp2_with (first
        | (go_at_call 9; refine (Num.known_any _).mono ?_; rintro e w' ⟨rfl, n, rfl⟩)
        | (go_at_call 13; refine (Num.floor_any _ _ _ (by omega) (by omega) (by omega) (by omega)).mono ?_; rintro e w' ⟨rfl, n, rfl⟩)
        | (go_at_call 14; refine (Num.ceil_any _ _ _ (by omega) (by omega) (by omega) (by omega)).mono ?_; rintro e w' ⟨rfl, n, rfl⟩))
      go_ret
      exact ⟨rfl, Grown.refl _⟩
  · have hr1 := hr1 ht
    subst hr1
    have ht' : (a0.tmod a1 == 0) = false := by simpa using ht
    clear hr0 e3
    by_cases hsg : a1 < 0
    · have hn := hn hsg
      clear hs
      go_enter Try.func6, Try.ntmps6
      go_wp2_with (first
        | (go_at_call 9; refine (Num.known_any _).mono ?_; rintro e w' ⟨rfl, n, rfl⟩)
        | (go_at_call 13; refine (Num.floor_any _ _ _ (by omega) (by omega) (by omega) (by omega)).mono ?_; rintro e w' ⟨rfl, n, rfl⟩)
        | (go_at_call 14; refine (Num.ceil_any _ _ _ (by omega) (by omega) (by omega) (by omega)).mono ?_; rintro e w' ⟨rfl, n, rfl⟩))
      go_ret
      exact ⟨rfl, Grown.refl _⟩
    · have hsg' : 0 < a1 := by omega
      have hs := hs hsg'
      clear hn
      go_enter Try.func6, Try.ntmps6
      go_wp2_with (first
        | (go_at_call 9; refine (Num.known_any _).mono ?_; rintro e w' ⟨rfl, n, rfl⟩)
        | (go_at_call 13; refine (Num.floor_any _ _ _ (by omega) (by omega) (by omega) (by omega)).mono ?_; rintro e w' ⟨rfl, n, rfl⟩)
        | (go_at_call 14; refine (Num.ceil_any _ _ _ (by omega) (by omega) (by omega) (by omega)).mono ?_; rintro e w' ⟨rfl, n, rfl⟩))
      go_ret
      exact ⟨rfl, Grown.refl _⟩

/-! ### STEP 1: THE WALK: the Go text returns true. 'Grown w w'': the world has at most new blocks (Derived/RowKit3.lean). Part the cases AHEAD of 'go_enter' where a test parts the walk; take each callee by a contract of your own. -/
theorem walk (a0 : Int) (a1 : Int) (w0 : (Lit.int .i32 a0).wf = true) (w1 : (Lit.int .i32 a1).wf = true) (w : World) :
    Calls Try.prog 6 #[.int .i32 a0, .int .i32 a1] w fun e w' => e = .returned (.bool true) ∧ Grown w w' := by
  obtain ⟨h1, h2⟩ := bounds_i32 w0
  obtain ⟨h3, h4⟩ := bounds_i32 w1
  by_cases hz : a1 = 0
  · subst hz; exact rounds_zero a0 w h1 h2
  · exact rounds_some a0 a1 w h1 h2 h3 h4 hz

/-! ### THE ROW's STEP: WRITTEN OUT: LEAVE IT -/
set_option maxRecDepth 100000 in
theorem lifted (os : Os) (started : os.Started) (H : Type) (enc : TypeId × Value → H) :
    ReturnsInHanded {} Try.checked os 6 .any (Rows.numRoundsSpec.pre6 enc Try.prog Try.f6 Rows.numRoundsRow.domain false) (Rows.numRoundsSpec.post enc Try.prog Try.f6 false true false false) := by
  refine returnsInHanded_of_change (C := Try.checked) own started (by kernel_rfl) Try.func6
    (ChangeSpec.witness6 (enc := enc) (C := Try.checked) false ⟨#[], #[.int .i32 0, .int .i32 0], []⟩ 8 (by kernel_rfl) (by kernel_rfl) (by kernel_rfl) (by kernel_rfl)) ?_
  intro W base args ds gs before hval0 hW hcnd _
  have hval : ∀ (j : Nat) t v, Try.f6.params[j]? = some t → args[j]? = some v → Value.okWide Try.prog W .any base t v := hval0
  have hW' := hW
  obtain ⟨p, q, hA0, hV, rfl, hfz, hnd⟩ := hW
  have hA : DataW.TrodAll enc Try.prog W 0 (fun _ => true) true Try.f6.params.toList args.toList ds p := hA0
  rw [Try.params6] at hA hval
  obtain ⟨v0, vs0, d0, ds0, p0, q0, hargs, rfl, rfl, h0, r0⟩ := trodAll_cons hA
  obtain ⟨v1, vs1, d1, ds1, p1, q1, rfl, rfl, rfl, h1, r1⟩ := trodAll_cons r0
  obtain ⟨rfl, rfl, rfl⟩ := trodAll_nil r1
  obtain rfl : args = #[v0, v1] := by cases args; simp_all
  obtain ⟨rfl, rfl⟩ := trodVars_none hV
  obtain ⟨a0, rfl, rfl, rfl, w0⟩ := open_int Try.underlying21 (hval 0 21 v0 rfl rfl) h0
  obtain ⟨a1, rfl, rfl, rfl, w1⟩ := open_int Try.underlying21 (hval 1 21 v1 rfl rfl) h1
  clear hA0 hval0
  simp only [List.append_nil] at hW'
  refine (walk a0 a1 w0 w1 W).mono fun e W' ⟨he, hg⟩ => ?_
  subst he
  exact ⟨_, rfl, post_of_same (pa := []) (pv := []) hW' (fun _ _ _ => (trodAll_cons_mk (shut_bool Try.underlying4 _) trodAll_mk0)) (fun sp _ => (trodAll_cons_mk (shut_int Try.underlying21 w0) (trodAll_cons_mk (shut_int Try.underlying21 w1) trodAll_mk0))) (fun _ _ => rfl) rfl
    (hg.frame _) hg.2.1 (ok_one (by kernel_rfl) rfl (okWide_bool_mk Try.underlying4 _))⟩

theorem over : Rows.numRoundsRow.holds Try.pinned (OpenSpec.ofChange Rows.numRoundsSpec) :=
  OpenClaim.holds_of_wide 6 Try.f6 rfl rfl rfl rfl rfl rfl rfl ⟨rfl, rfl, rfl, rfl, rfl⟩ rfl rfl rfl rfl rfl (by kernel_rfl) Try.func6 (by kernel_rfl)
    (of_decide_eq_true (by kernel_rfl)) (by unfold Func.isWrapper; first | (rw [if_pos (by decide +kernel)]; kernel_rfl) | (rw [if_neg (by decide +kernel)]; exact ⟨rfl, rfl⟩))
    (fun os started H enc _ => lifted os started H enc)

/-- ████ THE STATEMENT ████ -/
theorem proved : Rows.NumRoundsSaid :=
  over
#print axioms proved
end Go.Proofs.Ytdmebcheofgjgaa.numRounds

namespace Go.Proofs.Ytdmebcheofgjgaa
theorem numRounds_holds : Rows.NumRoundsSaid := numRounds.proved
end Go.Proofs.Ytdmebcheofgjgaa
