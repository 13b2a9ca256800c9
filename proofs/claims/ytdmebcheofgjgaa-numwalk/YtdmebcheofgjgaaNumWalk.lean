/- A loop walked turn by turn has as many turns as num.Times tells, and the last index that num.Last tells: the law furrowlaw1.NumWalk returns true for every three int16 numbers. Conditions: none. -/
import Derived.Test.YtdmebcheofgjgaaRows
import Derived.WalkKit
import Derived.ProofKit
import Derived.OpenShut
import Derived.Test.YtdmebcheofgjgaaKnown
import Derived.Test.YtdmebcheofgjgaaPlainWalk
namespace Go.Proofs.Ytdmebcheofgjgaa.numWalk
open Go.ChangeShapes Go.WideShapes Go.ChangeAt Go.RowKit
set_option linter.unusedVariables false      -- a walk need not use every 'w<i>' (that an integer argument fits its kind)

theorem own : ownKnob Try.prog.godebug = none := by kernel_rfl

open Plain
theorem walk_zero (a0 a1 : Int) (w : World) (h1 : -32768 ≤ a0) (h2 : a0 ≤ 32767) (h3 : -32768 ≤ a1) (h4 : a1 ≤ 32767) :
    Calls Try.prog 5 #[.int .i16 a0, .int .i16 a1, .int .i16 0] w fun e w' => e = .returned (.bool true) ∧ Grown w w' := by
  have hg : timesV a0 a1 0 = 0 := times_none (goes_not (by omega))
  go_enter Try.func5, Try.ntmps5
  go_wp2_with (first
    | (go_at_call 9; refine (Num.known_any _).mono ?_; rintro e w' ⟨rfl, n, rfl⟩)
    | (go_at_call 22; refine (Num.times_any _ _ _ _ (by omega) (by omega) (by omega) (by omega) (by omega) (by omega)).mono ?_; rintro e w' ⟨rfl, rfl⟩))
  go_ret
  exact ⟨rfl, Grown.refl _⟩
theorem walk_up (a0 a1 a2 : Int) (w : World) (h1 : -32768 ≤ a0) (h2 : a0 ≤ 32767) (h3 : -32768 ≤ a1) (h4 : a1 ≤ 32767) (h5 : 0 < a2) (h6 : a2 ≤ 32767) :
    Calls Try.prog 5 #[.int .i16 a0, .int .i16 a1, .int .i16 a2] w fun e w' => e = .returned (.bool true) ∧ Grown w w' := by
  have hz' : (a2 == 0) = false := by simp; omega
  go_enter Try.func5, Try.ntmps5
  go_wp2_with (go_at_call 9; refine (Num.known_any _).mono ?_; rintro e w' ⟨rfl, n, rfl⟩)
  go_loop [7, 8, 10] (fun c l x => ∃ (k : Nat) (L X : Int), c = .int .u64 k ∧ l = .int .i64 L ∧ x = .int .i64 X ∧ a0 ≤ X ∧ (k : Int) ≤ X - a0 ∧ X ≤ 65534 ∧ ((k = 0 ∧ Hid (X = a0) ∧ Hid (L = a0)) ∨ (0 < k ∧ Hid (L = X - a2) ∧ X - a2 ≤ a1)) ∧ Hid (X = a0 + k * a2)) (fun _ _ x => (a1 + 1 - intOf x).toNat)
  case atStart => exact ⟨0, a0, a0, rfl, rfl, rfl, by omega, by omega, by omega, Or.inl ⟨rfl, rfl, rfl⟩, (by show a0 = _; simp)⟩
  case round =>
    obtain ⟨k, L, X, rfl, rfl, rfl, hx, hk, hb, hc, HX⟩ := hrel
    by_cases hlt : X ≤ a1
    · clear hc
      go_wp2
      go_round
      case rel => exact ⟨k + 1, X, X + a2, by go_num, rfl, rfl, by omega, by omega, by omega, Or.inr ⟨by omega, (by show X = X + a2 - a2; omega), by omega⟩, (by show X + a2 = _; rw [HX.out, Int.natCast_add, Int.add_mul]; simp; omega)⟩
      case measure => simp [intOf]; omega
    · have hT : timesV a0 a1 a2 = k ∧ lastV a0 a1 a2 = L := by
        have hX := HX.out
        rcases hc with ⟨rfl, e1, e2⟩ | ⟨hk0, e2, hl⟩
        · have := e1.out
          have hg : goesO a0 a1 a2 = false := goes_not (by omega)
          rw [times_none hg, last_none hg, e2.out]; exact ⟨rfl, rfl⟩
        · have := count_up a0 a1 a2 k h5 hk0 (by omega) (by omega) (by omega)
          rw [this.1, this.2, e2.out, hX]; exact ⟨rfl, rfl⟩
      obtain ⟨eT, eL⟩ := hT
      clear hc HX
      go_wp2_with (first
        | (go_at_call 22; refine (Num.times_any _ _ _ _ (by omega) (by omega) (by omega) (by omega) (by omega) (by omega)).mono ?_; rintro e w' ⟨rfl, rfl⟩)
        | (go_at_call 24; refine (Num.last_any _ _ _ _ (by omega) (by omega) (by omega) (by omega) (by omega) (by omega)).mono ?_; rintro e w' ⟨rfl, rfl⟩))
      go_ret
      exact ⟨rfl, Grown.refl _⟩

theorem walk_down (a0 a1 a2 : Int) (w : World) (h1 : -32768 ≤ a0) (h2 : a0 ≤ 32767) (h3 : -32768 ≤ a1) (h4 : a1 ≤ 32767) (h5 : a2 < 0) (h6 : -32768 ≤ a2) :
    Calls Try.prog 5 #[.int .i16 a0, .int .i16 a1, .int .i16 a2] w fun e w' => e = .returned (.bool true) ∧ Grown w w' := by
  have hz' : (a2 == 0) = false := by simp; omega
  go_enter Try.func5, Try.ntmps5
  go_wp2_with (go_at_call 9; refine (Num.known_any _).mono ?_; rintro e w' ⟨rfl, n, rfl⟩)
  go_loop [7, 8, 10] (fun c l x => ∃ (k : Nat) (L X : Int), c = .int .u64 k ∧ l = .int .i64 L ∧ x = .int .i64 X ∧ X ≤ a0 ∧ (k : Int) ≤ a0 - X ∧ -65536 ≤ X ∧ ((k = 0 ∧ Hid (X = a0) ∧ Hid (L = a0)) ∨ (0 < k ∧ Hid (L = X - a2) ∧ a1 ≤ X - a2)) ∧ Hid (X = a0 + k * a2)) (fun _ _ x => (intOf x + 1 - a1).toNat)
  case atStart => exact ⟨0, a0, a0, rfl, rfl, rfl, by omega, by omega, by omega, Or.inl ⟨rfl, rfl, rfl⟩, (by show a0 = _; simp)⟩
  case round =>
    obtain ⟨k, L, X, rfl, rfl, rfl, hx, hk, hb, hc, HX⟩ := hrel
    by_cases hlt : a1 ≤ X
    · clear hc
      go_wp2
      go_round
      case rel => exact ⟨k + 1, X, X + a2, by go_num, rfl, rfl, by omega, by omega, by omega, Or.inr ⟨by omega, (by show X = X + a2 - a2; omega), by omega⟩, (by show X + a2 = _; rw [HX.out, Int.natCast_add, Int.add_mul]; simp; omega)⟩
      case measure => simp [intOf]; omega
    · have hT : timesV a0 a1 a2 = k ∧ lastV a0 a1 a2 = L := by
        have hX := HX.out
        rcases hc with ⟨rfl, e1, e2⟩ | ⟨hk0, e2, hl⟩
        · have := e1.out
          have hg : goesO a0 a1 a2 = false := goes_not (by omega)
          rw [times_none hg, last_none hg, e2.out]; exact ⟨rfl, rfl⟩
        · have := count_down a0 a1 a2 k h5 hk0 (by omega) (by omega) (by omega)
          rw [this.1, this.2, e2.out, hX]; exact ⟨rfl, rfl⟩
      obtain ⟨eT, eL⟩ := hT
      clear hc HX
      go_wp2_with (first
        | (go_at_call 22; refine (Num.times_any _ _ _ _ (by omega) (by omega) (by omega) (by omega) (by omega) (by omega)).mono ?_; rintro e w' ⟨rfl, rfl⟩)
        | (go_at_call 24; refine (Num.last_any _ _ _ _ (by omega) (by omega) (by omega) (by omega) (by omega) (by omega)).mono ?_; rintro e w' ⟨rfl, rfl⟩))
      go_ret
      exact ⟨rfl, Grown.refl _⟩

/-! ### STEP 1: THE WALK: the Go text returns true. 'Grown w w'': the world has at most new blocks (Derived/RowKit3.lean). Part the cases AHEAD of 'go_enter' where a test parts the walk; take each callee by a contract of your own. -/
theorem walk (a0 : Int) (a1 : Int) (a2 : Int) (w0 : (Lit.int .i16 a0).wf = true) (w1 : (Lit.int .i16 a1).wf = true) (w2 : (Lit.int .i16 a2).wf = true) (w : World) :
    Calls Try.prog 5 #[.int .i16 a0, .int .i16 a1, .int .i16 a2] w fun e w' => e = .returned (.bool true) ∧ Grown w w' := by
  obtain ⟨h1, h2⟩ := bounds_i16 w0
  obtain ⟨h3, h4⟩ := bounds_i16 w1
  obtain ⟨h5, h6⟩ := bounds_i16 w2
  by_cases hz : a2 = 0
  · subst hz; exact walk_zero a0 a1 w h1 h2 h3 h4
  · by_cases hs : 0 < a2
    · exact walk_up a0 a1 a2 w h1 h2 h3 h4 hs h6
    · exact walk_down a0 a1 a2 w h1 h2 h3 h4 (by omega) h5

/-! ### THE ROW's STEP: WRITTEN OUT: LEAVE IT -/
set_option maxRecDepth 100000 in
theorem lifted (os : Os) (started : os.Started) (H : Type) (enc : TypeId × Value → H) :
    ReturnsInHanded {} Try.checked os 5 .any (Rows.numWalkSpec.pre6 enc Try.prog Try.f5 Rows.numWalkRow.domain false) (Rows.numWalkSpec.post enc Try.prog Try.f5 false true false false) := by
  refine returnsInHanded_of_change (C := Try.checked) own started (by kernel_rfl) Try.func5
    (ChangeSpec.witness6 (enc := enc) (C := Try.checked) false ⟨#[], #[.int .i16 0, .int .i16 0, .int .i16 0], []⟩ 8 (by kernel_rfl) (by kernel_rfl) (by kernel_rfl) (by kernel_rfl)) ?_
  intro W base args ds gs before hval0 hW hcnd _
  have hval : ∀ (j : Nat) t v, Try.f5.params[j]? = some t → args[j]? = some v → Value.okWide Try.prog W .any base t v := hval0
  have hW' := hW
  obtain ⟨p, q, hA0, hV, rfl, hfz, hnd⟩ := hW
  have hA : DataW.TrodAll enc Try.prog W 0 (fun _ => true) true Try.f5.params.toList args.toList ds p := hA0
  rw [Try.params5] at hA hval
  obtain ⟨v0, vs0, d0, ds0, p0, q0, hargs, rfl, rfl, h0, r0⟩ := trodAll_cons hA
  obtain ⟨v1, vs1, d1, ds1, p1, q1, rfl, rfl, rfl, h1, r1⟩ := trodAll_cons r0
  obtain ⟨v2, vs2, d2, ds2, p2, q2, rfl, rfl, rfl, h2, r2⟩ := trodAll_cons r1
  obtain ⟨rfl, rfl, rfl⟩ := trodAll_nil r2
  obtain rfl : args = #[v0, v1, v2] := by cases args; simp_all
  obtain ⟨rfl, rfl⟩ := trodVars_none hV
  obtain ⟨a0, rfl, rfl, rfl, w0⟩ := open_int Try.underlying31 (hval 0 31 v0 rfl rfl) h0
  obtain ⟨a1, rfl, rfl, rfl, w1⟩ := open_int Try.underlying31 (hval 1 31 v1 rfl rfl) h1
  obtain ⟨a2, rfl, rfl, rfl, w2⟩ := open_int Try.underlying31 (hval 2 31 v2 rfl rfl) h2
  clear hA0 hval0
  simp only [List.append_nil] at hW'
  refine (walk a0 a1 a2 w0 w1 w2 W).mono fun e W' ⟨he, hg⟩ => ?_
  subst he
  exact ⟨_, rfl, post_of_same (pa := []) (pv := []) hW' (fun _ _ _ => (trodAll_cons_mk (shut_bool Try.underlying4 _) trodAll_mk0)) (fun sp _ => (trodAll_cons_mk (shut_int Try.underlying31 w0) (trodAll_cons_mk (shut_int Try.underlying31 w1) (trodAll_cons_mk (shut_int Try.underlying31 w2) trodAll_mk0)))) (fun _ _ => rfl) rfl
    (hg.frame _) hg.2.1 (ok_one (by kernel_rfl) rfl (okWide_bool_mk Try.underlying4 _))⟩

theorem over : Rows.numWalkRow.holds Try.pinned (OpenSpec.ofChange Rows.numWalkSpec) :=
  OpenClaim.holds_of_wide 5 Try.f5 rfl rfl rfl rfl rfl rfl rfl ⟨rfl, rfl, rfl, rfl, rfl⟩ rfl rfl rfl rfl rfl (by kernel_rfl) Try.func5 (by kernel_rfl)
    (of_decide_eq_true (by kernel_rfl)) (by unfold Func.isWrapper; first | (rw [if_pos (by decide +kernel)]; kernel_rfl) | (rw [if_neg (by decide +kernel)]; exact ⟨rfl, rfl⟩))
    (fun os started H enc _ => lifted os started H enc)

/-- ████ THE STATEMENT ████ -/
theorem proved : Rows.NumWalkSaid :=
  over
#print axioms proved
end Go.Proofs.Ytdmebcheofgjgaa.numWalk

namespace Go.Proofs.Ytdmebcheofgjgaa
theorem numWalk_holds : Rows.NumWalkSaid := numWalk.proved
end Go.Proofs.Ytdmebcheofgjgaa
