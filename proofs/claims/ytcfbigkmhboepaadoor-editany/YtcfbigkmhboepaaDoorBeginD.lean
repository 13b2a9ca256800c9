/- The contract of the project's begin. -/
import Derived.Test.YtcfbigkmhboepaaDoorDiffE
namespace Go.Proofs.YtcfbigkmhboepaaDoor.Line
open Go.ChangeShapes Go.WideShapes Go.ChangeAt Go.RowKit
set_option linter.unusedVariables false

set_option maxHeartbeats 4000000 in
set_option maxRecDepth 100000 in
theorem begin_any (u v : Value) (A B : List (List UInt8)) (w : World) (hu : Row w u A) (hv : Row w v B) (hA : A.length ≤ 1000000) (hB : B.length ≤ 1000000) : Calls Tryd.prog 29 #[u, v] w fun e w' => ∃ p : Nat, e = .returned (.int .i64 p) ∧ Edits.IsHead A B p ∧ ∃ n, w' = w.drewN n := by
  obtain ⟨o, c, rfl, h1⟩ := hu.arg
  obtain ⟨o', c', rfl, h2⟩ := hv.arg
  have H1 := hide h1
  have H2 := hide h2
  clear h1 h2 hu hv
  go_enter Tryd.func29, Tryd.ntmps29
  go_wp2
  go_loopw [5] (fun q wr => ∃ i : Nat, i ≤ A.length ∧ i ≤ B.length ∧ q = .int .i64 i ∧ Hid (∀ j, j < i → A[j]? = B[j]?) ∧ ∃ n, wr = w.drewN n) (fun q _ => A.length - (intOf q).toNat)
  case atStart => exact ⟨0, Nat.zero_le _, Nat.zero_le _, rfl, hide (fun j h => by omega), 0, rfl⟩
  case round =>
    obtain ⟨i, hi, hi', rfl, HS, n, rfl⟩ := hrel
    by_cases g1 : i < A.length
    · have q1 : decide (i < A.length) = true := decide_eq_true g1
      by_cases g2 : i < B.length
      · have q2 : decide (i < B.length) = true := decide_eq_true g2
        obtain ⟨b, off, rfl, c1⟩ := unhide H1 i g1
        obtain ⟨b', off', rfl, c2⟩ := unhide H2 i g2
        have g1' : (i : Int) < A.length := by omega
        have g2' : (i : Int) < B.length := by omega
        by_cases hx : A[i] = B[i]
        · have HX : Hid (A[i]? = B[i]?) := hide (by rw [List.getElem?_eq_getElem g1, List.getElem?_eq_getElem g2, hx])
          rw [← hx] at c2
          clear hx
          generalize A[i] = x at *
          go_wp2_with fail
          go_quiet (fail)
          go_wp2
          go_roundw
          case rel => exact ⟨i + 1, by omega, by omega, by go_num, hide (fun j hj => by
            by_cases e : j = i
            · subst e; exact unhide HX
            · exact unhide HS j (by omega)), _, rfl⟩
          case measure => simp [intOf]; omega
        · have HF : Hid (Edits.IsHead A B i) := hide ⟨hi, hi', unhide HS, fun _ _ h => hx (by rw [List.getElem?_eq_getElem g1, List.getElem?_eq_getElem g2] at h; exact Option.some.inj h)⟩
          generalize A[i] = x at *
          generalize B[i] = y at *
          have hxb : (x == y) = false := beq_eq_false_iff_ne.2 hx
          go_wp2_with fail
          go_quiet (fail)
          go_wp2
          go_ret
          exact ⟨i, rfl, unhide HF, _, World.drewN_drewN _ _ _⟩
      · have q2 : decide (i < B.length) = false := decide_eq_false g2
        have HF : Hid (Edits.IsHead A B i) := hide ⟨hi, hi', unhide HS, fun _ h => absurd h g2⟩
        go_wp2_with fail
        go_quiet (fail)
        go_wp2
        go_ret
        exact ⟨i, rfl, unhide HF, _, World.drewN_drewN _ _ _⟩
    · have q1 : decide (i < A.length) = false := decide_eq_false g1
      have HF : Hid (Edits.IsHead A B i) := hide ⟨hi, hi', unhide HS, fun h => absurd h g1⟩
      go_wp2_with fail
      go_quiet (fail)
      go_wp2
      go_ret
      exact ⟨i, rfl, unhide HF, _, World.drewN_drewN _ _ _⟩
end Go.Proofs.YtcfbigkmhboepaaDoor.Line
