/- The contract of the project's finish. -/
import Derived.Test.YtcfbigkmhboepaaDoorDiffE
namespace Go.Proofs.YtcfbigkmhboepaaDoor.Line
open Go.ChangeShapes Go.WideShapes Go.ChangeAt Go.RowKit
set_option linter.unusedVariables false

set_option maxHeartbeats 4000000 in
set_option maxRecDepth 100000 in
theorem finish_any (u v : Value) (A B : List (List UInt8)) (w : World) (hu : Row w u A) (hv : Row w v B) (hA : A.length ≤ 1000000) (hB : B.length ≤ 1000000) : Calls Tryd.prog 30 #[u, v] w fun e w' => ∃ q : Nat, e = .returned (.int .i64 q) ∧ Edits.IsTail A B 0 q ∧ ∃ n, w' = w.drewN n := by
  obtain ⟨o, c, rfl, h1⟩ := hu.arg
  obtain ⟨o', c', rfl, h2⟩ := hv.arg
  have H1 := hide h1
  have H2 := hide h2
  clear h1 h2 hu hv
  go_enter Tryd.func30, Tryd.ntmps30
  go_wp2
  go_loopw [5] (fun q wr => ∃ i : Nat, i ≤ A.length ∧ i ≤ B.length ∧ q = .int .i64 i ∧ Hid (∀ j, j < i → A[A.length - 1 - j]? = B[B.length - 1 - j]?) ∧ ∃ n, wr = w.drewN n) (fun q _ => A.length - (intOf q).toNat)
  case atStart => exact ⟨0, Nat.zero_le _, Nat.zero_le _, rfl, hide (fun j h => by omega), 0, rfl⟩
  case round =>
    obtain ⟨i, hi, hi', rfl, HS, n, rfl⟩ := hrel
    by_cases g1 : i < A.length
    · have q1 : decide (i < A.length) = true := decide_eq_true g1
      by_cases g2 : i < B.length
      · have q2 : decide (i < B.length) = true := decide_eq_true g2
        have l1 : A.length - 1 - i < A.length := by omega
        have l2 : B.length - 1 - i < B.length := by omega
        obtain ⟨b, off, rfl, c1⟩ := unhide H1 (A.length - 1 - i) l1
        obtain ⟨b', off', rfl, c2⟩ := unhide H2 (B.length - 1 - i) l2
        have HEQ : Hid (A[A.length - 1 - i] = B[B.length - 1 - i] → A[A.length - 1 - i]? = B[B.length - 1 - i]?) := hide (fun h => by rw [List.getElem?_eq_getElem l1, List.getElem?_eq_getElem l2, h])
        have HNE : Hid (A[A.length - 1 - i] ≠ B[B.length - 1 - i] → Edits.IsTail A B 0 i) := hide (fun h => ⟨by omega, by omega, unhide HS, fun _ _ k => h (by rw [List.getElem?_eq_getElem l1, List.getElem?_eq_getElem l2] at k; exact Option.some.inj k)⟩)
        generalize A[A.length - 1 - i] = x at *
        generalize B[B.length - 1 - i] = y at *
        obtain ⟨k1, hk1⟩ : ∃ k, A.length - 1 - i = k := ⟨_, rfl⟩
        obtain ⟨k2, hk2⟩ : ∃ k, B.length - 1 - i = k := ⟨_, rfl⟩
        have e1 : (A.length : Int) - 1 - i = k1 := by omega
        have e2 : (B.length : Int) - 1 - i = k2 := by omega
        rw [hk1] at c1
        rw [hk2] at c2
        have z1 : (k1 : Int) < A.length := by omega
        have z2 : (k2 : Int) < B.length := by omega
        have HK := hide (And.intro hk1 hk2)
        clear hk1 hk2 l1 l2
        by_cases hx : x = y
        · subst hx
          go_wp2_with fail
          go_quiet (fail)
          go_wp2
          go_roundw
          case rel => exact ⟨i + 1, by omega, by omega, by go_num, hide (fun j hj => by
            by_cases e : j = i
            · subst e; exact unhide HEQ trivial
            · exact unhide HS j (by omega)), _, rfl⟩
          case measure => simp [intOf]; omega
        · have hxb : (x == y) = false := beq_eq_false_iff_ne.2 hx
          have HF := hide (unhide HNE hx)
          go_wp2_with fail
          go_quiet (fail)
          go_wp2
          go_ret
          exact ⟨i, rfl, unhide HF, _, World.drewN_drewN _ _ _⟩
      · have q2 : decide (i < B.length) = false := decide_eq_false g2
        have HF : Hid (Edits.IsTail A B 0 i) := hide ⟨by omega, by omega, unhide HS, fun _ h => absurd h (by omega)⟩
        go_wp2_with fail
        go_quiet (fail)
        go_wp2
        go_ret
        exact ⟨i, rfl, unhide HF, _, World.drewN_drewN _ _ _⟩
    · have q1 : decide (i < A.length) = false := decide_eq_false g1
      have HF : Hid (Edits.IsTail A B 0 i) := hide ⟨by omega, by omega, unhide HS, fun h => absurd h (by omega)⟩
      go_wp2_with fail
      go_quiet (fail)
      go_wp2
      go_ret
      exact ⟨i, rfl, unhide HF, _, World.drewN_drewN _ _ _⟩
theorem tail_from {A B : List (List UInt8)} {p q : Nat} (h1 : p ≤ A.length) (h2 : p ≤ B.length) (h : Edits.IsTail (A.drop p) (B.drop p) 0 q) : Edits.IsTail A B p q := by
  obtain ⟨k1, k2, k3, k4⟩ := h
  simp only [List.length_drop, Nat.zero_add] at k1 k2 k3 k4
  have e1 : ∀ j, j < A.length - p → (A.drop p)[A.length - p - 1 - j]? = A[A.length - 1 - j]? := fun j hj => by rw [List.getElem?_drop]; congr 1; omega
  have e2 : ∀ j, j < B.length - p → (B.drop p)[B.length - p - 1 - j]? = B[B.length - 1 - j]? := fun j hj => by rw [List.getElem?_drop]; congr 1; omega
  refine ⟨by omega, by omega, fun j hj => ?_, fun g1 g2 => ?_⟩
  · have := k3 j hj
    rwa [e1 j (by omega), e2 j (by omega)] at this
  · have := k4 (by omega) (by omega)
    rwa [e1 q (by omega), e2 q (by omega)] at this
end Go.Proofs.YtcfbigkmhboepaaDoor.Line
