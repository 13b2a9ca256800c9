/- Parts of rows of lines, in whichever world they are cut; heads and tails exist. -/
import Derived.Test.YtcfbigkmhboepaaDoorSlice
import Derived.Test.YtcfbigkmhboepaaDoorPlainEdit
namespace Go.Proofs.YtcfbigkmhboepaaDoor.Line
open Go.ChangeShapes Go.WideShapes Go.ChangeAt Go.RowKit
set_option linter.unusedVariables false

/-- x[lo:hi] -/
theorem slice_runW {w : World} {lv : Value} {L : List (List UInt8)} (hL : Row w lv L) (lo hi : Nat) (h1 : lo ≤ hi) (h2 : hi ≤ L.length) :
    ∃ a c, (∀ W, (Instr.slice 22 lv (some (.int .i64 lo)) (some (.int .i64 hi)) none).run Tryd.prog W = .ok (.slice a (hi - lo) c) W) ∧ Row w (.slice a (hi - lo) c) ((L.drop lo).take (hi - lo)) := by
  obtain ⟨a, cap, rfl, hc, h⟩ := hL.cut lo hi h1 h2
  exact ⟨_, _, fun W => run_slice2 a _ cap lo hi h1 (by omega), h⟩
/-- x[lo:] -/
theorem slice_restW {w : World} {lv : Value} {L : List (List UInt8)} (hL : Row w lv L) (lo : Nat) (h1 : lo ≤ L.length) :
    ∃ a c, (∀ W, (Instr.slice 22 lv (some (.int .i64 lo)) none none).run Tryd.prog W = .ok (.slice a (L.length - lo) c) W) ∧ Row w (.slice a (L.length - lo) c) (L.drop lo) := by
  obtain ⟨a, cap, rfl, hc, h⟩ := hL.cut lo L.length h1 (Nat.le_refl _)
  rw [List.take_of_length_le (by simp)] at h
  exact ⟨_, _, fun W => run_slice1 a _ cap lo h1 hc, h⟩
theorem tail_ex (A B : List (List UInt8)) : ∃ q, Edits.IsTail A B 0 q := by
  have step : ∀ k, (∃ q, Edits.IsTail A B 0 q) ∨ (k ≤ A.length ∧ k ≤ B.length ∧ ∀ j, j < k → A[A.length - 1 - j]? = B[B.length - 1 - j]?) := by
    intro k
    induction k with
    | zero => exact .inr ⟨Nat.zero_le _, Nat.zero_le _, fun j h => by omega⟩
    | succ k ih =>
      rcases ih with h | ⟨h1, h2, h3⟩
      · exact .inl h
      · by_cases g : k < A.length ∧ k < B.length ∧ A[A.length - 1 - k]? = B[B.length - 1 - k]?
        · exact .inr ⟨g.1, g.2.1, fun j hj => by
            by_cases e : j = k
            · subst e; exact g.2.2
            · exact h3 j (by omega)⟩
        · exact .inl ⟨k, by omega, by omega, h3, fun a b e => g ⟨by omega, by omega, e⟩⟩
  rcases step (A.length + 1) with h | ⟨h, _⟩
  · exact h
  · omega
theorem head_ex (A B : List (List UInt8)) : ∃ p, Edits.IsHead A B p := by
  have step : ∀ k, (∃ p, Edits.IsHead A B p) ∨ (k ≤ A.length ∧ k ≤ B.length ∧ ∀ j, j < k → A[j]? = B[j]?) := by
    intro k
    induction k with
    | zero => exact .inr ⟨Nat.zero_le _, Nat.zero_le _, fun j h => by omega⟩
    | succ k ih =>
      rcases ih with h | ⟨h1, h2, h3⟩
      · exact .inl h
      · by_cases g : k < A.length ∧ k < B.length ∧ A[k]? = B[k]?
        · exact .inr ⟨g.1, g.2.1, fun j hj => by
            by_cases e : j = k
            · subst e; exact g.2.2
            · exact h3 j (by omega)⟩
        · exact .inl ⟨k, h1, h2, h3, fun a b e => g ⟨a, b, e⟩⟩
  rcases step (A.length + 1) with h | ⟨h, _⟩
  · exact h
  · omega
end Go.Proofs.YtcfbigkmhboepaaDoor.Line
