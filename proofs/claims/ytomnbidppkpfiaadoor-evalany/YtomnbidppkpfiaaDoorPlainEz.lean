/- Plain: where something is wrong the number is 0. Nothing of the program is named. -/
import Derived.Test.YtomnbidppkpfiaaDoorPlainEv
namespace Go.Proofs.YtomnbidppkpfiaaDoor.Ev
open Go.RowKit
open Ex (E)
set_option linter.unusedVariables false

theorem cellGo_zero : ∀ (l ds : List Int) (k : Nat) (a p : Int), (cellGo k l ds a p).err ≠ 0 → (cellGo k l ds a p).v = 0
  | [], ds, k, a, p, h => by rw [cellGo] at h; exact absurd rfl h
  | s :: r, [], k, a, p, h => by rw [cellGo] at h; exact absurd rfl h
  | s :: r, d :: ds, k, a, p, h => by
    rw [cellGo] at h ⊢
    split
    · rfl
    · rename_i h2
      rw [if_neg h2] at h
      exact cellGo_zero r ds _ _ _ h
theorem valP_zero (T : List Sy) (s : List Int) (x : E) (l : List Int) (h : (valP T s x l).err ≠ 0) : (valP T s x l).v = 0 := by
  unfold valP at h ⊢
  split
  · rename_i h1; rw [if_pos h1] at h; exact absurd rfl h
  rename_i h1
  rw [if_neg h1] at h
  split
  · rename_i h2
    rw [if_pos h2] at h
    unfold heldP at h ⊢
    split
    · rfl
    · rename_i h3
      rw [if_neg h3] at h
      split at h <;> exact absurd rfl h
  rename_i h2
  rw [if_neg h2] at h
  split
  · rename_i h3; rw [if_pos h3] at h; exact absurd rfl h
  rename_i h3
  rw [if_neg h3] at h
  split
  · rename_i h4; rw [if_pos h4] at h; exact absurd rfl h
  rename_i h4
  rw [if_neg h4] at h
  split
  · rename_i h5; rw [if_pos h5] at h; exact absurd rfl h
  rename_i h5
  rw [if_neg h5] at h
  split
  · rename_i h6; rw [if_pos h6] at h; exact absurd rfl h
  rename_i h6
  rw [if_neg h6] at h
  split
  · rename_i h7
    rw [if_pos h7] at h
    unfold quoP at h ⊢
    split
    · rfl
    · rename_i h8; rw [if_neg h8] at h; exact absurd rfl h
  · rename_i h7; rw [if_neg h7] at h; exact absurd rfl h
theorem ev_zero (T : List Sy) (s : List Int) : ∀ (x : E), (ev T s x).err ≠ 0 → (ev T s x).v = 0 := by
  refine E.ind _ ?_
  intro x ih h
  have hp : ∀ y ∈ parts x, (ev T s y).err ≠ 0 → (ev T s y).v = 0 := fun y hy => by
    unfold parts at hy
    split at hy
    · exact ih y hy
    · cases hy
  rw [ev_eq] at h ⊢
  have key : ∀ l, (∀ y ∈ l, (ev T s y).err ≠ 0 → (ev T s y).v = 0) → ∀ r, evs T s l = .inl r → r.v = 0 := by
    intro l
    induction l with
    | nil => intro _ r h; rw [evs] at h; cases h
    | cons y q ih2 =>
      intro hl r h
      rw [evs] at h
      split at h
      · rename_i h2; injection h with h; subst h; exact hl y (by simp) h2
      · split at h
        · rename_i h2; injection h with h; subst h; exact ih2 (fun z hz => hl z (by simp [hz])) _ h2
        · cases h
  cases he : evs T s (parts x) with
  | inl r => exact key _ hp r he
  | inr l =>
    rw [he] at h
    exact valP_zero T s x l h
end Go.Proofs.YtomnbidppkpfiaaDoor.Ev
