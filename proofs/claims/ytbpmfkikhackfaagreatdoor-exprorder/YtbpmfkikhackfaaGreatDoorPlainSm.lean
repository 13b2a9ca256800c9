/- Plain: what is read has few parts everywhere. Nothing of the program is named. -/
import Derived.Test.YtbpmfkikhackfaaGreatDoorPlainExpr
namespace Go.Proofs.YtbpmfkikhackfaaGreatDoor.Ex
set_option linter.unusedVariables false
open Words (T)

theorem sm_leaf (k n : Int) (s : List UInt8) : Sm (.mk k n s []) := .mk _ (by simp [E.a]) (fun y hy => by cases hy)
theorem sm_one {k n : Int} {s : List UInt8} {x : E} (h : Sm x) : Sm (.mk k n s [x]) := .mk _ (by simp [E.a]) (fun y hy => by rw [List.mem_singleton.1 hy]; exact h)
theorem sm_two {k n : Int} {s : List UInt8} {x y : E} (h : Sm x) (h2 : Sm y) : Sm (.mk k n s [x, y]) := .mk _ (by simp [E.a]) (fun z hz => by
  rcases List.mem_cons.1 hz with rfl | hz
  · exact h
  · rw [List.mem_singleton.1 hz]; exact h2)
def AllSm (l : List T) (f : Nat) : Prop :=
  (∀ d s r, pExpr l f d s = some r → Sm r.1) ∧ (∀ d e s r, Sm e → pSums l f d e s = some r → Sm r.1) ∧
  (∀ d s r, pTerm l f d s = some r → Sm r.1) ∧ (∀ d e s r, Sm e → pProds l f d e s = some r → Sm r.1) ∧
  (∀ d s r, pFactor l f d s = some r → Sm r.1) ∧ (∀ d s r, pSubs l f d s = some r → r.1.length ≤ 5 ∧ ∀ y ∈ r.1, Sm y) ∧
  (∀ d xs s r, xs.length ≤ 5 → (∀ y ∈ xs, Sm y) → pMore l f d xs s = some r → r.1.length ≤ 5 ∧ ∀ y ∈ r.1, Sm y)
theorem allSm (l : List T) : ∀ f, AllSm l f := by
  intro f
  induction f with
  | zero => exact ⟨fun _ _ _ h => by simp [pExpr] at h, fun _ _ _ _ _ h => by simp [pSums] at h, fun _ _ _ h => by simp [pTerm] at h, fun _ _ _ _ _ h => by simp [pProds] at h, fun _ _ _ h => by simp [pFactor] at h, fun _ _ _ h => by simp [pSubs] at h, fun _ _ _ _ _ _ h => by simp [pMore] at h⟩
  | succ f ih =>
    obtain ⟨iE, iS, iT, iP, iF, iU, iM⟩ := ih
    refine ⟨?_, ?_, ?_, ?_, ?_, ?_, ?_⟩
    · intro d s r h
      rw [pExpr] at h
      cases h1 : pTerm l f d s with
      | none => rw [h1] at h; cases h
      | some x => rw [h1] at h; exact iS _ _ _ _ (iT _ _ _ h1) h
    · intro d e s r he h
      rw [pSums] at h
      split at h
      · cases h1 : pTerm l f d s.next with
        | none => rw [h1] at h; cases h
        | some x => rw [h1] at h; exact iS _ _ _ _ (sm_two he (iT _ _ _ h1)) h
      · split at h
        · cases h1 : pTerm l f d s.next with
          | none => rw [h1] at h; cases h
          | some x => rw [h1] at h; exact iS _ _ _ _ (sm_two he (iT _ _ _ h1)) h
        · injection h with h; subst h; exact he
    · intro d s r h
      rw [pTerm] at h
      cases h1 : pFactor l f d s with
      | none => rw [h1] at h; cases h
      | some x => rw [h1] at h; exact iP _ _ _ _ (iF _ _ _ h1) h
    · intro d e s r he h
      rw [pProds] at h
      split at h
      · cases h1 : pFactor l f d s.next with
        | none => rw [h1] at h; cases h
        | some x => rw [h1] at h; exact iP _ _ _ _ (sm_two he (iF _ _ _ h1)) h
      · split at h
        · cases h1 : pFactor l f d s.next with
          | none => rw [h1] at h; cases h
          | some x => rw [h1] at h; exact iP _ _ _ _ (sm_two he (iF _ _ _ h1)) h
        · injection h with h; subst h; exact he
    · intro d s r h
      rw [pFactor] at h
      split at h
      · injection h with h; subst h; exact sm_leaf _ _ _
      · split at h
        · injection h with h; subst h; exact sm_leaf _ _ _
        · split at h
          · injection h with h; subst h; exact sm_leaf _ _ _
          · split at h
            · split at h
              · cases h1 : pSubs l f d s.next.next with
                | none => rw [h1] at h; cases h
                | some x =>
                  rw [h1] at h
                  injection h with h
                  subst h
                  obtain ⟨k1, k2⟩ := iU _ _ _ h1
                  exact .mk _ (by show x.1.length ≤ 1000; omega) k2
              · injection h with h; subst h; exact sm_leaf _ _ _
            · split at h
              · split at h
                · injection h with h; subst h; exact sm_leaf _ _ _
                · split at h
                  · cases h1 : pFactor l f (d + 1) s.next with
                    | none => rw [h1] at h; cases h
                    | some x => rw [h1] at h; injection h with h; subst h; exact sm_one (iF _ _ _ h1)
                  · cases h1 : pExpr l f (d + 1) s.next with
                    | none => rw [h1] at h; cases h
                    | some x => rw [h1] at h; injection h with h; subst h; show Sm x.1; exact iE _ _ _ h1
              · injection h with h; subst h; exact sm_leaf _ _ _
    · intro d s r h
      rw [pSubs] at h
      cases h1 : pExpr l f d s with
      | none => rw [h1] at h; cases h
      | some x => rw [h1] at h; exact iM _ _ _ _ (by simp) (fun y hy => by rw [List.mem_singleton.1 hy]; exact iE _ _ _ h1) h
    · intro d xs s r hl hx h
      rw [pMore] at h
      split at h
      · split at h
        · injection h with h; subst h; exact ⟨hl, hx⟩
        · rename_i h4
          cases h1 : pExpr l f d s.next with
          | none => rw [h1] at h; cases h
          | some x =>
            rw [h1] at h
            refine iM _ _ _ _ (by rw [List.length_append, List.length_singleton]; omega) (fun y hy => ?_) h
            rcases List.mem_append.1 hy with hy | hy
            · exact hx y hy
            · rw [List.mem_singleton.1 hy]; exact iE _ _ _ h1
      · injection h with h; subst h; exact ⟨hl, hx⟩
theorem RExpr.sm {l : List T} {d : Nat} {s : St} {r : E × St} (h : RExpr l d s r) : Sm r.1 := by
  obtain ⟨f, h⟩ := h
  exact (allSm l f).1 d s r h
end Go.Proofs.YtbpmfkikhackfaaGreatDoor.Ex
