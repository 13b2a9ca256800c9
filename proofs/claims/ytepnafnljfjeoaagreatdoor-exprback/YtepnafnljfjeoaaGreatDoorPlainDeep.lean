/- Brackets and signs in one another: the texts that ExprDeep makes, and how they are read (plain; reckoned by the kernel). -/
import Derived.Test.YtepnafnljfjeoaaGreatDoorPlainAll
namespace Go.Proofs.YtepnafnljfjeoaaGreatDoor.Line
open Ex (E St)
set_option linter.unusedVariables false

def dBit (p i : Nat) : Bool := p / 2 ^ (i % 5) % 2 == 1
def dS (p k : Nat) : List UInt8 := (List.range k).map fun i => if dBit p i then 45 else 40
def dE (p k : Nat) : List UInt8 := (List.range k).flatMap fun i => if dBit p i then [] else [41]
theorem dS_succ (p k : Nat) : dS p (k + 1) = dS p k ++ [if dBit p k then 45 else 40] := by simp [dS, List.range_succ]
theorem dE_succ (p k : Nat) : dE p (k + 1) = dE p k ++ (if dBit p k then [] else [41]) := by simp [dE, List.range_succ]
theorem dS_length (p k : Nat) : (dS p k).length = k := by simp [dS]
theorem dE_length (p k : Nat) : (dE p k).length ≤ k := by
  induction k with
  | zero => simp [dE]
  | succ k ih =>
    rw [dE_succ, List.length_append]
    split
    · simp; omega
    · simp; omega
def dT (p k : Nat) : List UInt8 := dS p k ++ [120] ++ dE p k
def deepB (p k : Nat) : Bool :=
  (Words.toks (dT p k)).2 == (0, 0) &&
  match Ex.pExpr (Words.toks (dT p k)).1 200 0 ⟨0, 0, 0⟩ with
  | none => false
  | some (x, s) => if 20 < k then s.err == 4 && s.bad == 20 else s.err == 0 && s.pos == (Words.toks (dT p k)).1.length && decide (2 ≤ x.kind)
theorem deepB_all : ∀ k, k < 30 → ∀ p, p < 32 → deepB p k = true := by decide +kernel
theorem deep_read (p k : Nat) (hp : p < 32) (hk : k < 30) : (Words.toks (dT p k)).2.1 = 0 ∧ (Words.toks (dT p k)).2.2 = 0 ∧ ∃ x s, Ex.RExpr (Words.toks (dT p k)).1 0 ⟨0, 0, 0⟩ (x, s) ∧ (20 < k → s.err = 4 ∧ s.bad = 20) ∧ (¬ 20 < k → s.err = 0 ∧ s.pos = (Words.toks (dT p k)).1.length ∧ 2 ≤ x.kind) := by
  have h := deepB_all k hk p hp
  unfold deepB at h
  rw [Bool.and_eq_true] at h
  have h1 := eq_of_beq h.1
  have h2 := h.2
  refine ⟨by rw [h1], by rw [h1], ?_⟩
  cases hr : Ex.pExpr (Words.toks (dT p k)).1 200 0 ⟨0, 0, 0⟩ with
  | none => rw [hr] at h2; cases h2
  | some r =>
    obtain ⟨x, s⟩ := r
    rw [hr] at h2
    refine ⟨x, s, ⟨200, hr⟩, fun hlt => ?_, fun hge => ?_⟩
    · simp only [if_pos hlt, Bool.and_eq_true, beq_iff_eq] at h2
      exact h2
    · simp only [if_neg hge, Bool.and_eq_true, beq_iff_eq, decide_eq_true_eq] at h2
      exact ⟨h2.1.1, h2.1.2, h2.2⟩
end Go.Proofs.YtepnafnljfjeoaaGreatDoor.Line
