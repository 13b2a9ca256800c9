/- A linear form in words, plain. -/
import Derived.Test.YtmbhamnkbpcljaaDoorLnPl2
import Derived.Lib.ItoaLen
namespace Go.Proofs.YtmbhamnkbpcljaaDoor.Line
set_option linter.unusedVariables false

def signT (first neg : Bool) : List UInt8 := if first then (if neg then [45] else []) else if neg then [32, 45, 32] else [32, 43, 32]
def nameT (names : List (List UInt8)) (i : Nat) : List UInt8 := if i < names.length ∧ names.getD i [] ≠ [] then names.getD i [] else 120 :: Lib.decDigits i
def oneT (c : Int) (nm : List UInt8) : List UInt8 := if c = 1 ∨ c = -1 then nm else Lib.decDigits c.natAbs ++ 42 :: nm
def termT (s : List UInt8) (c : Int) (nm : List UInt8) : List UInt8 := s ++ signT s.isEmpty (decide (c < 0)) ++ oneT c nm
def textGo (names : List (List UInt8)) : Nat → List UInt8 → List Int → List UInt8
  | _, s, [] => s
  | i, s, c :: r => textGo names (i + 1) (if c = 0 then s else termT s c (nameT names i)) r
def finT (s : List UInt8) (k : Int) : List UInt8 := if k ≠ 0 ∨ s = [] then s ++ signT s.isEmpty (decide (k < 0)) ++ Lib.decDigits k.natAbs else s
def textF (c : List Int) (k : Int) (names : List (List UInt8)) : List UInt8 := finT (textGo names 0 [] c) k
theorem textGo_step {names : List (List UInt8)} {i : Nat} {s : List UInt8} {c : List Int} (h : i < c.length) : textGo names i s (c.drop i) = textGo names (i + 1) (if c[i] = 0 then s else termT s c[i] (nameT names i)) (c.drop (i + 1)) := by
  rw [List.drop_eq_getElem_cons h]
  rfl
theorem decDigits_le (u : Nat) (h : u < 18446744073709551616) : (Lib.decDigits u).length ≤ 20 := by
  have h20 : ∀ (k u : Nat), u < 10 ^ (k + 1) → (Lib.decDigits u).length ≤ k + 1 := by
    intro k
    induction k with
    | zero => intro u h; unfold Lib.decDigits; rw [dif_pos (by omega)]; exact Nat.le_refl _
    | succ k ih =>
      intro u h
      unfold Lib.decDigits
      split
      · simp
      · have := ih (u / 10) (by rw [Nat.pow_succ] at h; omega)
        simp only [List.length_append, List.length_cons, List.length_nil]
        omega
  exact h20 19 u (by omega)
theorem signT_le (a b : Bool) : (signT a b).length ≤ 3 := by cases a <;> cases b <;> decide
theorem nameT_le (names : List (List UInt8)) (NB : Nat) (i : Nat) (hi : i < 18446744073709551616) (h : ∀ x ∈ names, x.length ≤ NB) : (nameT names i).length ≤ NB + 21 := by
  unfold nameT
  split
  · rename_i hh
    have : names.getD i [] = names[i]'hh.1 := by simp [hh.1]
    rw [this]
    have := h _ (List.getElem_mem hh.1)
    omega
  · have := decDigits_le i hi
    simp only [List.length_cons]
    omega
theorem oneT_le (c : Int) (nm : List UInt8) (h : c.natAbs < 18446744073709551616) : (oneT c nm).length ≤ nm.length + 21 := by
  unfold oneT
  split
  · omega
  · have := decDigits_le c.natAbs h
    simp only [List.length_append, List.length_cons]
    omega
theorem termT_le (s : List UInt8) (c : Int) (nm : List UInt8) (h : c.natAbs < 18446744073709551616) : (termT s c nm).length ≤ s.length + nm.length + 24 := by
  unfold termT
  have h1 := signT_le s.isEmpty (decide (c < 0))
  have h2 := oneT_le c nm h
  simp only [List.length_append]
  omega
end Go.Proofs.YtmbhamnkbpcljaaDoor.Line
