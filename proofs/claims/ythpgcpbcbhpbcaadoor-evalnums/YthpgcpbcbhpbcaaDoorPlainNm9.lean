/- Plain: what the four signs come to, of two names. Nothing of the program is named. -/
import Derived.Test.YthpgcpbcbhpbcaaDoorPlainKn9
namespace Go.Proofs.YthpgcpbcbhpbcaaDoor.Ev
open Go.RowKit
open Ex (E)
set_option linter.unusedVariables false

def s12 (a b : Int) : List Int := ((List.replicate 12 0).set 7 a).set 8 b
def opE (k : Int) : E := .mk k 0 [] [xE, yE]
def numV (a b : Int) : Nat → Int
  | 0 => wrap64 (a + b)
  | 1 => wrap64 (a - b)
  | 2 => wrap64 (a * b)
  | _ => wrap64 (a.tdiv b)
theorem nm_two (a b : Int) : evs (tabN 1) (s12 a b) [xE, yE] = .inr [a, b] := rfl
theorem nm_parts (k : Nat) (hk : k < 4) : parts (opE (5 + k)) = [xE, yE] := if_pos ⟨show (3 : Int) ≤ 5 + k by omega, show (5 + k : Int) ≤ 8 by omega⟩
theorem nm_ok (a b : Int) (k : Nat) (hk : k < 4) (h : ¬ (k = 3 ∧ b = 0)) : ev (tabN 1) (s12 a b) (opE (5 + k)) = .ok (numV a b k) := by
  rw [ev_eq, nm_parts k hk, nm_two]
  have : k = 0 ∨ k = 1 ∨ k = 2 ∨ k = 3 := by omega
  rcases this with rfl | rfl | rfl | rfl
  · rfl
  · rfl
  · rfl
  · show quoP a b = _
    unfold quoP
    rw [if_neg (fun e => h ⟨rfl, e⟩)]
    rfl
theorem nm_bad (a : Int) : ev (tabN 1) (s12 a 0) (opE (5 + (3 : Nat))) = .bad wDiv 0 13 := by
  rw [ev_eq, nm_parts 3 (by omega), nm_two]
  rfl
def negX : E := .mk 4 0 [] [xE]
theorem nm_neg (a b : Int) : ev (tabN 1) (s12 a b) negX = .ok (wrap64 (-a)) := rfl
end Go.Proofs.YthpgcpbcbhpbcaaDoor.Ev
