/- Plain: trees as a reading makes them, with Nums of any sign; what words tell such a tree. Nothing of the program is named. -/
import Derived.Test.YtepnafnljfjeoaaGreatDoorPlainWd
import Derived.Test.YtepnafnljfjeoaaGreatDoorPlainAll
namespace Go.Proofs.YtepnafnljfjeoaaGreatDoor.Line
open Ex (E St)
open Words (T Wd textW FitsTo Soft keyT)
set_option linter.unusedVariables false

def IsNm (l : List UInt8) : Prop := ∃ t, (Words.toks l).1 = [t] ∧ (Words.toks l).2.1 = 0 ∧ t.kind = 1 ∧ t.text = l
/-- a tree as a reading makes it, Nums of any sign -/
inductive RX : E → Prop
  | num (x : E) (hk : x.kind = 1) (hs : x.name = []) (ha : x.a = []) : RX x
  | var (x : E) (hk : x.kind = 2) (hn : x.n = 0) (hs : IsNm x.name) (ha : x.a = []) : RX x
  | elem (x : E) (hk : x.kind = 3) (hn : x.n = 0) (hs : IsNm x.name) (h1 : 1 ≤ x.a.length) (h4 : x.a.length ≤ 4) (h : ∀ z ∈ x.a, RX z) : RX x
  | neg (x : E) (hk : x.kind = 4) (hn : x.n = 0) (hs : x.name = []) (h1 : x.a.length = 1) (h : ∀ z ∈ x.a, RX z) : RX x
  | two (x : E) (hk : x.kind = 5 ∨ x.kind = 6 ∨ x.kind = 7 ∨ x.kind = 8) (hn : x.n = 0) (hs : x.name = []) (h1 : x.a.length = 2) (h : ∀ z ∈ x.a, RX z) : RX x
theorem RX.kinds {x : E} (h : RX x) : x.kind = 1 ∨ x.kind = 2 ∨ x.kind = 3 ∨ x.kind = 4 ∨ x.kind = 5 ∨ x.kind = 6 ∨ x.kind = 7 ∨ x.kind = 8 := by
  cases h <;> omega
abbrev sg (b : Bool) (c : UInt8) : Wd := (b, 3, [c], 0)
abbrev nb (b : Bool) (n : Nat) : Wd := (b, 2, Words.dec n, n)
def numW (b : Bool) (n : Int) : List Wd := if n = -9223372036854775808 then [sg b 40, sg false 45, nb false 9223372036854775807, sg true 45, nb true 1, sg false 41] else if n < 0 then [sg b 40, sg false 45, nb false n.natAbs, sg false 41] else [nb b n.natAbs]
def sepW (k : Int) : List Wd := if k = 3 then [sg false 44] else if k = 5 then [sg true 43] else if k = 6 then [sg true 45] else if k = 7 then [sg true 42] else [sg true 47]
def brkW (k : Int) (i : Nat) (kp : Int) : Bool := if Ex.bindOf k = 0 ∨ Ex.bindOf kp = 0 then false else if i = 0 then decide (Ex.bindOf kp < Ex.bindOf k) else decide (Ex.bindOf kp ≤ Ex.bindOf k) || decide (kp = 4)
mutual
def wds (b : Bool) : E → List Wd
  | .mk k n nm a => if k = 1 then numW b n else if k = 2 then [(b, 1, nm, 0)] else if k = 3 then (b, 1, nm, 0) :: sg false 40 :: (wdsL 3 0 false a ++ [sg false 41]) else if k = 4 then sg b 45 :: wdsL 4 0 false a else wdsL k 0 b a
def wdsL (k : Int) : Nat → Bool → List E → List Wd
  | _, _, [] => []
  | i, b, y :: r => (if i = 0 then [] else sepW k) ++ ((if brkW k i y.kind then sg b 40 :: (wds false y ++ [sg false 41]) else wds b y) ++ wdsL k (i + 1) true r)
end
/-- a part as it is told -/
def opd (k : Int) (i : Nat) (b : Bool) (y : E) : List Wd := if brkW k i y.kind then sg b 40 :: (wds false y ++ [sg false 41]) else wds b y
theorem wdsL_cons (k : Int) (i : Nat) (b : Bool) (y : E) (r : List E) : wdsL k i b (y :: r) = (if i = 0 then [] else sepW k) ++ (opd k i b y ++ wdsL k (i + 1) true r) := by rw [wdsL]; rfl
theorem wdsL_nil (k : Int) (i : Nat) (b : Bool) : wdsL k i b [] = [] := by rw [wdsL]

mutual
def plainE : E → E
  | .mk k n nm a => if k = 1 ∧ n = -9223372036854775808 then .mk 6 0 [] [.mk 4 0 [] [.mk 1 9223372036854775807 [] []], .mk 1 1 [] []] else if k = 1 ∧ n < 0 then .mk 4 0 [] [.mk 1 (-n) [] []] else .mk k n nm (plainL a)
def plainL : List E → List E
  | [] => []
  | y :: r => plainE y :: plainL r
end
end Go.Proofs.YtepnafnljfjeoaaGreatDoor.Line
