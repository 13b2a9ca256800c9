/- Plain: what the law's own examples come to. Nothing of the program is named. -/
import Derived.Test.YtomnbidppkpfiaaDoorPlainEz
import Derived.KernelRfl
namespace Go.Proofs.YtomnbidppkpfiaaDoor.Ev
open Go.RowKit
open Ex (E)
set_option linter.unusedVariables false

def tabN (n : Int) : List Sy := [⟨[97], [n], 0, n⟩, ⟨[98], [3, 2], n, 6⟩, ⟨[120], [], n + 6, 1⟩, ⟨[121], [], n + 7, 1⟩, ⟨[110], [], n + 8, 1⟩, ⟨[105], [], n + 9, 1⟩, ⟨[106], [], n + 10, 1⟩]
theorem leaf_fine (s : List UInt8) (a : Int) (h1 : 0 ≤ a) (h2 : a ≤ 1000000) : Sub1 ⟨s, [], a, 1⟩ := ⟨by simp, (fun d hd => by cases hd), by simp [prod], h1, h2⟩
theorem tabN_fine (n : Int) (h1 : 1 ≤ n) (h2 : n ≤ 1000) : Fine (tabN n) := by
  intro x hx
  simp only [tabN, List.mem_cons, List.not_mem_nil, or_false] at hx
  rcases hx with rfl | rfl | rfl | rfl | rfl | rfl | rfl
  · refine ⟨by simp, fun d hd => ?_, ?_, by simp, by simp⟩
    · rw [List.mem_singleton.1 hd]; exact h1
    · simp only [prod]; omega
  · refine ⟨by simp, fun d hd => ?_, show prod [3, 2] ≤ 1000000 by decide, show 0 ≤ n by omega, show n ≤ 1000000 by omega⟩
    simp only [List.mem_cons, List.not_mem_nil, or_false] at hd
    rcases hd with rfl | rfl <;> decide
  · exact leaf_fine _ _ (by omega) (by omega)
  · exact leaf_fine _ _ (by omega) (by omega)
  · exact leaf_fine _ _ (by omega) (by omega)
  · exact leaf_fine _ _ (by omega) (by omega)
  · exact leaf_fine _ _ (by omega) (by omega)
def bE : E := .mk 3 0 [98] [.mk 1 3 [] [], .mk 1 2 [] []]
def negE : E := .mk 4 0 [] [bE]
def twoE : E := .mk 1 2 [] []
def divE : E := .mk 8 0 [] [negE, twoE]
def aE (n : Int) : E := .mk 3 0 [97] [.mk 1 n [] []]
def xE : E := .mk 2 0 [120] []
def yE : E := .mk 2 0 [121] []
def s15 : List Int := (List.replicate 15 0).set 9 7
theorem kn_cell : evs (tabN 4) s15 (parts bE) = .inr [3, 2] ∧ cellP (tabN 4) [98] [3, 2] = .ok 9 := ⟨by kernel_rfl, by kernel_rfl⟩
theorem kn_div : ev (tabN 4) s15 divE = .ok (-3) := by kernel_rfl
theorem kn_bad : ev (tabN 4) s15 (aE 5) = .bad wSub 0 14 := by kernel_rfl
theorem kn_two : evs (tabN 4) s15 [xE, bE] = .inr [0, 7] := by kernel_rfl
end Go.Proofs.YtomnbidppkpfiaaDoor.Ev
