/- What stage 5's walks ask of the project's Parse, ParseCond, of known and of Tells. -/
import Derived.Test.YtbpmfkikhackfaaGreatDoorExprRc
import Derived.Test.YtbpmfkikhackfaaGreatDoorExprOf
import Derived.Test.YtbpmfkikhackfaaGreatDoorExprSame
import Derived.Test.YtbpmfkikhackfaaGreatDoorToksTo
import Derived.Test.YtbpmfkikhackfaaGreatDoorTokRef
import Derived.Test.YtbpmfkikhackfaaGreatDoorGlobB
import Derived.Test.YtbpmfkikhackfaaGreatDoorPlainSm
import Derived.Test.YtbpmfkikhackfaaGreatDoorPlainCount
namespace Go.Proofs.YtbpmfkikhackfaaGreatDoor.Line
open Go.ChangeShapes Go.WideShapes Go.ChangeAt Go.RowKit
open Ex (E St)
set_option linter.unusedVariables false

def ParseSpec : Prop := ∀ (T : List Words.T) (L : Value) (w : World), T.length ≤ 1000000 → Tks w L T → (∀ p, L.ownBlock = some p → p < w.heap.size) → Calls Tryz.prog 10 #[L] w fun e w' => ∃ x s sl g, Ex.RExpr T 0 s00 (x, s) ∧ e = .returned (.tuple #[treeV (ansE x s) sl, .int .i64 (ansN s), g]) ∧ Forest w' (fun b => w.heap.size ≤ b) (ansE x s).a sl ∧ Says w.heap.size w' g wExpr s.bad s.err ∧ Below w.heap.size w w'
def CondSpec : Prop := ∀ (T : List Words.T) (L : Value) (w : World), T.length ≤ 1000000 → Tks w L T → (∀ p, L.ownBlock = some p → p < w.heap.size) → Calls Tryz.prog 12 #[L] w fun e w' => ∃ c x y s sx sy g, RCond T c x y s ∧ e = .returned (.tuple #[condV c x sx y sy, .int .i64 (ansN s), g]) ∧ Forest w' (fun b => w.heap.size ≤ b) x.a sx ∧ Forest w' (fun b => w.heap.size ≤ b) y.a sy ∧ Says w.heap.size w' g wExpr s.bad s.err ∧ Below w.heap.size w w'
def Known5Spec : Prop := ∀ w, Glob w → Calls Tryz.prog 7 #[] w fun e w' => e = .returned (.bool true) ∧ Below w.heap.size w w'
def TellsESpec : Prop := ∀ (w : World) (f g : Value) (k err B B' : Nat), Glob w → Says B w f wExpr k err → Told B' w g wExpr k err → Calls Tryz.prog 14 #[f, g] w fun e w' => e = .returned (.bool true) ∧ Below w.heap.size w w'
theorem rexpr_smA {l : List Words.T} {d : Nat} {s s1 : St} {x : E} (h : Ex.RExpr l d s (x, s1)) : Ex.Sm (ansE x s1) := by
  unfold ansE
  split
  · exact Ex.RExpr.sm h
  · exact Ex.sm_leaf _ _ _
theorem RCond.sm {T : List Words.T} {c : List UInt8} {x y : E} {s : St} (h : RCond T c x y s) : Ex.Sm x ∧ Ex.Sm y := by
  obtain ⟨x1, s1, h1, h⟩ := h
  rcases h with ⟨_, _, _, rfl, rfl⟩ | ⟨_, _, _, _, rfl, rfl⟩ | ⟨_, _, y1, s3, h3, h⟩
  · exact ⟨Ex.sm_leaf _ _ _, Ex.sm_leaf _ _ _⟩
  · exact ⟨Ex.sm_leaf _ _ _, Ex.sm_leaf _ _ _⟩
  · rcases h with ⟨_, _, _, rfl, rfl⟩ | ⟨_, _, _, rfl, rfl⟩
    · exact ⟨Ex.sm_leaf _ _ _, Ex.sm_leaf _ _ _⟩
    · exact ⟨Ex.RExpr.sm h1, Ex.RExpr.sm h3⟩
theorem OwnT.ownLt {T : TypeId} {base : Nat} {w : World} {v : Value} {l : List Words.T} (h : OwnT T base w v l) : ∀ p, v.ownBlock = some p → p < w.heap.size := fun p hp => (World.ownsRow.lt h p hp).2
end Go.Proofs.YtbpmfkikhackfaaGreatDoor.Line
