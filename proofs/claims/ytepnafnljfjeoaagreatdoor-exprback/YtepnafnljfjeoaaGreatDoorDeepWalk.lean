/- ExprDeep, walked, over contracts of known, of the project's Parse and of Tells. -/
import Derived.Test.YtepnafnljfjeoaaGreatDoorExRef
import Derived.Test.YtepnafnljfjeoaaGreatDoorPlainDeep
import Derived.Test.YtepnafnljfjeoaaGreatDoorBaseAll
import Derived.Test.YtepnafnljfjeoaaGreatDoorShelfF
import Derived.Deep.RegionHeld3
namespace Go.Proofs.YtepnafnljfjeoaaGreatDoor.Line
open Go.ChangeShapes Go.WideShapes Go.ChangeAt Go.RowKit
open Ex (E St)
set_option linter.unusedVariables false

def KnownTSpec : Prop := ∀ w, Glob w → Tab w → Calls Tryz.prog 4 #[] w fun e w' => e = .returned (.bool true) ∧ Below w.heap.size w w'
theorem bit_all : ∀ p : Nat, p < 32 → ∀ j, j < 5 → (bits BinOp.and IntKind.u8 ((p : Int) / 2 ^ j) 1 == 1) = (p / 2 ^ j % 2 == 1) := by decide +kernel
theorem bit_of (p k : Nat) (h : p < 32) : (bits BinOp.and IntKind.u8 ((p : Int) / 2 ^ (k % 5)) 1 == 1) = dBit p k := bit_all p h (k % 5) (by omega)
theorem told_aggD {B : Nat} {w : World} {g : Value} {word : List UInt8} {k err : Nat} (h : Told B w g word k err) : ∃ a n, g = .agg #[.slice a n n, .int .i64 err] := by
  rcases h with ⟨rfl, rfl⟩ | ⟨_, b, _, rfl, _⟩
  · exact ⟨none, 0, rfl⟩
  · exact ⟨_, 1, rfl⟩
theorem says_nilD {B : Nat} {w : World} {g : Value} {word : List UInt8} {p er : Nat} (h : Says B w g word p er) (he : er = 0) : g = .nilIface := by
  rcases h with ⟨_, h0⟩ | ⟨h0, _⟩
  · exact h0
  · exact absurd he h0
end Go.Proofs.YtepnafnljfjeoaaGreatDoor.Line
