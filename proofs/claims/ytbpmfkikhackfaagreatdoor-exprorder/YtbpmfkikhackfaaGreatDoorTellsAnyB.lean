/- Tells at an error and what was told of it: true. -/
import Derived.Test.YtbpmfkikhackfaaGreatDoorTellsB
import Derived.Test.YtbpmfkikhackfaaGreatDoorGlobB
namespace Go.Proofs.YtbpmfkikhackfaaGreatDoor.Line
open Go.ChangeShapes Go.WideShapes Go.ChangeAt Go.RowKit Err
set_option linter.unusedVariables false


theorem tells_any {B B' : Nat} (w : World) (f g : Value) (word : List UInt8) (k err : Nat) (hg : Glob w) (hs : Says B w f word k err) (ht : Told B' w g word k err) :
    Calls Tryz.prog 14 #[f, g] w fun e w' => e = .returned (.bool true) ∧ Below w.heap.size w w' := by
  rcases hs with ⟨h0, rfl⟩ | ⟨h0, b, _, rfl, c0, c1, c2⟩
  · rcases ht with ⟨_, rfl⟩ | ⟨h, _⟩
    · exact tells_none w
    · exact absurd h0 h
  · rcases ht with ⟨h, _⟩ | ⟨_, b2, _, rfl, d0, d1⟩
    · exact absurd h h0
    · exact tells_some b b2 k err word w (by rw [beq_eq_false_iff_ne]; omega) hg c0 c1 c2 d0 d1

end Go.Proofs.YtbpmfkikhackfaaGreatDoor.Line
