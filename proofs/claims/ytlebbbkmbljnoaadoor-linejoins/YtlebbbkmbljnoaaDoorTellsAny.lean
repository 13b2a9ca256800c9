/- Tells at an error and what was told of it: true. And the contracts of both Splits, parted by whether there is an error. -/
import Derived.Test.YtlebbbkmbljnoaaDoorTells
import Derived.Test.YtlebbbkmbljnoaaDoorRefSplit
import Derived.Test.YtlebbbkmbljnoaaDoorKnown
namespace Go.Proofs.YtlebbbkmbljnoaaDoor.Line
open Go.ChangeShapes Go.WideShapes Go.ChangeAt Go.RowKit Plain Err
set_option linter.unusedVariables false

/-- what the row s list gives: the one variable that errors.As reads -/
def Glob (w : World) : Prop := w.cell? ⟨0, 0, none⟩ = some (.iface 91 (.agg #[.pointer (some ⟨4, 25, none⟩)]))
theorem Glob.below {w w' : World} (h : Glob w) (hb : Below w.heap.size w w') : Glob w' := (hb.cell (p := ⟨0, 0, none⟩) (cell_lt h)).trans h

theorem tells_any {B B' : Nat} (w : World) (f g : Value) (word : List UInt8) (k err : Nat) (hg : Glob w) (hs : Says B w f word k err) (ht : Told B' w g word k err) :
    Calls Tryd.prog 11 #[f, g] w fun e w' => e = .returned (.bool true) ∧ Below w.heap.size w w' := by
  rcases hs with ⟨h0, rfl⟩ | ⟨h0, b, _, rfl, c0, c1, c2⟩
  · rcases ht with ⟨_, rfl⟩ | ⟨h, _⟩
    · exact tells_none w
    · exact absurd h0 h
  · rcases ht with ⟨h, _⟩ | ⟨_, b2, _, rfl, d0, d1⟩
    · exact absurd h h0
    · exact tells_some b b2 k err word w (by rw [beq_eq_false_iff_ne]; omega) hg c0 c1 c2 d0 d1

theorem split_ok (l : List UInt8) (w : World) (hm : l.length ≤ 9223372036854775807) (he : errS l = 0) : Calls Tryd.prog 9 #[.string ⟨l.toArray⟩] w fun e w' =>
    ∃ v, e = .returned (.tuple #[v, .nilIface]) ∧ Own w.heap.size w' v (lines l) ∧ Below w.heap.size w w' := by
  have hr : rowS l = lines l := by unfold rowS; rw [if_pos he]
  refine (split_any l w hm).mono ?_
  rintro e w' ⟨v, f, rfl, ho, hs, hB⟩
  rw [hr] at ho
  rcases hs with ⟨_, rfl⟩ | ⟨h, _⟩
  · exact ⟨v, rfl, ho, hB⟩
  · exact absurd he h
theorem split_bad (l : List UInt8) (w : World) (hm : l.length ≤ 9223372036854775807) (he : errS l ≠ 0) : Calls Tryd.prog 9 #[.string ⟨l.toArray⟩] w fun e w' =>
    ∃ v b, e = .returned (.tuple #[v, .iface 45 (.pointer (some ⟨b, 0, none⟩))]) ∧ Own w.heap.size w' v [] ∧ Says w.heap.size w' (.iface 45 (.pointer (some ⟨b, 0, none⟩))) (wordS l) (atS l) (errS l) ∧ Below w.heap.size w w' := by
  have hr : rowS l = [] := by unfold rowS; rw [if_neg he]
  refine (split_any l w hm).mono ?_
  rintro e w' ⟨v, f, rfl, ho, hs, hB⟩
  rw [hr] at ho
  have hs' := hs
  rcases hs with ⟨h, _⟩ | ⟨_, b, _, rfl, _⟩
  · exact absurd h he
  · exact ⟨v, b, rfl, ho, hs', hB⟩
theorem refSplit_ok (l : List UInt8) (w : World) (hm : l.length ≤ 9223372036854775807) (he : errS l = 0) : Calls Tryd.prog 10 #[.string ⟨l.toArray⟩] w fun e w' =>
    ∃ v, e = .returned (.tuple #[v, .agg #[.slice none 0 0, .int .i64 0]]) ∧ Own w.heap.size w' v (lines l) ∧ Below w.heap.size w w' := by
  have hr : rowS l = lines l := by unfold rowS; rw [if_pos he]
  refine (refSplit_any l w hm).mono ?_
  rintro e w' ⟨v, f, rfl, ho, hs, hB⟩
  rw [hr] at ho
  rcases hs with ⟨_, rfl⟩ | ⟨h, _⟩
  · exact ⟨v, rfl, ho, hB⟩
  · exact absurd he h
theorem refSplit_bad (l : List UInt8) (w : World) (hm : l.length ≤ 9223372036854775807) (he : errS l ≠ 0) : Calls Tryd.prog 10 #[.string ⟨l.toArray⟩] w fun e w' =>
    ∃ v b, e = .returned (.tuple #[v, .agg #[.slice (some ⟨b, 0, none⟩) 1 1, .int .i64 (errS l)]]) ∧ Own w.heap.size w' v [] ∧ Told w.heap.size w' (.agg #[.slice (some ⟨b, 0, none⟩) 1 1, .int .i64 (errS l)]) (wordS l) (atS l) (errS l) ∧ Below w.heap.size w w' := by
  have hr : rowS l = [] := by unfold rowS; rw [if_neg he]
  refine (refSplit_any l w hm).mono ?_
  rintro e w' ⟨v, f, rfl, ho, hs, hB⟩
  rw [hr] at ho
  have hs' := hs
  rcases hs with ⟨h, _⟩ | ⟨_, b, _, rfl, _⟩
  · exact absurd h he
  · exact ⟨v, b, rfl, ho, hs', hB⟩
end Go.Proofs.YtlebbbkmbljnoaaDoor.Line
