/- What edits make of lines, as plain data; the word of the package; what an append keeps. For a seat without the reference's CheckEdits, Apply (there: CheckE, ApplyE). -/
import Derived.Test.YtcfbigkmhboepabDoorSlice
import Derived.Test.YtcfbigkmhboepabDoorMemE
namespace Go.Proofs.YtcfbigkmhboepabDoor.Line
open Go.ChangeShapes Go.WideShapes Go.ChangeAt Go.RowKit
set_option linter.unusedVariables false

abbrev wEdit : List UInt8 := [101, 100, 105, 116]
/-- what edits make of lines: nothing where they may not be -/
def made (L : List (List UInt8)) (E : List RawE) : List (List UInt8) := if (Edits.errE (L.length : Int) E).1 = 0 then Edits.ap L 0 (E.map Edits.nat) else []
theorem noBad (N : Int) (E : List RawE) (hN : ¬ N < 0) (h : (Edits.errE N E).1 = 0) : ∀ j, j < E.length → Edits.badI N E j = 0 := by
  intro j hj
  unfold Edits.errE at h
  rw [if_neg hN] at h
  split at h
  · rename_i i hi
    have := List.find?_some hi
    simp at this
    exact absurd h this
  · rename_i hi
    rw [List.find?_eq_none] at hi
    have := hi j (List.mem_range.2 hj)
    simpa using this
theorem errE_zero (N : Int) (E : List RawE) (hN : ¬ N < 0) (h : (Edits.errE N E).1 = 0) : Edits.errE N E = (0, 0) := Edits.errE_none N E hN (noBad N E hN h)
theorem grown_below {B : Nat} {w wr w1 : World} {v : Value} {ls : List (List UInt8)} (hB : B ≤ wr.heap.size) (hown : Own B wr v ls) (hnx : Below B w wr) (hgrow : wr.grownBy w1 v.ownBlock) : Below B w w1 :=
  hnx.grown hgrow hB (fun j hj => (World.ownsRow.lt hown j hj).1)
end Go.Proofs.YtcfbigkmhboepabDoor.Line
