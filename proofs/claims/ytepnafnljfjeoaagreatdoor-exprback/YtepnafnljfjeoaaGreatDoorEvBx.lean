/- A tree in a box of its own. -/
import Derived.Test.YtepnafnljfjeoaaGreatDoorExSu
import Derived.Test.YtepnafnljfjeoaaGreatDoorExRef
namespace Go.Proofs.YtepnafnljfjeoaaGreatDoor.Line
open Go.ChangeShapes Go.WideShapes Go.ChangeAt Go.RowKit
open Ex (E)
set_option linter.unusedVariables false

structure Bx (w : World) (p : Nat) (x : E) (sl : Value) : Prop where
  c0 : w.cell? ⟨p, 0, none⟩ = some (.int .i64 x.kind)
  c1 : w.cell? ⟨p, 1, none⟩ = some (.int .i64 x.n)
  c2 : w.cell? ⟨p, 2, none⟩ = some (.string ⟨x.name.toArray⟩)
  c3 : w.cell? ⟨p, 3, none⟩ = some sl
  f0 : w.frozen? ⟨p, 0, none⟩ = false
  f1 : w.frozen? ⟨p, 1, none⟩ = false
  f2 : w.frozen? ⟨p, 2, none⟩ = false
  f3 : w.frozen? ⟨p, 3, none⟩ = false
  lt : p < w.heap.size
theorem Bx.keep {w w' : World} {p : Nat} {x : E} {sl : Value} (h : Bx w p x sl) (hp : w'.heap[p]? = w.heap[p]?) (hs : w.heap.size ≤ w'.heap.size) : Bx w' p x sl := by
  have hc : ∀ o, w'.cell? ⟨p, o, none⟩ = w.cell? ⟨p, o, none⟩ := fun o => World.cell?_of_block (a := ⟨p, o, none⟩) hp
  have hf : ∀ o, w'.frozen? ⟨p, o, none⟩ = w.frozen? ⟨p, o, none⟩ := fun o => World.frozen?_of_block (a := ⟨p, o, none⟩) hp
  exact ⟨(hc 0).trans h.c0, (hc 1).trans h.c1, (hc 2).trans h.c2, (hc 3).trans h.c3, (hf 0).trans h.f0, (hf 1).trans h.f1, (hf 2).trans h.f2, (hf 3).trans h.f3, by have := h.lt; omega⟩
theorem Bx.but {w w' : World} {p rb : Nat} {x : E} {sl : Value} (h : Bx w p x sl) (hb : But rb w w') (hne : p ≠ rb) : Bx w' p x sl := h.keep (hb.block p h.lt (fun e => hne (by injection e))) hb.size
theorem bx_new (w : World) (x : E) (sl : Value) (t : TypeId) : Bx (w.alloc (.cells #[.int .i64 x.kind, .int .i64 x.n, .string ⟨x.name.toArray⟩, sl] t)) w.heap.size x sl := by
  refine ⟨?_, ?_, ?_, ?_, ?_, ?_, ?_, ?_, ?_⟩ <;> simp
end Go.Proofs.YtepnafnljfjeoaaGreatDoor.Line
