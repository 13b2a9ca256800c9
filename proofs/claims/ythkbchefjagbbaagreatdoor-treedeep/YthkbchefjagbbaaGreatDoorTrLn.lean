/- Lines that the laws of blocks are made of; a node's box. -/
import Derived.Test.YthkbchefjagbbaaGreatDoorTrKnA
namespace Go.Proofs.YthkbchefjagbbaaGreatDoor.Line
open Go.ChangeShapes Go.WideShapes Go.ChangeAt Go.RowKit
open Ex (E St)
set_option linter.unusedVariables false

abbrev lA : List UInt8 := [100, 111, 32, 105, 32, 61, 32, 49, 44, 32, 50, 10]
abbrev lC : List UInt8 := [101, 110, 100, 32, 100, 111, 10]
def psA : PS := .loop [105] (.mk 1 1 [] []) (.mk 1 2 [] []) 1
theorem is_A : LineIs lA psA := line_of 6 (by kernel_rfl)
theorem is_C : LineIs lC (.plain 4) := line_of 2 (by kernel_rfl)
abbrev chF : List UInt8 := [105, 102, 32, 40, 120, 32, 60, 32, 49, 41, 32, 116, 104, 101, 110, 10]
abbrev chI : List UInt8 := [101, 110, 100, 32, 105, 102, 10]
def psF : PS := .cond [60] (.mk 2 0 [120] []) (.mk 1 1 [] [])
theorem is_F : LineIs chF psF := line_of 7 (by kernel_rfl)
theorem is_I : LineIs chI (.plain 7) := line_of 2 (by kernel_rfl)
/-- a node's box: what its cells say -/
theorem box_says {W : World} {S : Nat → Prop} {c : NC} {n : PN} (h : Node1 W S c n) (t : TypeId) : ∃ a1 c1 a2 c2, c.bv = .slice a1 n.body.length c1 ∧ c.ev = .slice a2 n.els.length c2 ∧ (W.alloc (.cells c.cells.toArray t)).cell? ⟨W.heap.size, 1, none⟩ = some (.int .i64 n.en) ∧ (W.alloc (.cells c.cells.toArray t)).cell? ⟨W.heap.size, 0, none⟩ = some (.int .i64 n.line) ∧ (W.alloc (.cells c.cells.toArray t)).cell? ⟨W.heap.size, 31, none⟩ = some (.slice a1 n.body.length c1) ∧ (W.alloc (.cells c.cells.toArray t)).cell? ⟨W.heap.size, 32, none⟩ = some (.slice a2 n.els.length c2) ∧ (W.alloc (.cells c.cells.toArray t)).cell? ⟨W.heap.size, 33, none⟩ = some (.int .i64 n.mid) := by
  obtain ⟨a1, c1, e1⟩ := h.body.shape
  obtain ⟨a2, c2, e2⟩ := h.els.shape
  have hr := boxN_range W c.cells t
  obtain ⟨k0, k1, k2, k31, k32, k33⟩ := (nc_at h.st.size.1).1 hr
  rw [Nat.zero_add] at k1 k31 k32 k33
  rw [e1] at k31; rw [e2] at k32; rw [h.en] at k1; rw [h.line] at k0; rw [h.mid] at k33
  exact ⟨a1, c1, a2, c2, e1, e2, k1, k0, k31, k32, k33⟩
end Go.Proofs.YthkbchefjagbbaaGreatDoor.Line
