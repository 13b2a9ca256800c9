/- Cells of any numbers: made, set; the contract of the law's store. -/
import Derived.Test.YtomnbidppkpfiaaDoorEvTo
import Derived.Test.YtomnbidppkpfiaaDoorEvHolds
namespace Go.Proofs.YtomnbidppkpfiaaDoor.Line
open Go.ChangeShapes Go.WideShapes Go.ChangeAt Go.RowKit
open Ex (E)
open Ev (Sy Res)
set_option linter.unusedVariables false

abbrev STO : TypeId := 38
theorem make_store (w : World) (n : Nat) (hn : n ≤ 100000) : ∃ Z : Array Value, (Instr.makeSlice STO (.int .i64 (n : Int)) (.int .i64 (n : Int))).run Tryd.prog w = .ok (.slice (some ⟨w.heap.size, 0, none⟩) n n) (w.alloc (.cells Z INT)) ∧ Ints (w.alloc (.cells Z INT)) (.slice (some ⟨w.heap.size, 0, none⟩) n n) (List.replicate n 0) ∧ (∀ o, (w.alloc (.cells Z INT)).frozen? ⟨w.heap.size, o, none⟩ = false) := by
  obtain ⟨i0, hi, hz0, hz1, hz2⟩ := info_parts infoZ
  have h := run_make (P := Tryd.prog) w STO INT i0 _ Tryd.underlying38 hi hz0 .i64 .i64 n n (by omega) (Int.le_refl _) (by rw [hz2]; omega) (by omega)
  rw [hz1, Int.toNat_natCast, Nat.mul_one] at h
  refine ⟨_, h, ⟨_, n, by rw [List.length_replicate], by rw [List.length_replicate]; exact Nat.le_refl _, by unfold maxLen; omega, .inr ⟨_, 0, rfl, fun j hj => ?_⟩⟩, fun o => World.frozen?_alloc_at _ _ _ _ rfl⟩
  rw [List.length_replicate] at hj
  rw [Nat.zero_add, World.cell?_alloc_at _ _ _ _ rfl]
  simp [madeCells, Value.cells, hj]
  rw [Nat.mod_one]
  rfl
theorem ints_set {w : World} {q n cap : Nat} {l : List Int} (h : Ints w (.slice (some ⟨q, 0, none⟩) n cap) l) (i : Nat) (hi : i < n) (v : Int) : Ints (w.setCell ⟨q, i, none⟩ (.int .i64 v)) (.slice (some ⟨q, 0, none⟩) n cap) (l.set i v) ∧ w.cell? ⟨q, i, none⟩ = some (.int .i64 (l.getD i 0)) := by
  obtain ⟨a, c, h1, h2, h3, h4⟩ := h
  injection h1 with e1 e2 e3
  subst e1 e2 e3
  rcases h4 with rfl | ⟨b, off, h5, h6⟩
  · simp at hi
  · injection h5 with h5
    injection h5 with h5 h7
    subst h5 h7
    have hc := h6 i hi
    rw [Nat.zero_add] at hc
    refine ⟨⟨_, cap, by rw [List.length_set], by rw [List.length_set]; exact h2, h3, .inr ⟨q, 0, rfl, fun j hj => ?_⟩⟩, by rw [hc]; simp [hi]⟩
    rw [List.length_set] at hj
    rw [Nat.zero_add, List.getElem_set]
    by_cases e : i = j
    · subst e
      rw [if_pos rfl]
      exact World.cell?_setCell_same _ _ _ hc
    · rw [if_neg e]
      have := h6 j hj
      rw [Nat.zero_add] at this
      exact (World.cell?_setCell_other _ _ _ _ (by intro h9; injection h9 with _ h9; exact e h9)).trans this
/-- the numbers that a store holds -/
def stoP (n : Nat) (l : List Int) : List Int := (List.range n).map fun i => l.getD i 0
theorem stoP_len (n : Nat) (l : List Int) : (stoP n l).length = n := by simp [stoP]
end Go.Proofs.YtomnbidppkpfiaaDoor.Line
