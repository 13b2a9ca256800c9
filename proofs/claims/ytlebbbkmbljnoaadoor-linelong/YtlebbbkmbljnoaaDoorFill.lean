/- A slice of bytes that the call itself makes, filled with one byte in a loop, and turned into a string. -/
import Derived.Test.YtlebbbkmbljnoaaDoorSplitWalk
import Derived.Test.YtlebbbkmbljnoaaDoorPartsWalk
import Derived.Test.YtlebbbkmbljnoaaDoorPlainTwo
import Derived.Laws.MakeOwn
namespace Go.Proofs.YtlebbbkmbljnoaaDoor.Line
open Go.ChangeShapes Go.WideShapes Go.ChangeAt Go.RowKit Plain
set_option linter.unusedVariables false

theorem info5 : (Tryd.prog.info? 5).map (fun i => (i.zero, i.size, i.bytes)) = some (some (.int .u8 0), 1, 1) := by kernel_rfl

/-- the first i of n bytes at block g are c; all are there, and may be written; old memory is as it was -/
structure Fill (w1 wr : World) (g n i : Nat) (c : Int) : Prop where
  below : Below g w1 wr
  lt : g < wr.heap.size
  free : ∀ j, j < n → wr.frozen? ⟨g, j, none⟩ = false
  some_ : ∀ j, j < n → ∃ x, wr.cell? ⟨g, j, none⟩ = some (.int .u8 x)
  done : ∀ j, j < i → wr.cell? ⟨g, j, none⟩ = some (.int .u8 c)

theorem Fill.step {w1 wr : World} {g n i : Nat} {c : Int} (h : Fill w1 wr g n i c) (hi : i < n) : Fill w1 (wr.setCell ⟨g, i, none⟩ (.int .u8 c)) g n (i + 1) c := by
  obtain ⟨x, hx⟩ := h.some_ i hi
  refine ⟨h.below.setCell (Nat.le_refl _) _, by have := h.lt; simpa [World.setCell] using this, fun j hj => (World.frozen?_setCell _ _ _ _).trans (h.free j hj), fun j hj => ?_, fun j hj => ?_⟩
  · by_cases e : j = i
    · subst e; exact ⟨c, World.cell?_setCell_same _ _ _ hx⟩
    · obtain ⟨y, hy⟩ := h.some_ j hj
      exact ⟨y, (World.cell?_setCell_other _ _ _ _ (by intro h9; apply e; simpa using (congrArg Addr.off h9).symm)).trans hy⟩
  · by_cases e : j = i
    · subst e; exact World.cell?_setCell_same _ _ _ hx
    · exact (World.cell?_setCell_other _ _ _ _ (by intro h9; apply e; simpa using (congrArg Addr.off h9).symm)).trans (h.done j (by omega))

theorem make_bytes (n : Nat) (w : World) (hn : n ≤ 100000) (c : Int) : ∃ Z : Array Value,
    (Instr.makeSlice 41 (.int .i64 n) (.int .i64 n)).run Tryd.prog w = .ok (.slice (some ⟨w.heap.size, 0, none⟩) n n) (w.alloc (.cells Z 5)) ∧ Fill w (w.alloc (.cells Z 5)) w.heap.size n 0 c := by
  obtain ⟨i0, hi, hz0, hz1, hz2⟩ := info_parts info5
  have h := run_make (P := Tryd.prog) w 41 5 i0 (.int .u8 0) Tryd.underlying41 hi hz0 .i64 .i64 n n (by omega) (Int.le_refl _) (by rw [hz2]; omega) (by omega)
  rw [hz1, Int.toNat_natCast, Nat.mul_one] at h
  refine ⟨_, h, (Below.refl _ _).alloc (Nat.le_refl _) _, by simp, fun j hj => ?_, fun j hj => ?_, fun j hj => by omega⟩
  · exact World.frozen?_alloc_at _ _ _ _ rfl
  · refine ⟨0, ?_⟩
    rw [World.cell?_alloc_at _ _ _ _ rfl]
    simp [madeCells, Value.cells, hj]
    rw [Nat.mod_one]
    rfl

theorem bytes_string {w1 wr : World} {g n : Nat} (c : UInt8) (h : Fill w1 wr g n n (c.toNat : Int)) : (convert 41 9 (.slice (some ⟨g, 0, none⟩) n n)).run Tryd.prog wr = .ok (.string ⟨(List.replicate n c).toArray⟩) wr := by
  have := run_convert_bytes_back (P := Tryd.prog) wr 41 9 5 ⟨g, 0, none⟩ n (List.replicate n c) Tryd.underlying41 Tryd.underlying5 Tryd.underlying9 (fun j hj => by
    have hj' : j < n := by simpa using hj
    have ha : (⟨g, 0, none⟩ : Addr).add j = ⟨g, j, none⟩ := by
      unfold Addr.add
      by_cases h0 : j = 0
      · simp [h0]
      · simp [h0]
    rw [ha, List.getElem_replicate]
    exact h.done j hj')
  rwa [List.length_replicate] at this
end Go.Proofs.YtlebbbkmbljnoaaDoor.Line
