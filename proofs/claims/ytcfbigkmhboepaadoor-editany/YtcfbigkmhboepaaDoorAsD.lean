/- errors.As of what Check answers, into a pointer to a Fault of the caller s own. -/
import Derived.Test.YtcfbigkmhboepaaDoorAsB
import Derived.Test.YtcfbigkmhboepaaDoorAsNil
import Derived.Test.YtcfbigkmhboepaaDoorGlobB
namespace Go.Proofs.YtcfbigkmhboepaaDoor.Line
open Go.ChangeShapes Go.WideShapes Go.ChangeAt Go.RowKit Err
set_option linter.unusedVariables false

theorem alloc_T {w : World} (T : Nat) (h : T < w.heap.size) (o : Obj) : Below T w (w.alloc o) := (Below.refl _ _).alloc (by omega) o
theorem as_says {B T0 : Nat} {w : World} {g : Value} {word : List UInt8} {k err : Nat} (hs : Says B w g word k err) (hT : T0 < B) (hg : Glob w) (ht0 : w.cell? ⟨T0, 0, none⟩ = some (.pointer none)) (hf0 : w.frozen? ⟨T0, 0, none⟩ = false) (herr : err ≠ 0) :
    ∃ p, g = .iface 56 (.pointer (some p)) ∧ Calls Tryd.prog 25 #[.iface 56 (.pointer (some p)), .iface 58 (.pointer (some ⟨T0, 0, none⟩))] w fun ev w' => ev = .returned (.bool true) ∧ w'.cell? ⟨T0, 0, none⟩ = some (.pointer (some p)) ∧ Says B w' (.iface 56 (.pointer (some p))) word k err ∧ Below T0 w w' := by
  rcases hs with ⟨h, _⟩ | ⟨_, b, hb, rfl, c0, c1, c2⟩
  · exact absurd h herr
  have hbl := cell_lt c0
  have htl := cell_lt ht0
  refine ⟨_, rfl, (as_hit45_exact ⟨b, 0, none⟩ ⟨T0, 0, none⟩ (.pointer none) w hg ht0 hf0).mono ?_⟩
  rintro ev w' ⟨rfl, rfl⟩
  have keep : ∀ o u, w.cell? ⟨b, o, none⟩ = some u → (((((w.alloc (.cells #[.pointer (some ⟨T0, 0, none⟩)] 58)).alloc (.cells #[.pointer (some ⟨1, 58, none⟩), .pointer (some ⟨w.heap.size, 0, none⟩), .int .u64 150] 72)).alloc (.cells #[.pointer (some ⟨1, 58, none⟩), .pointer (some ⟨w.heap.size, 0, none⟩), .int .u64 150] 72)).alloc (.cells #[.pointer (some ⟨b, 0, none⟩)] 56)).setCell ⟨T0, 0, none⟩ (.pointer (some ⟨b, 0, none⟩))).cell? ⟨b, o, none⟩ = some u := by
    intro o u h
    rw [World.cell?_of_block (Below.heap_setCell _ _ _ _ (by show b ≠ T0; omega)), World.cell?_alloc_lt _ _ _ (by simp; omega), World.cell?_alloc_lt _ _ _ (by simp; omega), World.cell?_alloc_lt _ _ _ (by simp; omega), World.cell?_alloc_lt _ _ _ hbl]
    exact h
  refine ⟨rfl, ?_, .inr ⟨herr, b, hb, rfl, keep 0 _ c0, keep 1 _ c1, keep 2 _ c2⟩, ?_⟩
  · rw [World.cell?_setCell_same _ _ _ (by rw [World.cell?_alloc_lt _ _ ⟨T0, 0, none⟩ (by simp; omega), World.cell?_alloc_lt _ _ ⟨T0, 0, none⟩ (by simp; omega), World.cell?_alloc_lt _ _ ⟨T0, 0, none⟩ (by simp; omega), World.cell?_alloc_lt _ _ ⟨T0, 0, none⟩ htl]; exact ht0)]
  · exact ((((alloc_T T0 htl _).trans (alloc_T T0 (by simp; omega) _)).trans (alloc_T T0 (by simp; omega) _)).trans (alloc_T T0 (by simp; omega) _)).setCell (Nat.le_refl _) _
end Go.Proofs.YtcfbigkmhboepaaDoor.Line
