/- Edits in memory: a slice of edits that is only read (Eds). -/
import Derived.Test.YtcfbigkmhboepaaDoorMemB
import Derived.Test.YtcfbigkmhboepaaDoorPlainEdit
namespace Go.Proofs.YtcfbigkmhboepaaDoor.Line
open Go.ChangeShapes Go.WideShapes Go.ChangeAt Go.RowKit
set_option linter.unusedVariables false

abbrev RawE := Edits.Raw (List UInt8)
/-- the cells of one edit -/
def EdAt (w : World) (b o : Nat) (e : RawE) : Prop :=
  w.cell? ⟨b, o, none⟩ = some (.int .i64 e.f) ∧ w.cell? ⟨b, o + 1, none⟩ = some (.int .i64 e.t) ∧ ∃ u, w.cell? ⟨b, o + 2, none⟩ = some u ∧ Row w u e.n
/-- a slice of edits that is only read -/
def Eds (w : World) (v : Value) (E : List RawE) : Prop :=
  (∃ a cap, v = .slice a 0 cap ∧ E = []) ∨
  (∃ b off cap, v = .slice (some ⟨b, off, none⟩) E.length cap ∧ E.length ≤ cap ∧ ∀ i (h : i < E.length), EdAt w b (off + i * 3) E[i])
theorem EdAt.below {w w' : World} {b o : Nat} {e : RawE} (h : EdAt w b o e) (hb : Below w.heap.size w w') : EdAt w' b o e := by
  obtain ⟨h1, h2, u, h3, h4⟩ := h
  have hl := cell_lt h1
  exact ⟨by rw [hb.cell (p := ⟨b, o, none⟩) hl]; exact h1, by rw [hb.cell (p := ⟨b, o + 1, none⟩) hl]; exact h2, u, by rw [hb.cell (p := ⟨b, o + 2, none⟩) hl]; exact h3, h4.below hb⟩
theorem Eds.below {w w' : World} {v : Value} {E : List RawE} (h : Eds w v E) (hb : Below w.heap.size w w') : Eds w' v E := by
  rcases h with h | ⟨b, off, cap, rfl, hc, h⟩
  · exact .inl h
  · exact .inr ⟨b, off, cap, rfl, hc, fun i hi => (h i hi).below hb⟩
theorem Eds.drewN {w : World} {v : Value} {E : List RawE} (h : Eds w v E) (n : Nat) : Eds (w.drewN n) v E := h.below (below_drewN (Below.refl _ _) n)
theorem Eds.shape {w : World} {v : Value} {E : List RawE} (h : Eds w v E) : ∃ a cap, v = .slice a E.length cap := by
  rcases h with ⟨a, cap, rfl, rfl⟩ | ⟨b, off, cap, rfl, _⟩
  · exact ⟨_, _, rfl⟩
  · exact ⟨_, _, rfl⟩
end Go.Proofs.YtcfbigkmhboepaaDoor.Line
