/- Edits that a call made (OwnE): a row of its own, three cells an edit, the new lines somewhere. -/
import Derived.Test.YtcfbigkmhboepaaDoorMemE
import Derived.Laws.OwnMore
namespace Go.Proofs.YtcfbigkmhboepaaDoor.Line
open Go.ChangeShapes Go.WideShapes Go.ChangeAt Go.RowKit
set_option linter.unusedVariables false

abbrev Cut := RawE × Value
def flat (X : List Cut) : List Value := X.flatMap fun p => [.int .i64 p.1.f, .int .i64 p.1.t, p.2]
theorem flat_length (X : List Cut) : (flat X).length = X.length * 3 := by
  induction X with
  | nil => rfl
  | cons p X ih => show ([_, _, _] ++ flat X).length = _; rw [List.length_append, ih]; simp; omega
theorem flat_snoc (X : List Cut) (p : Cut) : flat (X ++ [p]) = flat X ++ [.int .i64 p.1.f, .int .i64 p.1.t, p.2] := by simp [flat]
theorem flat_at (X : List Cut) : ∀ (i : Nat) (h : i < X.length), (flat X)[i * 3]? = some (.int .i64 X[i].1.f) ∧ (flat X)[i * 3 + 1]? = some (.int .i64 X[i].1.t) ∧ (flat X)[i * 3 + 2]? = some X[i].2 := by
  induction X with
  | nil => intro i h; simp at h
  | cons p X ih =>
    intro i h
    have e : flat (p :: X) = .int .i64 p.1.f :: .int .i64 p.1.t :: p.2 :: flat X := rfl
    cases i with
    | zero => rw [e]; exact ⟨rfl, rfl, rfl⟩
    | succ i =>
      have := ih i (by simpa using h)
      rw [e]
      rw [show (i + 1) * 3 = i * 3 + 3 by omega, show i * 3 + 3 + 1 = (i * 3 + 1) + 3 by omega, show i * 3 + 3 + 2 = (i * 3 + 2) + 3 by omega]
      simpa using this
/-- edits of a call's own, of type T -/
def OwnE (T : TypeId) (base : Nat) (w : World) (v : Value) (E : List RawE) : Prop :=
  ∃ X : List Cut, X.map (·.1) = E ∧ w.ownsRow base T 3 v X.length (flat X) ∧ ∀ p ∈ X, Row w p.2 p.1.n
theorem OwnE.nil (T : TypeId) (base : Nat) (w : World) : OwnE T base w (.slice none 0 0) [] := ⟨[], rfl, World.ownsRow_nil _ _ _ _, fun p h => by simp at h⟩
theorem owns_below {base size n : Nat} {T : TypeId} {w w' : World} {v : Value} {xs : List Value} (h : w.ownsRow base T size v n xs) (hb : Below w.heap.size w w') : w'.ownsRow base T size v n xs := by
  obtain ⟨h1, h2⟩ := h
  refine ⟨h1, ?_⟩
  rcases h2 with h2 | ⟨g, cap, cur, hv, hg, hh, r⟩
  · exact .inl h2
  · refine .inr ⟨g, cap, cur, hv, hg, ?_, r⟩
    rw [hb.block g (by
      rcases Nat.lt_or_ge g w.heap.size with h | h
      · exact h
      · rw [Array.getElem?_eq_none h] at hh; cases hh)]
    exact hh
theorem OwnE.below {T : TypeId} {base : Nat} {w w' : World} {v : Value} {E : List RawE} (h : OwnE T base w v E) (hb : Below w.heap.size w w') : OwnE T base w' v E := by
  obtain ⟨X, h1, h2, h3⟩ := h
  exact ⟨X, h1, owns_below h2 hb, fun p hp => (h3 p hp).below hb⟩
theorem OwnE.eds {T : TypeId} {base : Nat} {w : World} {v : Value} {E : List RawE} (h : OwnE T base w v E) : Eds w v E := by
  obtain ⟨X, rfl, h2, h3⟩ := h
  have h2' := h2
  obtain ⟨h4, h5⟩ := h2
  rcases h5 with ⟨rfl, h5⟩ | ⟨g, cap, cur, rfl, hg, hh, hc, r⟩
  · refine .inl ⟨none, 0, rfl, ?_⟩
    rw [List.length_eq_zero_iff.1 h5]; rfl
  · refine .inr ⟨g, 0, cap, by rw [List.length_map], by rw [List.length_map]; exact hc, fun i hi => ?_⟩
    have hi' : i < X.length := by simpa using hi
    obtain ⟨f0, f1, f2⟩ := flat_at X i hi'
    have c0 := h2'.cellAt (i * 3) (by omega)
    have c1 := h2'.cellAt (i * 3 + 1) (by omega)
    have c2 := h2'.cellAt (i * 3 + 2) (by omega)
    simp only [Nat.zero_add, List.getElem_map]
    exact ⟨c0.trans f0, c1.trans f1, _, c2.trans f2, h3 _ (List.getElem_mem hi')⟩
theorem infoRef : (Tryd.prog.info? 54).map (fun i => (i.zero, i.size, i.bytes)) = some (some (.agg #[.int .i64 0, .int .i64 0, .slice none 0 0]), 3, 40) := by kernel_rfl
theorem infoEdit : (Tryd.prog.info? 50).map (fun i => (i.zero, i.size, i.bytes)) = some (some (.agg #[.int .i64 0, .int .i64 0, .slice none 0 0]), 3, 40) := by kernel_rfl
end Go.Proofs.YtcfbigkmhboepaaDoor.Line
