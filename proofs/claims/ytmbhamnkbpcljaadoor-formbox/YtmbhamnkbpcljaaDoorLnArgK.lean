/- Arguments that are rows of small numbers, rows of strings. -/
import Derived.Test.YtmbhamnkbpcljaaDoorLnArg
namespace Go.Proofs.YtmbhamnkbpcljaaDoor.Line
open Go.ChangeShapes Go.WideShapes Go.ChangeAt Go.RowKit Go.ChangeMaps
set_option linter.unusedVariables false

/-- numbers of a kind that are only read -/
def IntsK (k : IntKind) (w : World) (v : Value) (l : List Int) : Prop :=
  ∃ a cap, v = .slice a l.length cap ∧ l.length ≤ cap ∧ cap ≤ maxLen ∧ (l = [] ∨ ∃ b off, a = some ⟨b, off, none⟩ ∧ ∀ i (h : i < l.length), w.cell? ⟨b, off + i, none⟩ = some (.int k l[i]))
theorem IntsK.below {k : IntKind} {w w' : World} {v : Value} {l : List Int} (h : IntsK k w v l) (hb : Below w.heap.size w w') : IntsK k w' v l := by
  obtain ⟨a, cap, h1, h2, h3, h4⟩ := h
  refine ⟨a, cap, h1, h2, h3, ?_⟩
  rcases h4 with h4 | ⟨b, off, h5, h6⟩
  · exact .inl h4
  · exact .inr ⟨b, off, h5, fun i hi => (hb.cell (p := ⟨b, off + i, none⟩) (cell_lt (h6 i hi))).trans (h6 i hi)⟩
theorem IntsK.shape {k : IntKind} {w : World} {v : Value} {l : List Int} (h : IntsK k w v l) : ∃ a cap, v = .slice a l.length cap := by
  obtain ⟨a, cap, h1, _⟩ := h
  exact ⟨a, cap, h1⟩
theorem IntsK.at {k : IntKind} {w : World} {v : Value} {l : List Int} (h : IntsK k w v l) (hl : 0 < l.length) : ∃ b off cap, v = .slice (some ⟨b, off, none⟩) l.length cap ∧ l.length ≤ cap ∧ cap ≤ maxLen ∧ ∀ i (h : i < l.length), w.cell? ⟨b, off + i, none⟩ = some (.int k l[i]) := by
  obtain ⟨a, cap, h1, h2, h3, h4⟩ := h
  rcases h4 with rfl | ⟨b, off, rfl, h6⟩
  · simp at hl
  · exact ⟨b, off, cap, h1, h2, h3, h6⟩
theorem intsK_open {k : IntKind} {t e : TypeId} (ht : Tryd.prog.underlying t = some (.slice e)) (he : Tryd.prog.underlying e = some (.int k)) (hc : Tryd.prog.cellsOf e = 1) {H : Type} {enc : TypeId × Value → H} {W : World} {fuel : Nat} {v : Value} {x : DataW H × List MemPlace} (h : DataW.trod enc Tryd.prog W 0 (fun _ => true) true fuel t [v] = some x) :
    ∃ l, IntsK k W v l ∧ ∀ y ∈ l, (Lit.int k y).wf = true := by
  rcases open_ints ht he hc h with ⟨hcs, _⟩ | ⟨a, len, cap, zs, hcs, _, hl, hm, hz, _, hcell, hwf⟩
  · injection hcs with hcs _
    subst hcs
    exact ⟨[], ⟨none, 0, rfl, Nat.le_refl _, by decide, .inl rfl⟩, fun x hx => by cases hx⟩
  · injection hcs with hcs _
    subst hcs
    simp only [if_true] at hz
    have hR : ∀ y ∈ zs.take len, (Lit.int k y).wf = true := fun x hx => hwf x (List.mem_of_mem_take hx)
    by_cases h0 : len = 0
    · subst h0
      exact ⟨[], ⟨_, cap, rfl, Nat.zero_le _, hm, .inl rfl⟩, fun x hx => by cases hx⟩
    · obtain ⟨b, off, spot⟩ := a
      have hspot : spot = none := by simpa [Addr.add] using World.cell?_spot (hcell 0 (by omega))
      subst hspot
      refine ⟨zs.take len, ⟨_, cap, ?_, ?_, hm, .inr ⟨b, off, rfl, fun i hi => ?_⟩⟩, hR⟩
      · rw [List.length_take, Nat.min_eq_left (by omega)]
      · rw [List.length_take, Nat.min_eq_left (by omega)]; exact hl
      · rw [List.length_take] at hi
        have := hcell i (by omega)
        rw [Go.WideShapes.add_plain] at this
        rw [this]
        simp [show i < zs.length by omega]
set_option maxRecDepth 100000 in
theorem arg_i16s {H : Type} {enc : TypeId × Value → H} {W : World} {v : Value} {d : DataW H} {p : List MemPlace} {base : Nat} (hv : Value.okWide Tryd.prog W .any base 66 v) (h : DataW.Trod enc Tryd.prog W 0 (fun _ => true) true 66 v d p) :
    ∃ l, IntsK .i16 W v l ∧ ∀ y ∈ l, -32768 ≤ y ∧ y ≤ 32767 := by
  obtain ⟨a, len, cap, rfl⟩ := okWide_slice Tryd.underlying66 hv
  obtain ⟨fuel, hf⟩ := h
  obtain ⟨l, h1, h2⟩ := intsK_open Tryd.underlying66 Tryd.underlying62 (by kernel_rfl) hf
  exact ⟨l, h1, fun y hy => bounds_i16 (h2 y hy)⟩
set_option maxRecDepth 100000 in
theorem arg_i8s {H : Type} {enc : TypeId × Value → H} {W : World} {v : Value} {d : DataW H} {p : List MemPlace} {base : Nat} (hv : Value.okWide Tryd.prog W .any base 61 v) (h : DataW.Trod enc Tryd.prog W 0 (fun _ => true) true 61 v d p) :
    ∃ l, IntsK .i8 W v l ∧ ∀ y ∈ l, -128 ≤ y ∧ y ≤ 127 := by
  obtain ⟨a, len, cap, rfl⟩ := okWide_slice Tryd.underlying61 hv
  obtain ⟨fuel, hf⟩ := h
  obtain ⟨l, h1, h2⟩ := intsK_open Tryd.underlying61 Tryd.underlying64 (by kernel_rfl) hf
  exact ⟨l, h1, fun y hy => bounds_i8 (h2 y hy)⟩
set_option maxRecDepth 100000 in
theorem arg_u8s {H : Type} {enc : TypeId × Value → H} {W : World} {v : Value} {d : DataW H} {p : List MemPlace} {base : Nat} (hv : Value.okWide Tryd.prog W .any base 63 v) (h : DataW.Trod enc Tryd.prog W 0 (fun _ => true) true 63 v d p) :
    ∃ l, IntsK .u8 W v l ∧ ∀ y ∈ l, 0 ≤ y ∧ y ≤ 255 := by
  obtain ⟨a, len, cap, rfl⟩ := okWide_slice Tryd.underlying63 hv
  obtain ⟨fuel, hf⟩ := h
  obtain ⟨l, h1, h2⟩ := intsK_open Tryd.underlying63 Tryd.underlying5 (by kernel_rfl) hf
  exact ⟨l, h1, fun y hy => bounds_u8 (h2 y hy)⟩
end Go.Proofs.YtmbhamnkbpcljaaDoor.Line
