/- Arguments: a slice of strings, a slice of edits, as the walks take them. -/
import Derived.Test.YtcfbigkmhboepaaDoorMemE
import Derived.Lay
import Derived.Deep.Strs
import Derived.Deep.SlicePairs
namespace Go.Proofs.YtcfbigkmhboepaaDoor.Line
open Go.ChangeShapes Go.WideShapes Go.ChangeAt Go.RowKit Go.Deep
set_option linter.unusedVariables false

theorem cellsStr : Tryd.prog.cellsOf 9 = 1 := by kernel_rfl
theorem cellsSlice : Tryd.prog.cellsOf 22 = 1 := by kernel_rfl
theorem cellsInt : Tryd.prog.cellsOf 3 = 1 := by kernel_rfl
theorem cellsEdit : Tryd.prog.cellsOf 50 = 3 := by kernel_rfl

set_option maxRecDepth 100000 in
theorem open_row {H : Type} {enc : TypeId × Value → H} {W : World} {cs : List Value} {x : DataW H × List MemPlace} {n : Nat} (h : DataW.trod enc Tryd.prog W 0 (fun _ => true) true n 22 cs = some x) :
    ∃ v ls, cs = [v] ∧ Row W v ls ∧ ls.length ≤ maxLen := by
  rcases open_strs Tryd.underlying22 Tryd.underlying9 cellsStr h with ⟨rfl, _⟩ | ⟨a, l, c, m, Sx, rfl, _, hl, hm, hmm, _, hcell⟩
  · exact ⟨_, [], rfl, .inl ⟨_, _, rfl, rfl⟩, Nat.zero_le _⟩
  · simp only [if_true] at hmm
    subst hmm
    by_cases h0 : l = 0
    · subst h0
      exact ⟨_, [], rfl, .inl ⟨_, _, rfl, rfl⟩, Nat.zero_le _⟩
    · obtain ⟨b, off, spot⟩ := a
      have hspot : spot = none := by simpa [Addr.add] using World.cell?_spot (hcell 0 (by omega)).1
      subst hspot
      refine ⟨_, (List.range l).map fun i => (Sx i).data.toList, rfl, .inr ⟨b, off, m, by simp, by simpa using hl, fun i hi => ?_⟩, by simp; omega⟩
      have hi' : i < l := by simpa using hi
      rw [← Go.WideShapes.add_plain, (hcell i (by omega)).1]
      simp

set_option maxRecDepth 100000 in
theorem open_eds {H : Type} {enc : TypeId × Value → H} {W : World} {cs : List Value} {x : DataW H × List MemPlace} {n : Nat} (h : DataW.trod enc Tryd.prog W 0 (fun _ => true) true n 23 cs = some x) :
    ∃ v E, cs = [v] ∧ Eds W v E ∧ E.length ≤ maxLen := by
  rcases open_slice Tryd.underlying23 h with ⟨rfl, _⟩ | ⟨a, l, c, m, k, D, Pl, rfl, _, hl, hm, hmm, _, hx⟩
  · exact ⟨_, [], rfl, .inl ⟨_, _, rfl, rfl⟩, Nat.zero_le _⟩
  · simp only [if_true] at hmm
    subst hmm
    by_cases h0 : l = 0
    · subst h0
      exact ⟨_, [], rfl, .inl ⟨_, _, rfl, rfl⟩, Nat.zero_le _⟩
    · obtain ⟨b, off, spot⟩ := a
      have each : ∀ i, i < m → ∃ e : RawE, W.cell? ((⟨b, off, spot⟩ : Addr).add (i * 3)) = some (.int .i64 e.f) ∧ W.cell? ((⟨b, off, spot⟩ : Addr).add (i * 3 + 1)) = some (.int .i64 e.t) ∧ ∃ u, W.cell? ((⟨b, off, spot⟩ : Addr).add (i * 3 + 2)) = some u ∧ Row W u e.n := by
        intro i hi
        obtain ⟨cs', h1, h2⟩ := hx i hi
        rw [cellsEdit] at h1
        obtain ⟨_, hlen, hcell⟩ := World.cells?_some h1
        obtain ⟨y0, y1, y2, k', _, _, g0, g1, g2⟩ := trod_struct3 Tryd.underlying50 h2
        match cs', hlen with
        | [v0, v1, v2], _ =>
          simp [cellsInt, cellsSlice] at g0 g1 g2
          have e0 := hcell 0 (by omega)
          have e1 := hcell 1 (by omega)
          have e2 := hcell 2 (by omega)
          rw [add_add] at e0 e1 e2
          obtain ⟨n0, c0, _, _⟩ := DataW.trod_int Tryd.underlying3 g0
          obtain ⟨n1, c1, _, _⟩ := DataW.trod_int Tryd.underlying3 g1
          obtain ⟨u, ls, c2, hr, _⟩ := open_row g2
          injection c0 with c0
          injection c1 with c1
          injection c2 with c2
          subst c0
          subst c1
          subst c2
          exact ⟨⟨n0, n1, ls⟩, by simpa using e0, by simpa using e1, _, by simpa using e2, hr⟩
      have hspot : spot = none := by
        obtain ⟨e, h1, _⟩ := each 0 (by omega)
        simpa [Addr.add] using World.cell?_spot h1
      subst hspot
      haveI : Inhabited RawE := ⟨⟨0, 0, []⟩⟩
      obtain ⟨q, hq⟩ := choose_lt each
      refine ⟨_, (List.range l).map q, rfl, .inr ⟨b, off, m, by simp, by simpa using hl, fun i hi => ?_⟩, by simp; omega⟩
      have hi' : i < l := by simpa using hi
      obtain ⟨h1, h2, u, h3, h4⟩ := hq i (by omega)
      rw [Go.WideShapes.add_plain] at h1 h2 h3
      simp only [List.getElem_map, List.getElem_range]
      exact ⟨h1, by rw [Nat.add_assoc]; exact h2, u, by rw [Nat.add_assoc]; exact h3, h4⟩
end Go.Proofs.YtcfbigkmhboepaaDoor.Line
