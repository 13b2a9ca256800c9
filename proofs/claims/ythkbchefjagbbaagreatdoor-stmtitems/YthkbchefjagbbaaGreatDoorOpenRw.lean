/- An argument that is a row of rows of sizes, as the walk of StmtItems takes it. -/
import Derived.Test.YthkbchefjagbbaaGreatDoorStIw
import Derived.Lay
import Derived.ChangeSlices
import Derived.Deep.Matrix
namespace Go.Proofs.YthkbchefjagbbaaGreatDoor.Line
open Go.ChangeShapes Go.WideShapes Go.ChangeAt Go.RowKit Go.ChangeMaps
set_option linter.unusedVariables false

theorem cellsU : Tryz.prog.cellsOf 61 = 1 := by kernel_rfl
theorem cellsUS : Tryz.prog.cellsOf 56 = 1 := by kernel_rfl
theorem bounds_u16' {n : Int} (h : (Lit.int .u16 n).wf = true) : 0 ≤ n ∧ n ≤ 65535 := by
  have := bounds_u16 h
  exact ⟨this.1, by have := this.2; omega⟩
set_option maxRecDepth 100000 in
theorem arg_rw {H : Type} {enc : TypeId × Value → H} {W : World} {v : Value} {d : DataW H} {p : List MemPlace} {base : Nat} (hv : Value.okWide Tryz.prog W .any base 50 v) (h : DataW.Trod enc Tryz.prog W 0 (fun _ => true) true 50 v d p) :
    ∃ M, Rw W v M := by
  obtain ⟨a, len, cap, rfl⟩ := okWide_slice Tryz.underlying50 hv
  obtain ⟨fuel, hf⟩ := h
  have h2 := Deep.open_int_rows Tryz.underlying50 Tryz.underlying56 Tryz.underlying61 cellsUS cellsU hf
  rcases h2 with ⟨hcs, _⟩ | ⟨x, l, c, A, L, C, Z, hcs, _, hl, hm, _, hrow⟩
  · simp [Value.cells] at hcs
    obtain ⟨rfl, rfl, rfl⟩ := hcs
    exact ⟨[], .inl ⟨_, _, rfl, rfl⟩⟩
  · simp [Value.cells] at hcs
    obtain ⟨rfl, rfl, rfl⟩ := hcs
    by_cases h0 : len = 0
    · subst h0
      exact ⟨[], .inl ⟨_, _, rfl, rfl⟩⟩
    · obtain ⟨b, off, spot⟩ := x
      have hspot : spot = none := by simpa [Addr.add] using World.cell?_spot (hrow 0 (by omega)).1
      subst hspot
      refine ⟨(List.range len).map fun r => ((Z r).take (L r)).map Int.toNat, .inr ⟨b, off, cap, by simp, by simpa using hl, fun i hi => ?_⟩⟩
      rw [List.length_map, List.length_range] at hi
      obtain ⟨hc, hLC, hCm, hZ, hwf, _, hA⟩ := hrow i (by omega)
      rw [Go.WideShapes.add_plain] at hc
      refine ⟨_, hc, ?_⟩
      rw [List.getElem_map, List.getElem_range]
      have hlen : (((Z i).take (L i)).map Int.toNat).length = L i := by rw [List.length_map, List.length_take]; omega
      refine ⟨fun e he => ?_, ?_⟩
      · obtain ⟨z, hz, rfl⟩ := List.mem_map.1 he
        have := bounds_u16' (hwf z (List.mem_of_mem_take hz))
        omega
      · by_cases hL : L i = 0
        · exact .inl ⟨_, _, by rw [hL], List.length_eq_zero_iff.1 (by rw [hlen, hL])⟩
        · obtain ⟨a', ha⟩ : ∃ a', A i = some a' := by
            cases hh : A i with
            | none => have := (hrow i (by omega)).2.2.2.2.2.1 hh; omega
            | some a' => exact ⟨a', rfl⟩
          obtain ⟨_, hcell⟩ := hA a' ha
          obtain ⟨g, o, spot⟩ := a'
          have hspot : spot = none := by simpa [Addr.add] using World.cell?_spot (hcell 0 (by omega))
          subst hspot
          rw [ha]
          refine .inr ⟨g, o, C i, by rw [hlen], by rw [hlen]; exact hLC, fun k hk => ?_⟩
          rw [hlen] at hk
          have hc := hcell k (by omega)
          rw [Go.WideShapes.add_plain] at hc
          rw [hc, List.getElem_map, List.getElem_take]
          have hkz : k < (Z i).length := by omega
          have hg : (Z i).getD k 0 = (Z i)[k] := by rw [List.getD_eq_getElem?_getD, List.getElem?_eq_getElem hkz]; rfl
          rw [hg]
          have := bounds_u16' (hwf _ (List.getElem_mem hkz))
          congr 2
          omega
theorem laidOut : laidOutB Tryz.prog = true := by kernel_rfl
theorem trod_lt {H : Type} {enc : TypeId × Value → H} {W : World} {v : Value} {d : DataW H} {p : List MemPlace} {t : TypeId} (h : DataW.Trod enc Tryz.prog W 0 (fun _ => true) true t v d p) : ∀ x ∈ p, x.block < W.heap.size := by
  obtain ⟨m, hm⟩ := h
  exact DataW.trod_lt m _ _ _ hm
end Go.Proofs.YthkbchefjagbbaaGreatDoor.Line
