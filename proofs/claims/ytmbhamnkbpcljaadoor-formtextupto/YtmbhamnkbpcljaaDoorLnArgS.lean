/- Arguments that are rows of strings, within a bound. -/
import Derived.Test.YtmbhamnkbpcljaaDoorLnArg
import Derived.Test.YtmbhamnkbpcljaaDoorRows
import Derived.SliceStrings
namespace Go.Proofs.YtmbhamnkbpcljaaDoor.Line
open Go.ChangeShapes Go.WideShapes Go.ChangeAt Go.RowKit Go.ChangeMaps
set_option linter.unusedVariables false

theorem bulk_part {H : Type} {d : DataW H} {l : List (DataW H)} (h : d ∈ l) : Rows.uptoBulk d ≤ Rows.uptoBulkAll l := by
  induction l with
  | nil => cases h
  | cons x r ih =>
    simp only [Rows.uptoBulkAll]
    cases List.mem_cons.1 h with
    | inl e => subst e; omega
    | inr e => have := ih e; omega
theorem bulk_bound {H : Type} {l : List (DataW H)} (hk : Rows.uptoSmall H l = true) : Rows.uptoBulkAll l ≤ 1048576 := of_decide_eq_true hk
theorem bulk_lit {H : Type} {ss : List ByteArray} {s : ByteArray} (h : s ∈ ss) : s.data.toList.length ≤ Rows.uptoBulkAll (Go.ChangeShapes.strs (H := H) ss) := by
  have hm : (DataW.lit (.string s.data.toList) : DataW H) ∈ Go.ChangeShapes.strs ss := List.mem_map.2 ⟨s, h, rfl⟩
  have := bulk_part hm
  simp only [Rows.uptoBulk] at this
  omega
set_option maxRecDepth 100000 in
theorem arg_strs {H : Type} {enc : TypeId × Value → H} {W : World} {v : Value} {d : DataW H} {p : List MemPlace} {base : Nat} (hv : Value.okWide Tryd.prog W .any base 53 v) (h : DataW.Trod enc Tryd.prog W 0 (fun _ => true) true 53 v d p) :
    ∃ names, Row W v names ∧ ∀ x ∈ names, x.length ≤ Rows.uptoBulk d := by
  obtain ⟨a, len, cap, rfl⟩ := okWide_slice Tryd.underlying53 hv
  obtain ⟨fuel, hf⟩ := h
  rcases open_strings Tryd.underlying53 Tryd.underlying9 (by kernel_rfl) hf with ⟨hcs, hx⟩ | ⟨a0, len', cap', ss, hcs, _, hl, hm, hz, hx, hcell, hsz⟩
  · injection hcs with hcs _
    injection hcs with e1 e2 e3
    subst e1 e2 e3
    exact ⟨[], .inl ⟨_, _, rfl, rfl⟩, fun x hx => by cases hx⟩
  · injection hcs with hcs _
    injection hcs with e1 e2 e3
    subst e1 e2 e3
    simp only [if_true] at hz
    have hd : d = .slice (Go.ChangeShapes.strs (ss.take len)) (Go.ChangeShapes.strs (ss.drop len)) := congrArg Prod.fst hx
    refine ⟨(ss.take len).map fun s => s.data.toList, ?_, fun x hx => ?_⟩
    · by_cases h0 : len = 0
      · subst h0
        exact .inl ⟨_, cap, rfl, rfl⟩
      · obtain ⟨b, off, spot⟩ := a0
        have hspot : spot = none := by simpa [Addr.add] using World.cell?_spot (hcell 0 (by omega))
        subst hspot
        have hlen : ((ss.take len).map fun s => s.data.toList).length = len := by rw [List.length_map, List.length_take]; omega
        refine .inr ⟨b, off, cap, by rw [hlen], by rw [hlen]; exact hl, fun i hi => ?_⟩
        rw [hlen] at hi
        have := hcell i (by omega)
        rw [Go.WideShapes.add_plain] at this
        rw [this]
        simp [show i < ss.length by omega]
    · obtain ⟨s, hs, rfl⟩ := List.mem_map.1 hx
      have := bulk_lit (H := H) hs
      rw [hd]
      simp only [Rows.uptoBulk]
      omega
end Go.Proofs.YtmbhamnkbpcljaaDoor.Line
