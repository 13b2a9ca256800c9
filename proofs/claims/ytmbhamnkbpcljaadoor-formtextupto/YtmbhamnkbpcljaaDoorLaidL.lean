/- What the rows lists give a walk (the variable that errors.As reads), and a world in which all listed variables lie. -/
import Derived.Test.YtmbhamnkbpcljaaDoorCards
import Derived.Test.YtmbhamnkbpcljaaDoorTie
import Derived.Test.YtmbhamnkbpcljaaDoorLnSh
import Derived.Test.YtmbhamnkbpcljaaDoorBaseAll
import Derived.Lay
import Derived.LaidHandle
import Derived.SevenTiedAt
namespace Go.Proofs.YtmbhamnkbpcljaaDoor.Laid
open Go.ChangeShapes Go.WideShapes Go.ChangeAt Go.RowKit Go.ChangeMaps

theorem own : ownKnob Tryd.prog.godebug = none := by kernel_rfl
theorem et : Tryd.prog.globalNamed "errors.errorType" = some 0 := by kernel_rfl
theorem oneRow : ((List.range 180).filter fun t => Tryd.prog.rowNamed t [101, 114, 114, 111, 114]) = [28] := by kernel_rfl
theorem size : Tryd.prog.types.size = 180 := by kernel_rfl

/-- the list of the rows that come to errors.As -/
def list : List (String × DataW Unit) := Rows.formEndsRow.laid
/-- its plain data: all but the handle -/
def plainList : List (String × DataW Unit) := list.filter fun x => x.2.handleName?.isNone
theorem handle {W : World} (h : laidMetH Tryd.prog list W) : W.cell? ⟨0, 0, none⟩ = some (.iface 120 (.agg #[.pointer (some ⟨4, 28, none⟩)])) := by
  have h' : laidMet Tryd.prog (list.filter fun x => x.2.handleName?.isNone) W ∧ handlesMet Tryd.prog (list.filter fun x => x.2.handleName?.isSome) W := h
  have hx : list[3]'(by decide) ∈ list.filter fun x => x.2.handleName?.isSome := List.mem_filter.2 ⟨List.getElem_mem _, by kernel_rfl⟩
  obtain ⟨name, u, ty, e1, e2, e3, e4, e5⟩ := h'.2 _ hx
  have en : name = [101, 114, 114, 111, 114] := (Option.some.inj e1).symm
  subst en
  have eu : 120 = u := Option.some.inj (Eq.trans (by kernel_rfl) e2)
  subst eu
  have hm : ty ∈ (List.range 180).filter fun t => Tryd.prog.rowNamed t [101, 114, 114, 111, 114] := List.mem_filter.2 ⟨List.mem_range.2 (by rw [← size]; exact e3), e4⟩
  rw [oneRow] at hm
  obtain rfl := List.mem_singleton.1 hm
  have hh : typeHandle Tryd.prog 28 = .pointer (some ⟨4, 28, none⟩) := by kernel_rfl
  rw [hh] at e5
  simpa using World.var?_cell et e5 0

theorem var_block {P : Program} {W : World} {n : String} {g : Nat} {cs : Array Value} (hg : P.globalNamed n = some g) (h : W.var? P n = some cs) : ∃ t f, W.heap[g]? = some (.cells cs t f) := by
  unfold World.var? at h
  rw [hg] at h
  simp only [Option.bind_some] at h
  split at h
  · rename_i c t f he
    exact ⟨t, f, by rw [he, Option.some.inj h]⟩
  · cases h
theorem tab {W : World} (h : laidMetH Tryd.prog list W) : ∃ t f, W.heap[1]? = some (.cells (Lib.pow10Tab.map fun z => Value.int .u64 z).toArray t f) := by
  have h' : laidMet Tryd.prog (list.filter fun x => x.2.handleName?.isNone) W ∧ handlesMet Tryd.prog (list.filter fun x => x.2.handleName?.isSome) W := h
  obtain ⟨⟨ps, hv, _, _⟩, _⟩ := h'
  obtain ⟨g0, t0, cs0, f0, p0, q0, _, _, _, _, hv1, _⟩ := hv
  obtain ⟨g1, t1, cs1, f1, p1, q1, _, _, _, _, hv2, _⟩ := hv1
  obtain ⟨g2, t2, cs2, f2, p2, q2, hg, ht, hvar, hd, _, _⟩ := hv2
  obtain rfl : 1 = g2 := Option.some.inj (Eq.trans (by kernel_rfl) hg)
  obtain rfl : 144 = t2 := Option.some.inj (Eq.trans (by kernel_rfl) ht)
  have hcs : cs2.toList = Lib.pow10Tab.map fun z => Value.int .u64 z := Lib.cells_of_tab (P := Tryd.prog) (n := 20) (e := 95) (k := .u64) (zs := Lib.pow10Tab) (by kernel_rfl) (by kernel_rfl) (by kernel_rfl) (by kernel_rfl) hd
  obtain ⟨t, f, hh⟩ := var_block hg hvar
  exact ⟨t, f, by rw [hh, ← hcs]⟩
/-- the handle s cell laid -/
def setHandle : Obj → Obj
  | .cells _ t frozen => .cells #[.iface 120 (.agg #[.pointer (some ⟨4, 28, none⟩)])] t frozen
  | o => o
theorem world_os (os : Os) : (World.layVars Tryd.prog { World.holding Tryd.prog os ⟨#[], #[], []⟩ with heap := (World.holding Tryd.prog os ⟨#[], #[], []⟩).heap.modify 0 setHandle } plainList).os = os := World.layVars_os _ _ _
theorem plainMet (os : Os) : laidMet Tryd.prog plainList (World.layVars Tryd.prog { World.holding Tryd.prog os ⟨#[], #[], []⟩ with heap := (World.holding Tryd.prog os ⟨#[], #[], []⟩).heap.modify 0 setHandle } plainList) := by
  have e1 : (plainList.filter fun x => ((plainList.map (·.1)).contains x.1)) = plainList :=
    List.filter_eq_self.2 fun x hx => List.contains_iff_mem.2 (List.mem_map.2 ⟨x, hx, rfl⟩)
  have e2 : (plainList.filter fun x => !((plainList.map (·.1)).contains x.1)) = [] :=
    List.filter_eq_nil_iff.2 fun x hx => by rw [List.contains_iff_mem.2 (List.mem_map.2 ⟨x, hx, rfl⟩)]; simp
  exact laidMet_layVars (w0 := { World.holding Tryd.prog os ⟨#[], #[], []⟩ with heap := (World.holding Tryd.prog os ⟨#[], #[], []⟩).heap.modify 0 setHandle }) (plainList.map (·.1)) [] (by rw [e1]) (by rw [e1]; kernel_rfl) (by rw [e1]; kernel_rfl) (by rw [e2]; exact LaidIn.none)
theorem met (os : Os) (args : Array Value) : laidMetH Tryd.prog list ((World.layVars Tryd.prog { World.holding Tryd.prog os ⟨#[], #[], []⟩ with heap := (World.holding Tryd.prog os ⟨#[], #[], []⟩).heap.modify 0 setHandle } plainList).forCall (fun _ _ => 0) ⟨#[], args, []⟩).memory := by
  refine laidMetH_of_parts ((plainMet os).of_heap (by simp [World.memory, World.forCall, Input.heap])) ?_
  kernel_rfl
theorem shaped (os : Os) : (World.layVars Tryd.prog { World.holding Tryd.prog os ⟨#[], #[], []⟩ with heap := (World.holding Tryd.prog os ⟨#[], #[], []⟩).heap.modify 0 setHandle } plainList).Shaped Tryd.prog := World.shaped_of_ZipB (by kernel_rfl) (by kernel_rfl)
end Go.Proofs.YtmbhamnkbpcljaaDoor.Laid
