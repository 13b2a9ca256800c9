/- What the rows lists give a walk (the variable that errors.As reads), and a world in which all listed variables lie. -/
import Derived.Test.YtlebbbkmbljnoaaDoorCards
import Derived.Test.YtlebbbkmbljnoaaDoorTie
import Derived.Test.YtlebbbkmbljnoaaDoorMem
import Derived.Lay
import Derived.LaidHandle
import Derived.SevenTiedAt
namespace Go.Proofs.YtlebbbkmbljnoaaDoor.Laid
open Go.ChangeShapes Go.WideShapes Go.ChangeAt Go.RowKit Go.ChangeMaps

theorem own : ownKnob Tryd.prog.godebug = none := by kernel_rfl
theorem et : Tryd.prog.globalNamed "errors.errorType" = some 0 := by kernel_rfl
theorem rt : (Tryd.prog.cutTypes.find? (·.1 == "internal/reflectlite.rtype")).map (·.2) = some 91 := by kernel_rfl
theorem oneRow : ((List.range 149).filter fun t => Tryd.prog.rowNamed t [101, 114, 114, 111, 114]) = [25] := by kernel_rfl
theorem size : Tryd.prog.types.size = 149 := by kernel_rfl

/-- the list of the rows that come to errors.As -/
def list : List (String × DataW Unit) := Rows.lineSplitRow.laid
theorem handle {W : World} (h : laidMetH Tryd.prog list W) : W.cell? ⟨0, 0, none⟩ = some (.iface 91 (.agg #[.pointer (some ⟨4, 25, none⟩)])) := by
  have h' : laidMet Tryd.prog [("unicode/utf8.acceptRanges", Rows.laid_unicode_utf8_acceptRanges), ("unicode/utf8.first", Rows.laid_unicode_utf8_first)] W ∧ handlesMet Tryd.prog [("errors.errorType", Rows.laid_errors_errorType)] W := h
  obtain ⟨name, u, ty, e1, e2, e3, e4, e5⟩ := h'.2 _ (List.mem_singleton.2 rfl)
  have en : name = [101, 114, 114, 111, 114] := (Option.some.inj e1).symm
  subst en
  obtain rfl := Option.some.inj (rt.symm.trans e2)
  have hm : ty ∈ (List.range 149).filter fun t => Tryd.prog.rowNamed t [101, 114, 114, 111, 114] := List.mem_filter.2 ⟨List.mem_range.2 (by rw [← size]; exact e3), e4⟩
  rw [oneRow] at hm
  obtain rfl := List.mem_singleton.1 hm
  have hh : typeHandle Tryd.prog 25 = .pointer (some ⟨4, 25, none⟩) := by kernel_rfl
  rw [hh] at e5
  simpa using World.var?_cell et e5 0

/-- the settled world, the handle s cell laid -/
noncomputable def base (os : Os) : World :=
  { World.holding Tryd.prog os ⟨#[], #[], []⟩ with heap := (World.holding Tryd.prog os ⟨#[], #[], []⟩).heap.modify 0 fun
      | .cells _ t frozen => .cells #[.iface 91 (.agg #[.pointer (some ⟨4, 25, none⟩)])] t frozen
      | o => o }
/-- and the two tables -/
noncomputable def world (os : Os) : World := (base os).layVars Tryd.prog (list.filter fun x => x.2.handleName?.isNone)
theorem world_os (os : Os) : (world os).os = os := World.layVars_os _ _ _
theorem plainMet (os : Os) : laidMet Tryd.prog (list.filter fun x => x.2.handleName?.isNone) (world os) := by
  have e1 : ((list.filter fun x => x.2.handleName?.isNone).filter fun x => (((list.filter fun x => x.2.handleName?.isNone).map (·.1)).contains x.1)) = list.filter fun x => x.2.handleName?.isNone :=
    List.filter_eq_self.2 fun x hx => List.contains_iff_mem.2 (List.mem_map.2 ⟨x, hx, rfl⟩)
  have e2 : ((list.filter fun x => x.2.handleName?.isNone).filter fun x => !(((list.filter fun x => x.2.handleName?.isNone).map (·.1)).contains x.1)) = [] :=
    List.filter_eq_nil_iff.2 fun x hx => by rw [List.contains_iff_mem.2 (List.mem_map.2 ⟨x, hx, rfl⟩)]; simp
  exact laidMet_layVars (w0 := base os) ((list.filter fun x => x.2.handleName?.isNone).map (·.1)) [] (by rw [e1]; rfl) (by rw [e1]; kernel_rfl) (by rw [e1]; kernel_rfl) (by rw [e2]; exact LaidIn.none)
theorem met (os : Os) (args : Array Value) : laidMetH Tryd.prog list ((world os).forCall (fun _ _ => 0) ⟨#[], args, []⟩).memory := by
  refine laidMetH_of_parts ((plainMet os).of_heap (by simp [World.memory, World.forCall, Input.heap])) ?_
  kernel_rfl
theorem shaped (os : Os) : (world os).Shaped Tryd.prog := World.shaped_of_ZipB (by kernel_rfl) (by kernel_rfl)
end Go.Proofs.YtlebbbkmbljnoaaDoor.Laid
