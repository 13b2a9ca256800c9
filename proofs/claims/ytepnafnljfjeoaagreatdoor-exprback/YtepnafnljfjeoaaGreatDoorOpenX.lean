/- An argument that is a tree, as the walks take it. -/
import Derived.Test.YtepnafnljfjeoaaGreatDoorPlainWs
import Derived.Test.YtepnafnljfjeoaaGreatDoorExMem
import Derived.Lay
import Derived.ChangeSlices
import Derived.Deep.Slices
import GoSem.ClaimJoined
namespace Go.Proofs.YtepnafnljfjeoaaGreatDoor.Line
open Go.ChangeShapes Go.WideShapes Go.ChangeAt Go.RowKit Go.ChangeMaps
open Ex (E)
set_option linter.unusedVariables false

theorem cellsPE : Tryz.prog.cellsOf 24 = 4 := by kernel_rfl
theorem bytesPE : Tryz.prog.bytesOf 24 = 56 := by kernel_rfl
theorem cellsI : Tryz.prog.cellsOf 3 = 1 := by kernel_rfl
theorem cellsI64 : Tryz.prog.cellsOf 2 = 1 := by kernel_rfl
theorem cellsStr : Tryz.prog.cellsOf 9 = 1 := by kernel_rfl
theorem cellsPES : Tryz.prog.cellsOf 22 = 1 := by kernel_rfl
set_option maxRecDepth 100000 in
theorem open_expr {H : Type} {enc : TypeId × Value → H} {W : World} : ∀ (fuel : Nat) (cs : List Value) (d : DataW H) (p : List MemPlace), DataW.trod enc Tryz.prog W 0 (fun _ => true) true fuel 24 cs = some (d, p) → ∃ (x : E) (sx : Value), cs = [.int .i64 x.kind, .int .i64 x.n, .string ⟨x.name.toArray⟩, sx] ∧ Forest W (fun _ => True) x.a sx ∧ NumX x := by
  intro fuel
  induction fuel using Nat.strongRecOn with
  | _ fuel ih =>
  intro cs d p h
  obtain ⟨xs, n, hfu, hx, hcl, hxl, hf⟩ := DataW.trod_struct Tryz.underlying24 h
  have hlen : xs.length = 4 := hxl
  match xs, hlen with
  | [y0, y1, y2, y3], _ =>
  rw [cellsPE] at hcl
  match cs, hcl with
  | [c0, c1, c2, c3], _ =>
  have h0 : DataW.trod enc Tryz.prog W 0 (fun _ => true) true n 3 [c0] = some y0 := by have this : DataW.trod enc Tryz.prog W 0 (fun _ => true) true n 3 ((([c0, c1, c2, c3] : List Value).drop 0).take (Tryz.prog.cellsOf 3)) = some y0 := hf 0 _ rfl; rw [cellsI] at this; simpa using this
  have h1 : DataW.trod enc Tryz.prog W 0 (fun _ => true) true n 2 [c1] = some y1 := by have this : DataW.trod enc Tryz.prog W 0 (fun _ => true) true n 2 ((([c0, c1, c2, c3] : List Value).drop 1).take (Tryz.prog.cellsOf 2)) = some y1 := hf 1 _ rfl; rw [cellsI64] at this; simpa using this
  have h2 : DataW.trod enc Tryz.prog W 0 (fun _ => true) true n 9 [c2] = some y2 := by have this : DataW.trod enc Tryz.prog W 0 (fun _ => true) true n 9 ((([c0, c1, c2, c3] : List Value).drop 2).take (Tryz.prog.cellsOf 9)) = some y2 := hf 2 _ rfl; rw [cellsStr] at this; simpa using this
  have h3' : DataW.trod enc Tryz.prog W 0 (fun _ => true) true n 22 [c3] = some y3 := by have this : DataW.trod enc Tryz.prog W 0 (fun _ => true) true n 22 ((([c0, c1, c2, c3] : List Value).drop 3).take (Tryz.prog.cellsOf 22)) = some y3 := hf 3 _ rfl; rw [cellsPES] at this; simpa using this
  obtain ⟨k, hk, hy0, _⟩ := DataW.trod_int Tryz.underlying3 h0
  obtain ⟨z, hz, hy1, wz⟩ := DataW.trod_int Tryz.underlying2 h1
  obtain ⟨s, hs, hy2, hs2⟩ := DataW.trod_string Tryz.underlying9 h2
  simp only [List.cons.injEq, and_true] at hk hz hs
  subst hk hz hs
  injection hx with hx1 hx2
  subst hx1
  have bz := bounds_i64 wz
  rcases DataW.trod_slice Tryz.underlying22 h3' with ⟨hcs, hy3⟩ | ⟨a, len, cap, elems, rest, n2, hn2, hcs, hy3, hb, hl, hm, hel, hat, hsp, hns⟩
  · injection hcs with hcs _
    subst hcs
    exact ⟨.mk k z s.data.toList [], _, rfl, .nil _ _, .mk _ ⟨bz.1, bz.2⟩ (fun y hy => by simp [E.a] at hy)⟩
  · injection hcs with hcs _
    subst hcs
    by_cases h00 : len = 0
    · subst h00
      exact ⟨.mk k z s.data.toList [], _, rfl, .nil _ _, .mk _ ⟨bz.1, bz.2⟩ (fun y hy => by simp [E.a] at hy)⟩
    have each : ∀ i, i < len → ∃ y : E × Value, (∀ o, o < 4 → W.cell? ((a.add (i * 4)).add o) = ([.int .i64 y.1.kind, .int .i64 y.1.n, .string ⟨y.1.name.toArray⟩, y.2] : List Value)[o]?) ∧ Forest W (fun _ => True) y.1.a y.2 ∧ NumX y.1 := by
      intro i hi
      have hi' : i < elems.length := by omega
      have hb2 := hat i hi
      rw [List.getElem?_eq_getElem hi'] at hb2
      obtain ⟨cs', hc1, hc2⟩ := Option.bind_eq_some_iff.1 hb2
      rw [cellsPE] at hc1
      obtain ⟨x, sx, hcx, hfx, hbx⟩ := ih n2 (by omega) cs' elems[i].1 elems[i].2 hc2
      obtain ⟨_, hcl, hcc⟩ := World.cells?_some hc1
      refine ⟨(x, sx), fun o ho => ?_, hfx, hbx⟩
      subst hcx
      exact hcc o ho
    haveI : Inhabited (E × Value) := ⟨(.mk 0 0 [] [], .bool true)⟩
    obtain ⟨Y, hY⟩ := Deep.choose_lt each
    obtain ⟨b, off, spot⟩ := a
    have hspot : spot = none := by
      have := (hY 0 (by omega)).1 0 (by omega)
      simpa [Addr.add] using World.cell?_spot this
    subst hspot
    refine ⟨.mk k z s.data.toList ((List.range len).map fun i => (Y i).1), .slice (some ⟨b, off, none⟩) len cap, rfl, ?_, ?_⟩
    · have := Forest.row (w := W) (S := fun _ => True) ((List.range len).map fun i => (Y i).1) b off cap (fun i => (Y i).2) trivial (by simpa using hl) hm (fun i hi => ?_) (fun i hi => ?_)
      · simpa [E.a] using this
      · have hi' : i < len := by simpa using hi
        have hc := (hY i hi').1
        simp only [List.getElem_map, List.getElem_range]
        simp only [Go.WideShapes.add_plain] at hc
        exact ⟨hc 0 (by omega), hc 1 (by omega), hc 2 (by omega), hc 3 (by omega)⟩
      · have hi' : i < len := by simpa using hi
        simp only [List.getElem_map, List.getElem_range]
        exact (hY i hi').2.1
    · refine .mk _ ⟨bz.1, bz.2⟩ (fun y hy => ?_)
      · simp only [E.a, List.mem_map, List.mem_range] at hy
        obtain ⟨i, hi, rfl⟩ := hy
        exact (hY i hi).2.2
set_option maxRecDepth 100000 in
theorem arg_expr {H : Type} {enc : TypeId × Value → H} {W : World} {v : Value} {d : DataW H} {p : List MemPlace} {base : Nat} (hv : Value.okWide Tryz.prog W .any base 24 v) (h : DataW.Trod enc Tryz.prog W 0 (fun _ => true) true 24 v d p) :
    ∃ (x : E) (sx : Value), v = treeV x sx ∧ Forest W (fun _ => True) x.a sx ∧ NumX x := by
  obtain ⟨cs, rfl, hsz⟩ := okWide_struct Tryz.underlying24 hv
  obtain ⟨fuel, hf⟩ := h
  obtain ⟨x, sx, h1, h2, h3⟩ := open_expr fuel _ d p hf
  refine ⟨x, sx, ?_, h2, h3⟩
  have : cs = #[.int .i64 x.kind, .int .i64 x.n, .string ⟨x.name.toArray⟩, sx] := Array.toList_inj.1 (by simpa [Value.cells] using h1)
  rw [this]
theorem laidOut : laidOutB Tryz.prog = true := by kernel_rfl
set_option maxRecDepth 100000 in
theorem trod_lt {H : Type} {enc : TypeId × Value → H} {W : World} {v : Value} {d : DataW H} {p : List MemPlace} {t : TypeId} (h : DataW.Trod enc Tryz.prog W 0 (fun _ => true) true t v d p) : ∀ x ∈ p, x.block < W.heap.size := by
  obtain ⟨m, hm⟩ := h
  exact DataW.trod_lt m _ _ _ hm
end Go.Proofs.YtepnafnljfjeoaaGreatDoor.Line
