/- An argument that is a tree, as the walks take it. -/
import Derived.Test.YtomnbidppkpfiaaDoorEvOf
import Derived.Test.YtomnbidppkpfiaaDoorEvTab
import Derived.Lay
import Derived.ChangeSlices
import Derived.Deep.Slices
import GoSem.ClaimJoined
namespace Go.Proofs.YtomnbidppkpfiaaDoor.Line
open Go.ChangeShapes Go.WideShapes Go.ChangeAt Go.RowKit Go.ChangeMaps
open Ex (E)
set_option linter.unusedVariables false

theorem cellsPE : Tryd.prog.cellsOf 24 = 4 := by kernel_rfl
theorem bytesPE : Tryd.prog.bytesOf 24 = 56 := by kernel_rfl
theorem cellsI : Tryd.prog.cellsOf 3 = 1 := by kernel_rfl
theorem cellsI64 : Tryd.prog.cellsOf 2 = 1 := by kernel_rfl
theorem cellsStr : Tryd.prog.cellsOf 9 = 1 := by kernel_rfl
theorem cellsPES : Tryd.prog.cellsOf 22 = 1 := by kernel_rfl
theorem weightsAll_mem {H : Type} {P : Program} {e : TypeId} {b : Nat} : ∀ {l : List (DataW H)} {d : DataW H}, d ∈ l → (DataW.weightsAll P e l).all (· ≤ b) = true → (d.weights P e).all (· ≤ b) = true
  | [], _, h, _ => by cases h
  | x :: r, d, h, hw => by
    rw [DataW.weightsAll, List.all_append, Bool.and_eq_true] at hw
    rcases List.mem_cons.1 h with rfl | h
    · exact hw.1
    · exact weightsAll_mem h hw.2
set_option maxRecDepth 100000 in
theorem open_expr {H : Type} {enc : TypeId × Value → H} {W : World} : ∀ (fuel : Nat) (cs : List Value) (d : DataW H) (p : List MemPlace), DataW.trod enc Tryd.prog W 0 (fun _ => true) true fuel 24 cs = some (d, p) → (d.weights Tryd.prog 24).all (· ≤ reachBytes) = true → ∃ (x : E) (sx : Value), cs = [.int .i64 x.kind, .int .i64 x.n, .string ⟨x.name.toArray⟩, sx] ∧ Forest W (fun _ => True) x.a sx ∧ Big x := by
  intro fuel
  induction fuel using Nat.strongRecOn with
  | _ fuel ih =>
  intro cs d p h hw
  obtain ⟨xs, n, hfu, hx, hcl, hxl, hf⟩ := DataW.trod_struct Tryd.underlying24 h
  have hlen : xs.length = 4 := hxl
  match xs, hlen with
  | [y0, y1, y2, y3], _ =>
  rw [cellsPE] at hcl
  match cs, hcl with
  | [c0, c1, c2, c3], _ =>
  have h0 : DataW.trod enc Tryd.prog W 0 (fun _ => true) true n 3 [c0] = some y0 := by have this : DataW.trod enc Tryd.prog W 0 (fun _ => true) true n 3 ((([c0, c1, c2, c3] : List Value).drop 0).take (Tryd.prog.cellsOf 3)) = some y0 := hf 0 _ rfl; rw [cellsI] at this; simpa using this
  have h1 : DataW.trod enc Tryd.prog W 0 (fun _ => true) true n 2 [c1] = some y1 := by have this : DataW.trod enc Tryd.prog W 0 (fun _ => true) true n 2 ((([c0, c1, c2, c3] : List Value).drop 1).take (Tryd.prog.cellsOf 2)) = some y1 := hf 1 _ rfl; rw [cellsI64] at this; simpa using this
  have h2 : DataW.trod enc Tryd.prog W 0 (fun _ => true) true n 9 [c2] = some y2 := by have this : DataW.trod enc Tryd.prog W 0 (fun _ => true) true n 9 ((([c0, c1, c2, c3] : List Value).drop 2).take (Tryd.prog.cellsOf 9)) = some y2 := hf 2 _ rfl; rw [cellsStr] at this; simpa using this
  have h3' : DataW.trod enc Tryd.prog W 0 (fun _ => true) true n 22 [c3] = some y3 := by have this : DataW.trod enc Tryd.prog W 0 (fun _ => true) true n 22 ((([c0, c1, c2, c3] : List Value).drop 3).take (Tryd.prog.cellsOf 22)) = some y3 := hf 3 _ rfl; rw [cellsPES] at this; simpa using this
  obtain ⟨k, hk, hy0, _⟩ := DataW.trod_int Tryd.underlying3 h0
  obtain ⟨z, hz, hy1, _⟩ := DataW.trod_int Tryd.underlying2 h1
  obtain ⟨s, hs, hy2, hs2⟩ := DataW.trod_string Tryd.underlying9 h2
  simp only [List.cons.injEq, and_true] at hk hz hs
  subst hk hz hs
  injection hx with hx1 hx2
  subst hx1
  have hw3 : (y3.1.weights Tryd.prog 22).all (· ≤ reachBytes) = true := by
    rw [DataW.weights, Tryd.underlying24] at hw
    simp only [List.map_cons, List.map_nil, DataW.weightsEach, List.all_append, Bool.and_eq_true] at hw
    exact hw.2.2.2.1
  rcases DataW.trod_slice Tryd.underlying22 h3' with ⟨hcs, hy3⟩ | ⟨a, len, cap, elems, rest, n2, hn2, hcs, hy3, hb, hl, hm, hel, hat, hsp, hns⟩
  · injection hcs with hcs _
    subst hcs
    exact ⟨.mk k z s.data.toList [], _, rfl, .nil _ _, .mk _ (by simp [E.a]) (fun y hy => by simp [E.a] at hy)⟩
  · injection hcs with hcs _
    subst hcs
    rw [hy3, DataW.weights, Tryd.underlying22] at hw3
    simp only [List.all_cons, List.all_append, Bool.and_eq_true, decide_eq_true_eq, List.length_map, bytesPE] at hw3
    obtain ⟨hw4, hw5, -⟩ := hw3
    by_cases h00 : len = 0
    · subst h00
      exact ⟨.mk k z s.data.toList [], _, rfl, .nil _ _, .mk _ (by simp [E.a]) (fun y hy => by simp [E.a] at hy)⟩
    have each : ∀ i, i < len → ∃ y : E × Value, (∀ o, o < 4 → W.cell? ((a.add (i * 4)).add o) = ([.int .i64 y.1.kind, .int .i64 y.1.n, .string ⟨y.1.name.toArray⟩, y.2] : List Value)[o]?) ∧ Forest W (fun _ => True) y.1.a y.2 ∧ Big y.1 := by
      intro i hi
      have hi' : i < elems.length := by omega
      have hb2 := hat i hi
      rw [List.getElem?_eq_getElem hi'] at hb2
      obtain ⟨cs', hc1, hc2⟩ := Option.bind_eq_some_iff.1 hb2
      rw [cellsPE] at hc1
      obtain ⟨x, sx, hcx, hfx, hbx⟩ := ih n2 (by omega) cs' elems[i].1 elems[i].2 hc2 (weightsAll_mem (List.mem_map.2 ⟨_, List.getElem_mem hi', rfl⟩) hw5)
      obtain ⟨_, hcl, hcc⟩ := World.cells?_some hc1
      refine ⟨(x, sx), fun o ho => ?_, hfx, hbx⟩
      subst hcx
      exact hcc o ho
    haveI : Inhabited (E × Value) := ⟨(.mk 0 0 [] [], .bool true)⟩
    obtain ⟨Y, hY⟩ := Deep.choose_lt each
    obtain ⟨b, off, spot⟩ := a
    have hspot : spot = none := by
      have := (hY 0 (by omega)).1 0 (by omega)
      simpa [Addr.add] using World.cell?_spot this
    subst hspot
    refine ⟨.mk k z s.data.toList ((List.range len).map fun i => (Y i).1), .slice (some ⟨b, off, none⟩) len cap, rfl, ?_, ?_⟩
    · have := Forest.row (w := W) (S := fun _ => True) ((List.range len).map fun i => (Y i).1) b off cap (fun i => (Y i).2) trivial (by simpa using hl) hm (fun i hi => ?_) (fun i hi => ?_)
      · simpa [E.a] using this
      · have hi' : i < len := by simpa using hi
        have hc := (hY i hi').1
        simp only [List.getElem_map, List.getElem_range]
        simp only [Go.WideShapes.add_plain] at hc
        exact ⟨hc 0 (by omega), hc 1 (by omega), hc 2 (by omega), hc 3 (by omega)⟩
      · have hi' : i < len := by simpa using hi
        simp only [List.getElem_map, List.getElem_range]
        exact (hY i hi').2.1
    · refine .mk _ ?_ (fun y hy => ?_)
      · simp only [E.a, List.length_map, List.length_range]
        have : reachBytes = 140737488351232 := rfl
        omega
      · simp only [E.a, List.mem_map, List.mem_range] at hy
        obtain ⟨i, hi, rfl⟩ := hy
        exact (hY i hi).2.2
set_option maxRecDepth 100000 in
theorem arg_expr {H : Type} {enc : TypeId × Value → H} {W : World} {v : Value} {d : DataW H} {p : List MemPlace} {base : Nat} (hv : Value.okWide Tryd.prog W .any base 24 v) (h : DataW.Trod enc Tryd.prog W 0 (fun _ => true) true 24 v d p) (hw : (d.weights Tryd.prog 24).all (· ≤ reachBytes) = true) :
    ∃ (x : E) (sx : Value), v = treeV x sx ∧ Forest W (fun _ => True) x.a sx ∧ Big x := by
  obtain ⟨cs, rfl, hsz⟩ := okWide_struct Tryd.underlying24 hv
  obtain ⟨fuel, hf⟩ := h
  obtain ⟨x, sx, h1, h2, h3⟩ := open_expr fuel _ d p hf hw
  refine ⟨x, sx, ?_, h2, h3⟩
  have : cs = #[.int .i64 x.kind, .int .i64 x.n, .string ⟨x.name.toArray⟩, sx] := Array.toList_inj.1 (by simpa [Value.cells] using h1)
  rw [this]
set_option maxRecDepth 100000 in
theorem arg_ints {H : Type} {enc : TypeId × Value → H} {W : World} {v : Value} {d : DataW H} {p : List MemPlace} {base : Nat} (hv : Value.okWide Tryd.prog W .any base 25 v) (h : DataW.Trod enc Tryd.prog W 0 (fun _ => true) true 25 v d p) :
    ∃ l, Ints W v l := by
  obtain ⟨a, len, cap, rfl⟩ := okWide_slice Tryd.underlying25 hv
  obtain ⟨fuel, hf⟩ := h
  rcases open_ints Tryd.underlying25 Tryd.underlying2 cellsI64 hf with ⟨hcs, _⟩ | ⟨x, l, c, zs, hcs, _, hl, hm, hz, _, hcell, _⟩
  · simp [Value.cells] at hcs
    obtain ⟨rfl, rfl, rfl⟩ := hcs
    exact ⟨[], Ints.nil W⟩
  · simp [Value.cells] at hcs
    obtain ⟨rfl, rfl, rfl⟩ := hcs
    simp only [if_true] at hz
    by_cases h0 : len = 0
    · subst h0
      exact ⟨[], _, cap, rfl, Nat.zero_le _, hm, .inl rfl⟩
    · obtain ⟨b, off, spot⟩ := x
      have hspot : spot = none := by simpa [Addr.add] using World.cell?_spot (hcell 0 (by omega))
      subst hspot
      refine ⟨zs.take len, _, cap, ?_, ?_, hm, .inr ⟨b, off, rfl, fun i hi => ?_⟩⟩
      · rw [List.length_take, Nat.min_eq_left (by omega)]
      · rw [List.length_take, Nat.min_eq_left (by omega)]; exact hl
      · rw [List.length_take] at hi
        have hc := hcell i (by omega)
        rw [Go.WideShapes.add_plain] at hc
        rw [hc, List.getElem_take]
        simp [List.getD, List.getElem?_eq_getElem (show i < zs.length by omega)]
theorem weightsEach_head {H : Type} {P : Program} {b : Nat} {t : TypeId} {ts : List TypeId} {d : DataW H} {ds : List (DataW H)} (h : (DataW.weightsEach P (t :: ts) (d :: ds)).all (· ≤ b) = true) : (d.weights P t).all (· ≤ b) = true := by
  rw [DataW.weightsEach, List.all_append, Bool.and_eq_true] at h
  exact h.1
theorem laidOut : laidOutB Tryd.prog = true := by kernel_rfl
set_option maxRecDepth 100000 in
theorem trod_lt {H : Type} {enc : TypeId × Value → H} {W : World} {v : Value} {d : DataW H} {p : List MemPlace} {t : TypeId} (h : DataW.Trod enc Tryd.prog W 0 (fun _ => true) true t v d p) : ∀ x ∈ p, x.block < W.heap.size := by
  obtain ⟨m, hm⟩ := h
  exact DataW.trod_lt m _ _ _ hm
end Go.Proofs.YtomnbidppkpfiaaDoor.Line
