/- Arguments that are forms, rows of numbers. -/
import Derived.Test.YtmbhamnkbpcljaaDoorLnCst
import Derived.Lay
import Derived.ChangeSlices
import Derived.Deep.Slices
import GoSem.ClaimJoined
namespace Go.Proofs.YtmbhamnkbpcljaaDoor.Line
open Go.ChangeShapes Go.WideShapes Go.ChangeAt Go.RowKit Go.ChangeMaps
set_option linter.unusedVariables false

theorem cellsF : Tryd.prog.cellsOf FmT = 2 := by kernel_rfl
theorem cellsI64 : Tryd.prog.cellsOf 2 = 1 := by kernel_rfl
theorem cellsISl : Tryd.prog.cellsOf 22 = 1 := by kernel_rfl
theorem ints_open {H : Type} {enc : TypeId × Value → H} {W : World} {fuel : Nat} {v : Value} {x : DataW H × List MemPlace} (h : DataW.trod enc Tryd.prog W 0 (fun _ => true) true fuel 22 [v] = some x) :
    ∃ l, Ints W v l ∧ Rng l := by
  rcases open_ints Tryd.underlying22 Tryd.underlying2 cellsI64 h with ⟨hcs, _⟩ | ⟨a, len, cap, zs, hcs, _, hl, hm, hz, _, hcell, hwf⟩
  · injection hcs with hcs _
    subst hcs
    exact ⟨[], Ints.nil W, fun x hx => by cases hx⟩
  · injection hcs with hcs _
    subst hcs
    simp only [if_true] at hz
    have hR : Rng (zs.take len) := fun x hx => bounds_i64 (hwf x (List.mem_of_mem_take hx))
    by_cases h0 : len = 0
    · subst h0
      exact ⟨[], ⟨_, cap, rfl, Nat.zero_le _, hm, .inl rfl⟩, fun x hx => by cases hx⟩
    · obtain ⟨b, off, spot⟩ := a
      have hspot : spot = none := by simpa [Addr.add] using World.cell?_spot (hcell 0 (by omega))
      subst hspot
      refine ⟨zs.take len, ⟨_, cap, ?_, ?_, hm, .inr ⟨b, off, rfl, fun i hi => ?_⟩⟩, hR⟩
      · rw [List.length_take, Nat.min_eq_left (by omega)]
      · rw [List.length_take, Nat.min_eq_left (by omega)]; exact hl
      · rw [List.length_take] at hi
        have := hcell i (by omega)
        rw [Go.WideShapes.add_plain] at this
        rw [this]
        simp [show i < zs.length by omega]
set_option maxRecDepth 100000 in
theorem arg_intsR {H : Type} {enc : TypeId × Value → H} {W : World} {v : Value} {d : DataW H} {p : List MemPlace} {base : Nat} (hv : Value.okWide Tryd.prog W .any base 22 v) (h : DataW.Trod enc Tryd.prog W 0 (fun _ => true) true 22 v d p) :
    ∃ l, Ints W v l ∧ Rng l := by
  obtain ⟨a, len, cap, rfl⟩ := okWide_slice Tryd.underlying22 hv
  obtain ⟨fuel, hf⟩ := h
  exact ints_open hf
set_option maxRecDepth 100000 in
theorem arg_form {H : Type} {enc : TypeId × Value → H} {W : World} {v : Value} {d : DataW H} {p : List MemPlace} {base : Nat} (hv : Value.okWide Tryd.prog W .any base FmT v) (h : DataW.Trod enc Tryd.prog W 0 (fun _ => true) true FmT v d p) :
    ∃ cv l k, v = formV cv k ∧ Ints W cv l ∧ Rng l ∧ In64 k := by
  obtain ⟨cs, rfl, hsz⟩ := okWide_struct Tryd.underlying24 hv
  obtain ⟨fuel, hf⟩ := h
  obtain ⟨xs, n, hfu, hx, hcl, hxl, hff⟩ := DataW.trod_struct Tryd.underlying24 hf
  have hlen : xs.length = 2 := hxl
  match xs, hlen with
  | [y0, y1], _ =>
  rw [cellsF] at hcl
  have hcl2 : cs.toList.length = 2 := hcl
  obtain ⟨c0, c1, hcs⟩ : ∃ c0 c1, cs.toList = [c0, c1] := by
    match hh : cs.toList, hcl2 with
    | [c0, c1], _ => exact ⟨c0, c1, rfl⟩
  have h0 : DataW.trod enc Tryd.prog W 0 (fun _ => true) true n 22 [c0] = some y0 := by
    have this : DataW.trod enc Tryd.prog W 0 (fun _ => true) true n 22 ((cs.toList.drop 0).take (Tryd.prog.cellsOf 22)) = some y0 := hff 0 _ rfl
    rw [cellsISl, hcs] at this; simpa using this
  have h1 : DataW.trod enc Tryd.prog W 0 (fun _ => true) true n 2 [c1] = some y1 := by
    have this : DataW.trod enc Tryd.prog W 0 (fun _ => true) true n 2 ((cs.toList.drop 1).take (Tryd.prog.cellsOf 2)) = some y1 := hff 1 _ rfl
    rw [cellsI64, hcs] at this; simpa using this
  obtain ⟨z, hz, hy1, hwf⟩ := DataW.trod_int Tryd.underlying2 h1
  simp only [List.cons.injEq, and_true] at hz
  subst hz
  obtain ⟨l, hl, hr⟩ := ints_open h0
  refine ⟨c0, l, z, ?_, hl, hr, bounds_i64 hwf⟩
  have : cs = #[c0, .int .i64 z] := Array.toList_inj.1 (by rw [hcs])
  rw [this]
theorem laidOut : laidOutB Tryd.prog = true := by kernel_rfl
theorem trod_lt {H : Type} {enc : TypeId × Value → H} {W : World} {v : Value} {d : DataW H} {p : List MemPlace} {t : TypeId} (h : DataW.Trod enc Tryd.prog W 0 (fun _ => true) true t v d p) : ∀ x ∈ p, x.block < W.heap.size := by
  obtain ⟨m, hm⟩ := h
  exact DataW.trod_lt m _ _ _ hm
end Go.Proofs.YtmbhamnkbpcljaaDoor.Line
