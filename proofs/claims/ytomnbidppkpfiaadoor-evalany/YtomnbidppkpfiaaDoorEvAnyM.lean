/- What EvalAny's walk keeps in memory. -/
import Derived.Test.YtomnbidppkpfiaaDoorEvNames
import Derived.Test.YtomnbidppkpfiaaDoorEvRTwo
import Derived.Test.YtomnbidppkpfiaaDoorEvStore
import Derived.Test.YtomnbidppkpfiaaDoorEvTo
import Derived.Test.YtomnbidppkpfiaaDoorEvKnown
namespace Go.Proofs.YtomnbidppkpfiaaDoor.Line
open Go.ChangeShapes Go.WideShapes Go.ChangeAt Go.RowKit
open Ex (E)
open Ev (Sy Res)
set_option linter.unusedVariables false

/-- a table's box, a tree's box -/
def S6 (tb xb : Nat) (sv : Value) (N : Nat) (x : E) (sx : Value) (W : World) : Prop := W.cell? ⟨tb, 0, none⟩ = some sv ∧ W.cell? ⟨tb, 1, none⟩ = some (.int .i64 N) ∧ W.cell? ⟨xb, 0, none⟩ = some (.int .i64 x.kind) ∧ W.cell? ⟨xb, 1, none⟩ = some (.int .i64 x.n) ∧ W.cell? ⟨xb, 2, none⟩ = some (.string ⟨x.name.toArray⟩) ∧ W.cell? ⟨xb, 3, none⟩ = some sx
theorem S6.keep {tb xb : Nat} {sv : Value} {N : Nat} {x : E} {sx : Value} {W W' : World} (h : S6 tb xb sv N x sx W) (hb : Below W.heap.size W W') : S6 tb xb sv N x sx W' := by
  have hc : ∀ {b o : Nat} {v : Value}, W.cell? ⟨b, o, none⟩ = some v → W'.cell? ⟨b, o, none⟩ = some v := fun {b o v} h => (hb.cell (p := ⟨b, o, none⟩) (cell_lt h)).trans h
  obtain ⟨h0, h1, h2, h3, h4, h5⟩ := h
  exact ⟨hc h0, hc h1, hc h2, hc h3, hc h4, hc h5⟩
structure AM (w : World) (eb tb xb : Nat) (x : E) (sx sy sv lv : Value) (l : List Int) (T : List Sy) (N : Nat) (W : World) : Prop where
  s1 : S6 tb eb sv N x sx W
  s2 : S6 tb xb sv N x sy W
  fx : Forest W (fun _ => True) x.a sx
  fy : Forest W (fun _ => True) x.a sy
  hs : Syms W sv T
  hl : Ints W lv l
  old : Below w.heap.size w W
theorem AM.below {w : World} {eb tb xb : Nat} {x : E} {sx sy sv lv : Value} {l : List Int} {T : List Sy} {N : Nat} {W W' : World} (h : AM w eb tb xb x sx sy sv lv l T N W) (hb : Below W.heap.size W W') : AM w eb tb xb x sx sy sv lv l T N W' :=
  ⟨h.s1.keep hb, h.s2.keep hb, h.fx.old hb, h.fy.old hb, h.hs.below hb, h.hl.below hb, bthen h.old hb⟩
theorem within_tabN (m : Nat) : Ev.Within (Ev.tabN (1 + (m : Int))) (m + 12) := by
  intro y hy
  simp only [Ev.tabN, List.mem_cons, List.not_mem_nil, or_false] at hy
  rcases hy with rfl | rfl | rfl | rfl | rfl | rfl | rfl <;> (simp only [Ev.prod]; omega)
theorem rplace_of {T : List Sy} {s : List Int} {N : Nat} (hT : Ev.Fine T) (hw : Ev.Within T N) (hs : s.length = N) (x : E) (h : Ev.RW T x) (hk : x.kind = 2 ∨ x.kind = 3) : RPlaceOk T s x := by
  cases h with
  | num x hk2 => exact absurd hk (by omega)
  | var x hk2 y hf hd ha => exact fun w sv c stv sx h1 h2 h3 => rplace_any T s hT x (by simp [ha]) y hf (by simp [hd, ha]) (fun z hz => by simp [ha] at hz) w sv c stv sx h1 h2 h3 (by unfold Ev.parts; rw [if_neg (by omega), ha])
  | elem x hk2 y hf hd hl hs2 => exact fun w sv c stv sx h1 h2 h3 => rplace_any T s hT x hl y hf hd (fun z hz => reval_any hT hw hs z (hs2 z hz)) w sv c stv sx h1 h2 h3 (by unfold Ev.parts; rw [if_pos (by omega)])
  | neg x hk2 => exact absurd hk (by omega)
  | two x hk2 => exact absurd hk (by omega)
theorem sto_at {w : World} {q N : Nat} {l : List Int} (h : Ints w (.slice (some ⟨q, 0, none⟩) N N) (stoP N l)) {i : Nat} (hi : i < N) : w.cell? ⟨q, i, none⟩ = some (.int .i64 (l.getD i 0)) := by
  obtain ⟨b, off, cap, hv, -, -, hc⟩ := h.at (by rw [stoP_len]; omega)
  injection hv with h1 h2 h3
  injection h1 with h1
  injection h1 with h4 h5
  subst h4 h5
  have := hc i (by rw [stoP_len]; exact hi)
  rw [Nat.zero_add] at this
  rw [this]
  simp [stoP]
end Go.Proofs.YtomnbidppkpfiaaDoor.Line
