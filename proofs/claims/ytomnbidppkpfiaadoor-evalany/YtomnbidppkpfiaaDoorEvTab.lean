/- Numbers and names in memory that are only read. -/
import Derived.Test.YtomnbidppkpfiaaDoorEvMemA
import Derived.Test.YtomnbidppkpfiaaDoorPlainEv
import Derived.Test.YtomnbidppkpfiaaDoorBaseAll
import Derived.Deep.MidRow
namespace Go.Proofs.YtomnbidppkpfiaaDoor.Line
open Go.ChangeShapes Go.WideShapes Go.ChangeAt Go.RowKit
open Ex (E)
open Ev (Sy Res)
set_option linter.unusedVariables false

/-- numbers that are only read -/
def Ints (w : World) (v : Value) (l : List Int) : Prop :=
  ∃ a cap, v = .slice a l.length cap ∧ l.length ≤ cap ∧ cap ≤ maxLen ∧ (l = [] ∨ ∃ b off, a = some ⟨b, off, none⟩ ∧ ∀ i (h : i < l.length), w.cell? ⟨b, off + i, none⟩ = some (.int .i64 l[i]))
theorem Ints.below {w w' : World} {v : Value} {l : List Int} (h : Ints w v l) (hb : Below w.heap.size w w') : Ints w' v l := by
  obtain ⟨a, cap, h1, h2, h3, h4⟩ := h
  refine ⟨a, cap, h1, h2, h3, ?_⟩
  rcases h4 with h4 | ⟨b, off, h5, h6⟩
  · exact .inl h4
  · exact .inr ⟨b, off, h5, fun i hi => (hb.cell (p := ⟨b, off + i, none⟩) (cell_lt (h6 i hi))).trans (h6 i hi)⟩
theorem Ints.nil (w : World) : Ints w (.slice none 0 0) [] := ⟨none, 0, rfl, Nat.le_refl _, by decide, .inl rfl⟩
theorem Ints.shape {w : World} {v : Value} {l : List Int} (h : Ints w v l) : ∃ a cap, v = .slice a l.length cap := by
  obtain ⟨a, cap, h1, _⟩ := h
  exact ⟨a, cap, h1⟩
theorem Ints.at {w : World} {v : Value} {l : List Int} (h : Ints w v l) (hl : 0 < l.length) : ∃ b off cap, v = .slice (some ⟨b, off, none⟩) l.length cap ∧ l.length ≤ cap ∧ cap ≤ maxLen ∧ ∀ i (h : i < l.length), w.cell? ⟨b, off + i, none⟩ = some (.int .i64 l[i]) := by
  obtain ⟨a, cap, h1, h2, h3, h4⟩ := h
  rcases h4 with rfl | ⟨b, off, rfl, h6⟩
  · simp at hl
  · exact ⟨b, off, cap, h1, h2, h3, h6⟩
def symC (x : Sy) (dv : Value) : List Value := [.string ⟨x.name.toArray⟩, dv, .int .i64 x.at_, .int .i64 x.size]
/-- a name as a value: its Dims lie in memory -/
abbrev symV (x : Sy) (dv : Value) : Value := .agg #[.string ⟨x.name.toArray⟩, dv, .int .i64 x.at_, .int .i64 x.size]
/-- names that are only read -/
def Syms (w : World) (v : Value) (T : List Sy) : Prop :=
  ∃ a cap, v = .slice a T.length cap ∧ T.length ≤ cap ∧ cap ≤ maxLen ∧ (T = [] ∨ ∃ b off, ∃ dv : Nat → Value, a = some ⟨b, off, none⟩ ∧ ∀ i (h : i < T.length), (w.cell? ⟨b, off + i * 4, none⟩ = some (.string ⟨T[i].name.toArray⟩) ∧ w.cell? ⟨b, off + i * 4 + 1, none⟩ = some (dv i) ∧ w.cell? ⟨b, off + i * 4 + 2, none⟩ = some (.int .i64 T[i].at_) ∧ w.cell? ⟨b, off + i * 4 + 3, none⟩ = some (.int .i64 T[i].size)) ∧ Ints w (dv i) T[i].dims)
theorem Syms.below {w w' : World} {v : Value} {T : List Sy} (h : Syms w v T) (hb : Below w.heap.size w w') : Syms w' v T := by
  obtain ⟨a, cap, h1, h2, h3, h4⟩ := h
  refine ⟨a, cap, h1, h2, h3, ?_⟩
  rcases h4 with h4 | ⟨b, off, dv, h5, h6⟩
  · exact .inl h4
  · refine .inr ⟨b, off, dv, h5, fun i hi => ?_⟩
    obtain ⟨⟨c0, c1, c2, c3⟩, c4⟩ := h6 i hi
    have hl : b < w.heap.size := cell_lt c0
    exact ⟨⟨(hb.cell (p := ⟨b, _, none⟩) hl).trans c0, (hb.cell (p := ⟨b, _, none⟩) hl).trans c1, (hb.cell (p := ⟨b, _, none⟩) hl).trans c2, (hb.cell (p := ⟨b, _, none⟩) hl).trans c3⟩, c4.below hb⟩
theorem Syms.shape {w : World} {v : Value} {T : List Sy} (h : Syms w v T) : ∃ a cap, v = .slice a T.length cap := by
  obtain ⟨a, cap, h1, _⟩ := h
  exact ⟨a, cap, h1⟩
theorem Syms.at {w : World} {v : Value} {T : List Sy} (h : Syms w v T) (hl : 0 < T.length) : ∃ b off cap, ∃ dv : Nat → Value, v = .slice (some ⟨b, off, none⟩) T.length cap ∧ T.length ≤ cap ∧ cap ≤ maxLen ∧ ∀ i (h : i < T.length), (w.cell? ⟨b, off + i * 4, none⟩ = some (.string ⟨T[i].name.toArray⟩) ∧ w.cell? ⟨b, off + i * 4 + 1, none⟩ = some (dv i) ∧ w.cell? ⟨b, off + i * 4 + 2, none⟩ = some (.int .i64 T[i].at_) ∧ w.cell? ⟨b, off + i * 4 + 3, none⟩ = some (.int .i64 T[i].size)) ∧ Ints w (dv i) T[i].dims := by
  obtain ⟨a, cap, h1, h2, h3, h4⟩ := h
  rcases h4 with rfl | ⟨b, off, dv, rfl, h6⟩
  · simp at hl
  · exact ⟨b, off, cap, dv, h1, h2, h3, h6⟩
/-- a row of numbers of a call's own is numbers -/
theorem own_ints {t : TypeId} {base : Nat} {w : World} {v : Value} {l : List Int} (h : w.ownsRow base t 1 v l.length (l.map (Value.int .i64))) : Ints w v l := by
  have h' := h
  rcases h.2 with ⟨rfl, h5⟩ | ⟨g, cap, cur, rfl, hg, hh, hc, hm, r⟩
  · rw [List.length_eq_zero_iff.1 h5]; exact Ints.nil w
  · refine ⟨_, cap, rfl, hc, hm, .inr ⟨g, 0, rfl, fun i hi => ?_⟩⟩
    rw [Nat.zero_add, World.ownsRow.cellAt h' i (by omega)]
    simp [hi]
/-- numbers but the first ones -/
theorem Ints.drop {w : World} {a : Option Addr} {l : List Int} {cap : Nat} (h : Ints w (.slice a l.length cap) l) (k : Nat) (hk : k ≤ l.length) : Ints w (.slice (if cap = k then a else a.map (·.add k)) (l.length - k) (cap - k)) (l.drop k) := by
  obtain ⟨a', cap', h1, h2, h3, h4⟩ := h
  injection h1 with e1 e2 e3
  subst e1 e3
  refine ⟨_, _, by rw [List.length_drop], by rw [List.length_drop]; omega, by omega, ?_⟩
  rcases h4 with h4 | ⟨b, off, h5, h6⟩
  · exact .inl (by rw [h4, List.drop_nil])
  · by_cases hz : l.length = k
    · exact .inl (List.drop_of_length_le (by omega))
    · refine .inr ⟨b, off + k, ?_, fun i hi => ?_⟩
      · rw [if_neg (by omega), h5]
        show some (Addr.add _ _) = _
        unfold Addr.add
        by_cases h0 : k = 0
        · simp [h0]
        · simp [h0]
      · rw [List.length_drop] at hi
        have := h6 (k + i) (by omega)
        rw [List.getElem_drop, Nat.add_assoc]
        exact this
theorem infoZ : (Tryd.prog.info? 2).map (fun i => (i.zero, i.size, i.bytes)) = some (some (.int .i64 0), 1, 8) := by kernel_rfl
theorem wpList_append_runG (t : TypeId) {ops : Array Oper} {rest : List Oper} {o : Oper} {a : Act} {w : World} {Q : Exit → Act → World → Prop} (hgd : o.guard = none) (s x : Operand)
    (ho : o.op = .call { callee := .builtin .append, args := #[s, x], argTypes := #[t, t] }) (hty : o.type = t) (sv xv : Value) (hs : a.eval s = sv) (hx : a.eval x = xv) (v' : Value) (w' : World)
    (hr : (Builtin.append_ #[t, t] t #[sv, xv]).run Tryd.prog w = .ok v' w') (h : wpList Tryd.prog ops Q rest (a.put o.dst v') w') : wpList Tryd.prog ops Q (o :: rest) a w := by
  refine wpList_plain hgd fun K hK => ?_
  unfold Oper.wp execOp
  simp only [ho, hty, resolve, invoke, builtin, Sem.run_bind, Sem.run_pure, Result.andThen_ok, List.map_toArray, List.map_cons, List.map_nil, hs, hx, hr]
  exact hK _ _ h
end Go.Proofs.YtomnbidppkpfiaaDoor.Line
