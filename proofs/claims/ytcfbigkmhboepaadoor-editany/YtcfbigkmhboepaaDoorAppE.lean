/- Appends of rows that are only read to a row of a call's own; parts of rows. -/
import Derived.Test.YtcfbigkmhboepaaDoorMemB
import Derived.OwnWalk
import Derived.Laws.OwnMore
namespace Go.Proofs.YtcfbigkmhboepaaDoor.Line
open Go.ChangeShapes Go.WideShapes Go.ChangeAt Go.RowKit
set_option linter.unusedVariables false

theorem addr_add (b off j : Nat) : (⟨b, off, none⟩ : Addr).add j = ⟨b, off + j, none⟩ := by
  unfold Addr.add
  by_cases h0 : j = 0
  · simp [h0]
  · simp [h0]
theorem run_append_empty {base : Nat} {w : World} {s : Value} {n : Nat} {xs : List Value} (a : Option Addr) (cap : Nat) (hs : w.ownsRow base 9 1 s n xs) : (Builtin.append_ #[22, 22] 22 #[s, .slice a 0 cap]).run Tryd.prog w = .ok s w := by
  obtain ⟨i0, hi, hz0, hz1, hz2⟩ := info_parts info9
  rcases hs.2 with ⟨rfl, rfl⟩ | ⟨g, cap', cur, rfl, _, _, hnc, _⟩
  · cases a <;> simp [Builtin.append_, run_underlying Tryd.underlying22, sizeOf, typeInfo, hi, Builtin.lenOf, Builtin.firstCells, loadCells, loadCellsFrom]
  · cases a <;> simp [Builtin.append_, run_underlying Tryd.underlying22, sizeOf, typeInfo, hi, Builtin.lenOf, Builtin.firstCells, hnc, storeCells, loadCells, loadCellsFrom]
/-- a row that is read, behind a row of the call's own -/
theorem append_row {base : Nat} {w : World} {s x : Value} {ls ms : List (List UInt8)} (hs : Own base w s ls) (hx : Row w x ms) (hb : base ≤ w.heap.size) (hl : ls.length + ms.length ≤ 1000000) :
    ∃ v' w', (Builtin.append_ #[22, 22] 22 #[s, x]).run Tryd.prog w = .ok v' w' ∧ Own base w' v' (ls ++ ms) ∧ w.grownBy w' s.ownBlock := by
  obtain ⟨i0, hi, hz0, hz1, hz2⟩ := info_parts info9
  rcases hx with ⟨a, cap, rfl, rfl⟩ | ⟨b, off, cap, rfl, hc, hcell⟩
  · exact ⟨s, w, run_append_empty a cap hs, by rw [List.append_nil]; exact hs, ⟨rfl, rfl, rfl, Nat.le_refl _, fun _ _ _ => rfl⟩⟩
  · obtain ⟨v', w', hr, ho, hgr, _⟩ := run_append_own (P := Tryd.prog) w base 22 22 9 i0 (.string ⟨#[]⟩) 1 16 Tryd.underlying22 hi hz0 hz1 hz2 rfl (by decide) s ls.length (strs ls) hs ⟨b, off, none⟩ ms.length cap (strs ms) (by simp [strs])
      (fun j u hu => by
        rw [addr_add]
        unfold strs at hu
        rw [List.getElem?_map] at hu
        obtain ⟨x, hx, rfl⟩ := Option.map_eq_some_iff.1 hu
        obtain ⟨hj, rfl⟩ := List.getElem?_eq_some_iff.1 hx
        exact hcell j hj) (fun u hu => by
        unfold strs at hu
        obtain ⟨l, _, rfl⟩ := List.mem_map.1 hu
        rfl) (by unfold maxLen; omega) (by omega) hb
    refine ⟨v', w', hr, ?_, hgr⟩
    unfold Own
    unfold strs at *
    rw [List.map_append, List.length_append]
    exact ho
/-- an append in a plain region, by its run -/
theorem wpList_append_run {ops : Array Oper} {rest : List Oper} {o : Oper} {a : Act} {w : World} {Q : Exit → Act → World → Prop} (hgd : o.guard = none) (s x : Operand)
    (ho : o.op = .call { callee := .builtin .append, args := #[s, x], argTypes := #[22, 22] }) (hty : o.type = 22) (sv xv : Value) (hs : a.eval s = sv) (hx : a.eval x = xv) (v' : Value) (w' : World)
    (hr : (Builtin.append_ #[22, 22] 22 #[sv, xv]).run Tryd.prog w = .ok v' w') (h : wpList Tryd.prog ops Q rest (a.put o.dst v') w') : wpList Tryd.prog ops Q (o :: rest) a w := by
  refine wpList_plain hgd fun K hK => ?_
  unfold Oper.wp execOp
  simp only [ho, hty, resolve, invoke, builtin, Sem.run_bind, Sem.run_pure, Result.andThen_ok, List.map_toArray, List.map_cons, List.map_nil, hs, hx, hr]
  exact hK _ _ h
/-- part of a row -/
theorem Row.part {w : World} {b off cap : Nat} {L : List (List UInt8)} (h : ∀ i (h : i < L.length), w.cell? ⟨b, off + i, none⟩ = some (.string ⟨(L[i]).toArray⟩)) (lo hi c : Nat) (h1 : lo ≤ hi) (h2 : hi ≤ L.length) (hc : hi - lo ≤ c) : Row w (.slice (some ⟨b, off + lo, none⟩) (hi - lo) c) ((L.drop lo).take (hi - lo)) := by
  have hl : ((L.drop lo).take (hi - lo)).length = hi - lo := by simp; omega
  refine .inr ⟨b, off + lo, c, by rw [hl], by omega, fun i hi' => ?_⟩
  have := h (lo + i) (by omega)
  rw [show off + lo + i = off + (lo + i) by omega, this]
  simp
end Go.Proofs.YtcfbigkmhboepaaDoor.Line
