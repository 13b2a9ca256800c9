/- StmtItems: what the items come to; whole rows of the reference's statements. -/
import Derived.Test.YthkbchefjagbbaaGreatDoorStIt
import Derived.Deep.MidRow
namespace Go.Proofs.YthkbchefjagbbaaGreatDoor.Line
open Go.ChangeShapes Go.WideShapes Go.ChangeAt Go.RowKit
open Ex (E St)
set_option linter.unusedVariables false

theorem undS2 : ∃ d, Tryz.prog.underlying RST2 = some d ∧ d.isRow = true := ⟨_, Tryz.underlying55, rfl⟩
theorem wpListS_storeNew {ops : Array Oper} {rest : List Oper} {op : Oper} {a : Act} {w : World} {Q : Exit → Act → World → Prop} (hgd : op.guard = none) (x y : Operand) (ho : op.op = .store RST2 x y) (c c' : Array Value) (q : Nat) (hq : w.heap.size = q)
    (hx : a.eval x = .pointer (some ⟨q, 0, none⟩)) (hy : a.eval y = .agg c') (hc : c.size = 29) (hc' : c'.size = 29) (h1 : c'.all (·.oneCell') = true)
    (h : wpList Tryz.prog ops Q rest (a.put op.dst undef) (w.alloc (.cells c' RST2))) : wpList Tryz.prog ops Q (op :: rest) a (w.alloc (.cells c RST2)) :=
  wpList_plain hgd fun K hK => by
    subst hq
    unfold Oper.wp execOp
    simp only [ho, hx, hy, Instr.storeAt, Instr.sureAddr, Sem.run_bind, Sem.run_pure, Result.andThen_ok, run_storeVar_new (P := Tryz.prog) w RST2 c c' (by rw [hc']; exact sizeS2) (by rw [hc, hc']) h1]
    exact hK _ _ h
theorem wpListS_load {ops : Array Oper} {rest : List Oper} {op : Oper} {a : Act} {w : World} {Q : Exit → Act → World → Prop} (hgd : op.guard = none) (x : Operand) (ho : op.op = .load RST2 x) (b o : Nat) (hx : a.eval x = .pointer (some ⟨b, o, none⟩)) (cs : List Value) (hl : cs.length = 29) (hc : w.rangeAt b o cs)
    (h : wpList Tryz.prog ops Q rest (a.put op.dst (.agg cs.toArray)) w) : wpList Tryz.prog ops Q (op :: rest) a w := by
  obtain ⟨d, hu, hd⟩ := undS2
  exact wpList_load_mid hgd RST2 x ho b o hx cs d hc hu hd (by rw [hl]; exact sizeS2) h
/-- the items that such sizes come to -/
def mkM (M : List (List Nat)) : List (List UInt8 × List Nat) := M.mapIdx fun j D => (nmI j, upD D)
theorem mkM_len (M : List (List Nat)) : (mkM M).length = M.length := List.length_mapIdx ..
theorem mkM_at (M : List (List Nat)) (j : Nat) : (mkM M)[j]? = M[j]?.map fun D => (nmI j, upD D) := by unfold mkM; rw [List.getElem?_mapIdx]
theorem flatR_at : ∀ (l : List Itr) (i : Nat) (x : Itr), l[i]? = some x → (flatR l)[i * 2]? = some (.string ⟨x.1.toArray⟩) ∧ (flatR l)[i * 2 + 1]? = some (.slice x.2.1 x.2.2.1 x.2.2.2)
  | [], i, x, h => by cases h
  | y :: l, 0, x, h => by
    injection h with h
    subst h
    exact ⟨rfl, rfl⟩
  | y :: l, i + 1, x, h => by
    have e : flatR (y :: l) = itR y ++ flatR l := rfl
    have h' := flatR_at l i x (by simpa using h)
    rw [e, List.getElem?_append_right (by simp [itR]; omega), List.getElem?_append_right (by simp [itR]; omega)]
    have e1 : (i + 1) * 2 - (itR y).length = i * 2 := by simp [itR]; omega
    have e2 : (i + 1) * 2 + 1 - (itR y).length = i * 2 + 1 := by simp [itR]; omega
    rw [e1, e2]
    exact h'
/-- a row of the reference's items, as the law's statements ask -/
theorem rf_of {base : Nat} {W : World} {v : Value} {its : List Itr} {m : List (List UInt8 × List Nat)} (own : W.ownsRow base RIT 2 v its.length (flatR its)) (hl : 0 < its.length) (hml : m.length = its.length) (it : ∀ (i : Nat) (x : Itr), its[i]? = some x → ∃ y : List UInt8 × List Nat, m[i]? = some y ∧ x.1 = y.1 ∧ ∃ bs, OwnN bs W (.slice x.2.1 x.2.2.1 x.2.2.2) y.2) :
    ∃ b cap sl, v = .slice (some ⟨b, 0, none⟩) m.length cap ∧ m.length ≤ cap ∧ RfRow W b m sl ∧ ∀ j x, m[j]? = some x → x.2.length ≤ (sl j).2 := by
  rcases own.2 with ⟨_, h5⟩ | ⟨g, cap, cur, rfl, hg, hh, hc, hm, r⟩
  · omega
  have hgl : g < W.heap.size := by
    rcases Nat.lt_or_ge g W.heap.size with h | h
    · exact h
    · rw [Array.getElem?_eq_none h] at hh; cases hh
  have hcell := fun j hj => World.ownsRow.cellAt own j hj
  have hx : ∀ (j : Nat) (y : List UInt8 × List Nat), m[j]? = some y → ∃ x : Itr, its[j]? = some x ∧ x.1 = y.1 ∧ ∃ bs, OwnN bs W (.slice x.2.1 x.2.2.1 x.2.2.2) y.2 := fun j y hy => by
    have hj : j < its.length := by rw [← hml]; exact (List.getElem?_eq_some_iff.1 hy).1
    obtain ⟨y', h1, h2, h3⟩ := it j its[j] (List.getElem?_eq_getElem hj)
    rw [hy] at h1
    injection h1 with h1
    subst h1
    exact ⟨its[j], List.getElem?_eq_getElem hj, h2, h3⟩
  have hjl : ∀ (j : Nat) (x : Itr), its[j]? = some x → j < its.length := fun j x hx => (List.getElem?_eq_some_iff.1 hx).1
  have hn : ∀ {bs : Nat} {a : Option Addr} {n c : Nat} {D : List Nat}, OwnN bs W (.slice a n c) D → n = D.length ∧ n ≤ c ∧ ∀ k d, D[k]? = some d → ∃ g, a = some ⟨g, 0, none⟩ ∧ W.cell? ⟨g, k, none⟩ = some (.int .i64 ((d : Nat) : Int)) := fun {bs a n c D} ho => by
    rcases ho.2 with ⟨e, h5⟩ | ⟨g', cap', cur', e, hg', hh', hc', hm', r'⟩
    · injection e with e1 e2 e3
      subst e1; subst e2; subst e3
      exact ⟨h5.symm, Nat.le_refl _, fun k d hk => by
        have := (List.getElem?_eq_some_iff.1 hk).1
        omega⟩
    · injection e with e1 e2 e3
      subst e1; subst e2; subst e3
      refine ⟨rfl, hc', fun k d hk => ⟨g', rfl, ?_⟩⟩
      have hkl := (List.getElem?_eq_some_iff.1 hk).1
      rw [World.ownsRow.cellAt ho k (by omega)]
      unfold ints
      rw [List.getElem?_map, hk]
      rfl
  refine ⟨g, cap, fun j => ((its[j]?).map fun x => (x.2.1, x.2.2.2)).getD (none, 0), by rw [hml], by rw [hml]; exact hc, ⟨hgl, fun j y hy => ?_, fun j y hy => ?_, fun j y hy k d hk => ?_⟩, fun j y hy => ?_⟩
  all_goals
    obtain ⟨x, h1, h3, bs, h4⟩ := hx j y hy
    have hj := hjl j x h1
    obtain ⟨f1, f2⟩ := flatR_at its j x h1
    obtain ⟨n1, n2, n3⟩ := hn h4
  · rw [hcell (j * 2) (by omega), f1, h3]
  · rw [hcell (j * 2 + 1) (by omega), f2, h1]
    show some (Value.slice _ _ _) = some (Value.slice _ _ _)
    rw [n1]
    rfl
  · rw [h1]
    exact n3 k d hk
  · show y.2.length ≤ (((its[j]?).map fun x => (x.2.1, x.2.2.2)).getD (none, 0)).2
    rw [h1]
    show y.2.length ≤ x.2.2.2
    omega
/-- all items are made: the row is as the law's statements ask -/
theorem LI.rf {w1 W : World} {bx : Nat} {M : List (List Nat)} {v : Value} {its : List Itr} (h : LI w1 bx M M.length W v its) (hne : 0 < M.length) : ∃ b cap sl, v = .slice (some ⟨b, 0, none⟩) (mkM M).length cap ∧ (mkM M).length ≤ cap ∧ RfRow W b (mkM M) sl ∧ ∀ j x, (mkM M)[j]? = some x → x.2.length ≤ (sl j).2 := by
  have hs := h.sz
  refine rf_of (by rw [hs]; exact h.own) (by omega) (by rw [mkM_len, hs]) (fun i x hx => ?_)
  obtain ⟨D, h1, h2, h3⟩ := h.it i x hx
  exact ⟨(nmI i, upD D), by rw [mkM_at, h1]; rfl, h2, _, h3⟩
/-- the items of the program's statement, as the law's Of reads them -/
def toL (M : List Itm) : List Itr := M.map fun x => (x.1, slA x.2.2, x.2.1.length, slC x.2.2)
theorem toL_len (M : List Itm) : (toL M).length = M.length := List.length_map ..
theorem own_sl {base : Nat} {w : World} {v : Value} {l : List Nat} (h : OwnN base w v l) : v = .slice (slA v) l.length (slC v) := by
  obtain ⟨a, c, rfl⟩ := h.shape
  rfl
theorem flatMI_at : ∀ (l : List Itm) (i : Nat) (x : Itm), l[i]? = some x → (flatM l)[i * 2]? = some (.string ⟨x.1.toArray⟩) ∧ (flatM l)[i * 2 + 1]? = some x.2.2
  | [], i, x, h => by cases h
  | y :: l, 0, x, h => by
    injection h with h
    subst h
    exact ⟨rfl, rfl⟩
  | y :: l, i + 1, x, h => by
    have h' := flatMI_at l i x (by simpa using h)
    rw [show (i + 1) * 2 = i * 2 + 2 by omega, show i * 2 + 2 + 1 = (i * 2 + 1) + 2 by omega]
    exact h'
theorem items_row {base : Nat} {w : World} {v : Value} {M : List Itm} (h : ItemsAt base w v M) (hM : 0 < M.length) : ∃ g cap, v = .slice (some ⟨g, 0, none⟩) (toL M).length cap ∧ InRow w g (toL M) ∧ M.length ≤ cap := by
  have ho := h.own
  unfold OwnM at ho
  rcases ho.2 with ⟨_, h5⟩ | ⟨g, cap, cur, rfl, hg, hh, hc, r⟩
  · omega
  refine ⟨g, cap, by rw [toL_len], ⟨?_, fun j y hy => ?_⟩, hc⟩
  · rcases Nat.lt_or_ge g w.heap.size with h | h
    · exact h
    · rw [Array.getElem?_eq_none h] at hh; cases hh
  · unfold toL at hy
    rw [List.getElem?_map] at hy
    obtain ⟨x, hx, rfl⟩ := Option.map_eq_some_iff.1 hy
    have hj := (List.getElem?_eq_some_iff.1 hx).1
    obtain ⟨f1, f2⟩ := flatMI_at M j x hx
    refine ⟨?_, ?_⟩
    · rw [World.ownsRow.cellAt ho (j * 2) (by omega), f1]
    · rw [World.ownsRow.cellAt ho (j * 2 + 1) (by omega), f2, ← own_sl (h.dims x (List.mem_of_getElem? hx))]
theorem items_rf {base base' : Nat} {w w' : World} {v v2 : Value} {M : List Itm} (h : ItemsAt base w v M) (hM : 0 < M.length) (hb : Below w.heap.size w w') (ho : w'.ownsRow base' RIT 2 v2 (toL M).length (flatR (toL M))) :
    ∃ b cap sl, v2 = .slice (some ⟨b, 0, none⟩) (plainI M).length cap ∧ (plainI M).length ≤ cap ∧ RfRow w' b (plainI M) sl ∧ ∀ j x, (plainI M)[j]? = some x → x.2.length ≤ (sl j).2 := by
  refine rf_of ho (by rw [toL_len]; exact hM) (by rw [toL_len]; exact List.length_map ..) (fun i x hx => ?_)
  unfold toL at hx
  rw [List.getElem?_map] at hx
  obtain ⟨y, hy, rfl⟩ := Option.map_eq_some_iff.1 hx
  refine ⟨(y.1, y.2.1), by unfold plainI; rw [List.getElem?_map, hy]; rfl, rfl, base, ?_⟩
  have := (h.dims y (List.mem_of_getElem? hy)).below hb
  rwa [own_sl (h.dims y (List.mem_of_getElem? hy))] at this
end Go.Proofs.YthkbchefjagbbaaGreatDoor.Line
