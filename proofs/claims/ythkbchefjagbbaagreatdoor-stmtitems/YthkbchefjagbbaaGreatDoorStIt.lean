/- StmtItems: the statement that the law makes, item by item: its memory. -/
import Derived.Test.YthkbchefjagbbaaGreatDoorStSame
namespace Go.Proofs.YthkbchefjagbbaaGreatDoor.Line
open Go.ChangeShapes Go.WideShapes Go.ChangeAt Go.RowKit
open Ex (E St)
set_option linter.unusedVariables false

abbrev RIT : TypeId := 60
abbrev RIS : TypeId := 51
/-- a row of sizes in memory: an argument's row -/
def RwE (W : World) (x : Value) (D : List Nat) : Prop := (∀ d ∈ D, d ≤ 65535) ∧ ((∃ a c, x = .slice a 0 c ∧ D = []) ∨ ∃ g o c, x = .slice (some ⟨g, o, none⟩) D.length c ∧ D.length ≤ c ∧ ∀ k (h : k < D.length), W.cell? ⟨g, o + k, none⟩ = some (.int .u16 ((D[k] : Nat) : Int)))
def Rw (W : World) (v : Value) (M : List (List Nat)) : Prop := (∃ a c, v = .slice a 0 c ∧ M = []) ∨ ∃ b off c, v = .slice (some ⟨b, off, none⟩) M.length c ∧ M.length ≤ c ∧ ∀ i (h : i < M.length), ∃ x, W.cell? ⟨b, off + i, none⟩ = some x ∧ RwE W x M[i]
theorem RwE.below {W W' : World} {x : Value} {D : List Nat} (h : RwE W x D) (hb : Below W.heap.size W W') : RwE W' x D := by
  refine ⟨h.1, h.2.imp (fun h => h) ?_⟩
  rintro ⟨g, o, c, e, hc, h⟩
  exact ⟨g, o, c, e, hc, fun k hk => (hb.cell (p := ⟨g, o + k, none⟩) (cell_lt (h k hk))).trans (h k hk)⟩
theorem Rw.below {W W' : World} {v : Value} {M : List (List Nat)} (h : Rw W v M) (hb : Below W.heap.size W W') : Rw W' v M := by
  refine h.imp (fun h => h) ?_
  rintro ⟨b, off, c, e, hc, h⟩
  exact ⟨b, off, c, e, hc, fun i hi => by
    obtain ⟨x, h1, h2⟩ := h i hi
    exact ⟨x, (hb.cell (p := ⟨b, off + i, none⟩) (cell_lt h1)).trans h1, h2.below hb⟩⟩
theorem RwE.shape {W : World} {x : Value} {D : List Nat} (h : RwE W x D) : ∃ a c, x = .slice a D.length c := by
  rcases h.2 with ⟨a, c, rfl, rfl⟩ | ⟨g, o, c, rfl, _⟩
  · exact ⟨a, c, rfl⟩
  · exact ⟨_, _, rfl⟩
theorem Rw.shape {W : World} {v : Value} {M : List (List Nat)} (h : Rw W v M) : ∃ a c, v = .slice a M.length c := by
  rcases h with ⟨a, c, rfl, rfl⟩ | ⟨g, o, c, rfl, _⟩
  · exact ⟨a, c, rfl⟩
  · exact ⟨_, _, rfl⟩
def nmI (j : Nat) : List UInt8 := 118 :: Words.dec j
def upD (D : List Nat) : List Nat := D.map (· + 1)
/-- a row of items grows by one: all blocks but its own stay -/
theorem append_r2 {base : Nat} {w : World} {v : Value} {l : List Itr} (x : Itr) (hs : w.ownsRow base RIT 2 v l.length (flatR l)) (hb : base ≤ w.heap.size) (hl : l.length + 1 ≤ 1000000) :
    ∃ v' w', (Builtin.append_ #[RIS, RIS] RIS #[v, .slice (some ⟨w.heap.size, 0, none⟩) 1 1]).run Tryz.prog (w.alloc (.cells #[.string ⟨x.1.toArray⟩, .slice x.2.1 x.2.2.1 x.2.2.2] RIT)) = .ok v' w' ∧ w'.ownsRow base RIT 2 v' (l ++ [x]).length (flatR (l ++ [x])) ∧ (w'.os = w.os ∧ w'.tape = w.tape ∧ w'.output = w.output ∧ w.heap.size ≤ w'.heap.size) ∧ (∀ b, b < w.heap.size → some b ≠ v.ownBlock → w'.heap[b]? = w.heap[b]?) := by
  obtain ⟨i, hi, he⟩ := Option.map_eq_some_iff.1 infoR
  injection he with e1 e2
  injection e2 with e2 e3
  have ba := alloc_below w (.cells #[.string ⟨x.1.toArray⟩, .slice x.2.1 x.2.2.1 x.2.2.2] RIT)
  obtain ⟨v', w', hr, ho, hgr, _, _⟩ := run_append_own_at (P := Tryz.prog) (w := w.alloc (.cells #[.string ⟨x.1.toArray⟩, .slice x.2.1 x.2.2.1 x.2.2.2] RIT)) base RIS RIS RIT i _ 2 40 Tryz.underlying51 hi e1 e2 e3 rfl (by decide) v l.length (flatR l) (World.ownsRow.alloc hs _) ⟨w.heap.size, 0, none⟩ 1 1 (itR x) rfl
    (World.news_of_block (cs := #[.string ⟨x.1.toArray⟩, .slice x.2.1 x.2.2.1 x.2.2.2]) (t := RIT) (fr := (0, 0)) (by show (w.heap.push _)[w.heap.size]? = _; exact Array.getElem?_push_size))
    (by
      intro u hu
      simp only [itR, List.mem_cons, List.not_mem_nil, or_false] at hu
      rcases hu with rfl | rfl <;> rfl) (by unfold maxLen; omega) (by omega) (by simp; omega)
  refine ⟨v', w', hr, ?_, ⟨hgr.os.trans ba.os, hgr.tape.trans ba.tape, hgr.output.trans ba.output, Nat.le_trans ba.size hgr.size⟩, fun b hb hne => (hgr.block b (by have := ba.size; omega) (fun e => hne (by rw [e]))).trans (ba.block b hb)⟩
  rw [show flatR (l ++ [x]) = flatR l ++ itR x from by simp [flatR], List.length_append]
  exact ho
/-- so many items are made -/
structure LI (w1 : World) (bx : Nat) (M : List (List Nat)) (j : Nat) (W : World) (v : Value) (its : List Itr) : Prop where
  sz : its.length = j
  lt : bx < W.heap.size
  eq : bx = w1.heap.size
  box : W.rangeAt bx 0 (rfV v).toList
  fr : W.frozen? ⟨bx, 1, none⟩ = false
  own : W.ownsRow (bx + 1) RIT 2 v j (flatR its)
  it : ∀ i x, its[i]? = some x → ∃ D, M[i]? = some D ∧ x.1 = nmI i ∧ OwnN (bx + 1) W (.slice x.2.1 x.2.2.1 x.2.2.2) (upD D)
  old : Below bx w1 W
  sm : ∀ i D, i < j → M[i]? = some D → D.length ≤ 4
theorem range_of {W W' : World} {b o : Nat} {cs : List Value} (h : W.rangeAt b o cs) (hb : W'.heap[b]? = W.heap[b]?) : W'.rangeAt b o cs := fun j v hv => (World.cell?_of_block (a := ⟨b, o + j, none⟩) hb).trans (h j v hv)
theorem LI.keep {w1 W W' : World} {bx : Nat} {M : List (List Nat)} {j : Nat} {v : Value} {its : List Itr} (h : LI w1 bx M j W v its) (hb : Below W.heap.size W W') : LI w1 bx M j W' v its :=
  ⟨h.sz, Nat.lt_of_lt_of_le h.lt hb.size, h.eq, range_of h.box (hb.block bx h.lt), (World.frozen?_of_block (a := ⟨bx, 1, none⟩) (hb.block bx h.lt)).trans h.fr, ownsRow_below h.own hb, fun i x hx => by
    obtain ⟨D, h1, h2, h3⟩ := h.it i x hx
    exact ⟨D, h1, h2, h3.below hb⟩, h.old.trans (hb.mono (Nat.le_of_lt h.lt)), h.sm⟩
theorem set_oth {W : World} {b o g p : Nat} {u : Value} (h : b ≠ g ∨ o ≠ p) : (W.setCell ⟨g, p, none⟩ u).cell? ⟨b, o, none⟩ = W.cell? ⟨b, o, none⟩ := World.cell?_setCell_other _ _ _ _ (fun e => by
  injection e with e1 e2
  rcases h with h | h
  · exact h e1.symm
  · exact h e2.symm)
/-- so many sizes of an item are made; the item's box is bi -/
structure LD (wi : World) (bi : Nat) (nm : List UInt8) (D : List Nat) (k : Nat) (W : World) (dv : Value) : Prop where
  sz : wi.heap.size = bi + 1
  c0 : W.cell? ⟨bi, 0, none⟩ = some (.string ⟨nm.toArray⟩)
  c1 : W.cell? ⟨bi, 1, none⟩ = some dv
  fr : W.frozen? ⟨bi, 1, none⟩ = false
  own : OwnN (bi + 1) W dv (upD (D.take k))
  but : But bi wi W
theorem LD.start (wd : World) (nm : List UInt8) (D : List Nat) : LD (wd.alloc (.cells #[.string ⟨nm.toArray⟩, .slice none 0 0] RIT)) wd.heap.size nm D 0 (wd.alloc (.cells #[.string ⟨nm.toArray⟩, .slice none 0 0] RIT)) (.slice none 0 0) := by
  have hB : (wd.alloc (.cells #[.string ⟨nm.toArray⟩, .slice none 0 0] RIT)).heap[wd.heap.size]? = some (.cells #[.string ⟨nm.toArray⟩, .slice none 0 0] RIT (0, 0)) := heap_alloc_new wd _
  refine ⟨by simp, ?_, ?_, ?_, OwnN.nil _ _, but_below (Below.refl _ _)⟩
  · unfold World.cell?; rw [hB]; rfl
  · unfold World.cell?; rw [hB]; rfl
  · unfold World.frozen?; rw [hB]; rfl
theorem LD.step {wi W Wd : World} {bi k : Nat} {nm : List UInt8} {D : List Nat} {dv : Value} (h : LD wi bi nm D k W dv) (hbd : Below W.heap.size W Wd) (hk : k < D.length) (hl : D.length ≤ 1000) :
    ∃ v' w', (Builtin.append_ #[IST, IST] IST #[dv, .slice (some ⟨Wd.heap.size, 0, none⟩) 1 1]).run Tryz.prog (Wd.alloc (.cells #[.int .i64 ((D[k] + 1 : Nat) : Int)] I64)) = .ok v' w' ∧ LD wi bi nm D (k + 1) (w'.setCell ⟨bi, 1, none⟩ v') v' ∧ w'.cell? ⟨bi, 1, none⟩ = some dv ∧ w'.frozen? ⟨bi, 1, none⟩ = false ∧ Below (bi + 1) Wd w' := by
  have hs1 := h.but.size
  have hs2 := h.sz
  have hbs := hbd.size
  have hlt := cell_lt h.c0
  obtain ⟨v', w', hr, ho, hB, _⟩ := append_n (rb := 0) (n := D[k] + 1) (h.own.below hbd) (by omega) (by unfold upD; rw [List.length_map, List.length_take]; omega)
  have hbl : w'.heap[bi]? = W.heap[bi]? := (hB.block bi (by omega)).trans (hbd.block bi hlt)
  have hc0 := (World.cell?_of_block (a := ⟨bi, 0, none⟩) hbl).trans h.c0
  have hc1 := (World.cell?_of_block (a := ⟨bi, 1, none⟩) hbl).trans h.c1
  have hf1 := (World.frozen?_of_block (a := ⟨bi, 1, none⟩) hbl).trans h.fr
  refine ⟨v', w', hr, ⟨hs2, ?_, World.cell?_setCell_same _ _ _ hc1, by rw [World.frozen?_setCell]; exact hf1, ?_, ?_⟩, hc1, hf1, hB⟩
  · exact (set_oth (.inr (by decide))).trans hc0
  · have e : upD (D.take (k + 1)) = upD (D.take k) ++ [D[k] + 1] := by
      unfold upD
      rw [List.take_succ_eq_append_getElem hk, List.map_append]; rfl
    rw [e]
    exact ofRow_keep ho (Nat.le_refl _) (fun b hb => heap_set1 _ _ _ _ _ (by omega))
  · have h1 : But bi wi w' := ⟨hB.os.trans (hbd.os.trans h.but.os), hB.tape.trans (hbd.tape.trans h.but.tape), hB.output.trans (hbd.output.trans h.but.output), by have := hB.size; omega, fun i hi hne => by
      have hne' : i ≠ bi := fun e => hne (by rw [e])
      exact (hB.block i (by omega)).trans ((hbd.block i (by omega)).trans (h.but.block i hi hne))⟩
    exact h1.set (.inr rfl) _
theorem LD.below {wd W : World} {nm : List UInt8} {D : List Nat} {k : Nat} {dv : Value} (hd : LD (wd.alloc (.cells #[.string ⟨nm.toArray⟩, .slice none 0 0] RIT)) wd.heap.size nm D k W dv) : Below wd.heap.size wd W := by
  have ba := alloc_below wd (.cells #[.string ⟨nm.toArray⟩, .slice none 0 0] RIT)
  have hsz := hd.sz
  exact ⟨hd.but.os.trans ba.os, hd.but.tape.trans ba.tape, hd.but.output.trans ba.output, by have := hd.but.size; omega, fun b hb => (hd.but.block b (by omega) (fun e => by injection e with e; omega)).trans (ba.block b hb)⟩
theorem rfV_at (v : Value) : (rfV v).toList[1]? = some v := rfl
theorem rfV_set (v v' : Value) (k : Nat) (hk : k ≠ 1) : (rfV v').toList[k]? = (rfV v).toList[k]? := by
  cases k with
  | zero => rfl
  | succ k =>
    cases k with
    | zero => exact absurd rfl hk
    | succ k => rfl
/-- one item more -/
theorem LI.step {w1 wd W : World} {bx j : Nat} {M : List (List Nat)} {v dv : Value} {its : List Itr} {D : List Nat} (h : LI w1 bx M j wd v its) (hd : LD (wd.alloc (.cells #[.string ⟨(nmI j).toArray⟩, .slice none 0 0] RIT)) wd.heap.size (nmI j) D D.length W dv) (hM : M[j]? = some D) (hl : j ≤ 1000) (h4 : D.length ≤ 4) :
    ∃ a c v' w', dv = .slice a D.length c ∧ (Builtin.append_ #[RIS, RIS] RIS #[v, .slice (some ⟨W.heap.size, 0, none⟩) 1 1]).run Tryz.prog (W.alloc (.cells #[.string ⟨(nmI j).toArray⟩, .slice a D.length c] RIT)) = .ok v' w' ∧ LI w1 bx M (j + 1) (w'.setCell ⟨bx, 1, none⟩ v') v' (its ++ [(nmI j, a, D.length, c)]) ∧ w'.cell? ⟨bx, 1, none⟩ = some v ∧ w'.frozen? ⟨bx, 1, none⟩ = false := by
  have ba := alloc_below wd (.cells #[.string ⟨(nmI j).toArray⟩, .slice none 0 0] RIT)
  have hsz := hd.sz
  have hbw : Below wd.heap.size wd W := ⟨hd.but.os.trans ba.os, hd.but.tape.trans ba.tape, hd.but.output.trans ba.output, by have := hd.but.size; omega, fun b hb => (hd.but.block b (by omega) (fun e => by injection e with e; omega)).trans (ba.block b hb)⟩
  have hI := h.keep hbw
  have hlt := h.lt
  have hown := hd.own
  rw [List.take_of_length_le (Nat.le_refl _)] at hown
  obtain ⟨a, c, hdv⟩ := hown.shape
  have hlen : (upD D).length = D.length := List.length_map ..
  rw [hlen] at hdv
  subst hdv
  have hle := hI.eq
  have hos := hI.old.size
  obtain ⟨v', w', hr, ho, ⟨k1, k2, k3, k4⟩, hk⟩ := append_r2 (nmI j, a, D.length, c) (l := its) (by rw [hI.sz]; exact hI.own) (by have := hI.lt; omega) (by rw [hI.sz]; omega)
  have hnv : some bx ≠ v.ownBlock := fun e => by have := (World.ownsRow.lt hI.own bx e.symm).1; omega
  have hbx := hk bx hI.lt hnv
  have hbox := range_of hI.box hbx
  have hc1 : w'.cell? ⟨bx, 1, none⟩ = some v := by have := hbox 1 v (rfV_at v); rwa [Nat.zero_add] at this
  have hf1 := (World.frozen?_of_block (a := ⟨bx, 1, none⟩) hbx).trans hI.fr
  have hdm : ∀ {x : Value} {l : List Nat}, OwnN (bx + 1) W x l → OwnN (bx + 1) (w'.setCell ⟨bx, 1, none⟩ v') x l := fun {x l} hx => by
    refine ⟨hx.1, ?_⟩
    rcases hx.2 with h2 | ⟨g, cap, cur, hv, hg, hh, r⟩
    · exact .inl h2
    · refine .inr ⟨g, cap, cur, hv, hg, ?_, r⟩
      have hgl : g < W.heap.size := by
        rcases Nat.lt_or_ge g W.heap.size with h | h
        · exact h
        · rw [Array.getElem?_eq_none h] at hh; cases hh
      have hne : some g ≠ v.ownBlock := fun e => by
        rcases hI.own.2 with ⟨rfl, _⟩ | ⟨g', cap', cur', hv', _, hh', _⟩
        · cases e
        · rw [hv'] at e
          injection e with e
          have e : g = g' := e
          subst e
          rw [hh] at hh'
          injection hh' with hh'
          injection hh' with _ ht
          exact absurd ht (by decide)
      exact (heap_set1 _ _ _ _ _ (by omega)).trans ((hk g hgl hne).trans hh)
  have hss : ∀ u, (w'.setCell ⟨bx, 1, none⟩ u).heap.size = w'.heap.size := fun u => by simp [World.setCell]
  have hwl := hI.lt
  refine ⟨a, c, v', w', rfl, hr, ⟨by rw [List.length_append, hI.sz]; rfl, by rw [hss]; omega, hle, ?_, by rw [World.frozen?_setCell]; exact hf1, ?_, ?_, ?_, fun i D' hi hD' => by
    rcases Nat.lt_or_ge i j with h1 | h1
    · exact hI.sm i D' h1 hD'
    · have : i = j := by omega
      subst this
      rw [hM] at hD'
      injection hD' with hD'
      subst hD'
      exact h4⟩, hc1, hf1⟩
  · intro q u hu
    rw [Nat.zero_add]
    by_cases hq : q = 1
    · subst hq
      rw [← Option.some.inj ((rfV_at v').symm.trans hu)]
      exact World.cell?_setCell_same _ _ _ hc1
    · rw [rfV_set v v' q hq] at hu
      have := hbox q u hu
      rw [Nat.zero_add] at this
      exact (set_oth (.inr (fun e => hq e))).trans this
  · have ho2 : w'.ownsRow (bx + 1) RIT 2 v' (j + 1) (flatR (its ++ [(nmI j, a, D.length, c)])) := by
      have : (its ++ [(nmI j, a, D.length, c)]).length = j + 1 := by rw [List.length_append, hI.sz]; rfl
      rw [this] at ho
      exact ho
    exact ofRow_keep ho2 (Nat.le_refl _) (fun b hb => heap_set1 _ _ _ _ _ (by omega))
  · intro i x hx
    rcases Nat.lt_or_ge i its.length with hi | hi
    · rw [List.getElem?_append_left hi] at hx
      obtain ⟨D', h1, h2, h3⟩ := hI.it i x hx
      exact ⟨D', h1, h2, hdm h3⟩
    · have hix : i = its.length := by
        have := (List.getElem?_eq_some_iff.1 hx).1
        rw [List.length_append] at this
        simp only [List.length_cons, List.length_nil] at this
        omega
      subst hix
      rw [List.getElem?_append_right (Nat.le_refl _), Nat.sub_self] at hx
      injection hx with hx
      subst hx
      rw [hI.sz]
      exact ⟨D, hM, rfl, hdm (ofRow_keep hown (by omega) (fun _ _ => rfl))⟩
  · refine ⟨k1.trans hI.old.os, k2.trans hI.old.tape, k3.trans hI.old.output, ?_, fun b hb => (heap_set1 _ _ _ _ _ (by omega)).trans ((hk b (by omega) (fun e => by have := (World.ownsRow.lt hI.own b e.symm).1; omega)).trans (hI.old.block b hb))⟩
    rw [hss]; omega
theorem LI.start (w1 : World) (M : List (List Nat)) : LI w1 w1.heap.size M 0 (w1.alloc (.cells (rfV (.slice none 0 0)) RST2)) (.slice none 0 0) [] := by
  have hB : (w1.alloc (.cells (rfV (.slice none 0 0)) RST2)).heap[w1.heap.size]? = some (.cells (rfV (.slice none 0 0)) RST2 (0, 0)) := heap_alloc_new w1 _
  refine ⟨rfl, by simp, rfl, fun k u hu => ?_, ?_, World.ownsRow_nil _ _ _ _, fun i x hx => (by cases hx), alloc_below w1 _, fun i D hi => by omega⟩
  · rw [Nat.zero_add]
    unfold World.cell?
    rw [hB]
    simpa using hu
  · unfold World.frozen?; rw [hB]; rfl
/-- an append of a row, in a region that draws its order -/
theorem step_append_any (t : TypeId) {ops : Array Oper} {o : Oper} {a : Act} {w : World} {K : Act → World → Prop} {Q : Exit → Act → World → Prop} {P : Prop} (hgd : o.guard = none) (s x : Operand)
    (ho : o.op = .call { callee := .builtin .append, args := #[s, x], argTypes := #[t, t] }) (hty : o.type = t) (sv xv : Value) (hs : a.eval s = sv) (hx : a.eval x = xv) (v' : Value) (w' : World)
    (hr : (Builtin.append_ #[t, t] t #[sv, xv]).run Tryz.prog w = .ok v' w') (h : K (a.put o.dst v') w') : if Region.wanted o (yielded ops a.tmps) = true then Oper.wp Tryz.prog o a w K Q else P := by
  have hw : Region.wanted o (yielded ops a.tmps) = true := by simp [Region.wanted, hgd]
  rw [if_pos hw]
  unfold Oper.wp execOp
  simp only [ho, hty, resolve, invoke, builtin, Sem.run_bind, Sem.run_pure, Result.andThen_ok, List.map_toArray, List.map_cons, List.map_nil, hs, hx, hr]
  exact h
end Go.Proofs.YthkbchefjagbbaaGreatDoor.Line
