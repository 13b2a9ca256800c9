/- The contract of the law's Of: the project's tree as the reference's. -/
import Derived.Test.YtomnbidppkpfiaaDoorEvTop
import Derived.Deep.RegionLaw
namespace Go.Proofs.YtomnbidppkpfiaaDoor.Line
open Go.ChangeShapes Go.WideShapes Go.ChangeAt Go.RowKit
open Ex (E St)
set_option linter.unusedVariables false

abbrev ET : TypeId := 33
abbrev zeroE : Array Value := #[.int .i64 0, .int .i64 0, .string ⟨#[]⟩, .slice none 0 0]
theorem infoRE : (Tryd.prog.info? ET).map (fun i => (i.zero, i.size, i.bytes)) = some (some (.agg #[.int .i64 0, .int .i64 0, .string ⟨#[]⟩, .slice none 0 0]), 4, 56) := by kernel_rfl
abbrev ETS : TypeId := 31
/-- rows of parts that a process can hold -/
inductive Big : E → Prop
  | mk (x : E) (h : x.a.length * 56 ≤ 140737488351232) (hs : ∀ y ∈ x.a, Big y) : Big x
theorem Big.len {x : E} (h : Big x) : x.a.length * 56 ≤ 140737488351232 := by cases h; assumption
theorem Big.part {x : E} (h : Big x) : ∀ y ∈ x.a, Big y := by cases h; assumption
/-- one tree more -/
theorem append_tree2 {t st : TypeId} (hinfo : (Tryd.prog.info? t).map (fun i => (i.zero, i.size, i.bytes)) = some (some (.agg #[.int .i64 0, .int .i64 0, .string ⟨#[]⟩, .slice none 0 0]), 4, 56)) (hund : Tryd.prog.underlying st = some (.slice t))
    {base : Nat} {w : World} {S : Nat → Prop} {v : Value} {l : List (E × Value)} (hs : OwnF t base w S v l) {x : E} {sx : Value} (hx : Forest w (fun b => S b ∧ some b ≠ v.ownBlock) x.a sx) (hb : base ≤ w.heap.size) (hl : (l.length + 1) * 56 ≤ 140737488355328) :
    ∃ v' w', (Builtin.append_ #[st, st] st #[v, .slice (some ⟨w.heap.size, 0, none⟩) 1 1]).run Tryd.prog (w.alloc (.cells #[.int .i64 x.kind, .int .i64 x.n, .string ⟨x.name.toArray⟩, sx] t)) = .ok v' w' ∧ OwnF t base w' S v' (l ++ [(x, sx)]) ∧ (w.alloc (.cells #[.int .i64 x.kind, .int .i64 x.n, .string ⟨x.name.toArray⟩, sx] t)).grownBy w' v.ownBlock ∧ (v'.ownBlock = v.ownBlock ∨ v'.ownBlock = some (w.heap.size + 1)) := by
  obtain ⟨i0, hi, hz0, hz1, hz2⟩ := info_parts hinfo
  obtain ⟨sa, sc, rfl⟩ := hx.shape
  obtain ⟨v', w', hr, ho, hgr, _, hat⟩ := run_append_own_at (P := Tryd.prog) (w.alloc (.cells #[.int .i64 x.kind, .int .i64 x.n, .string ⟨x.name.toArray⟩, .slice sa x.a.length sc] t)) base st st t i0 _ 4 56 hund hi hz0 hz1 hz2 rfl (by decide) v l.length (flatF l) (World.ownsRow.alloc hs.row _) ⟨w.heap.size, 0, none⟩ 1 1 (treeC (x, .slice sa x.a.length sc)) rfl
    (World.news_of_block (cs := #[.int .i64 x.kind, .int .i64 x.n, .string ⟨x.name.toArray⟩, .slice sa x.a.length sc]) (t := t) (fr := (0, 0)) (by show (w.heap.push _)[w.heap.size]? = _; exact Array.getElem?_push_size))
    (by intro u hu; simp [treeC] at hu; rcases hu with rfl | rfl | rfl | rfl <;> rfl) (by unfold maxLen; omega) (by omega) (by simp; omega)
  have hsz : (w.alloc (.cells #[.int .i64 x.kind, .int .i64 x.n, .string ⟨x.name.toArray⟩, .slice sa x.a.length sc] t)).heap.size = w.heap.size + 1 := by simp
  rw [hsz] at hat
  refine ⟨v', w', hr, ⟨by rw [flatF_snoc, List.length_append]; exact ho, fun y hy => ?_⟩, hgr, hat⟩
  have hF : ∀ y : E × Value, Forest w (fun b => S b ∧ some b ≠ v.ownBlock) y.1.a y.2 → Forest w' (fun b => S b ∧ some b ≠ v'.ownBlock) y.1.a y.2 := fun y hf => by
    refine hf.keep (fun b hb hl => ?_) (fun b hb hl => ⟨hb.1, ?_⟩)
    · exact (hgr.block b (by rw [hsz]; omega) hb.2).trans ((alloc_below w _).block b hl)
    · rcases hat with e | e
      · rw [e]; exact hb.2
      · rw [e]; intro e2; injection e2 with e2; omega
  rcases List.mem_append.1 hy with h | h
  · exact hF y (hs.parts y h)
  · rw [List.mem_singleton.1 h]; exact hF (x, _) hx
structure Bx (w : World) (p : Nat) (x : E) (sl : Value) : Prop where
  c0 : w.cell? ⟨p, 0, none⟩ = some (.int .i64 x.kind)
  c1 : w.cell? ⟨p, 1, none⟩ = some (.int .i64 x.n)
  c2 : w.cell? ⟨p, 2, none⟩ = some (.string ⟨x.name.toArray⟩)
  c3 : w.cell? ⟨p, 3, none⟩ = some sl
  f0 : w.frozen? ⟨p, 0, none⟩ = false
  f1 : w.frozen? ⟨p, 1, none⟩ = false
  f2 : w.frozen? ⟨p, 2, none⟩ = false
  f3 : w.frozen? ⟨p, 3, none⟩ = false
  lt : p < w.heap.size
theorem Bx.keep {w w' : World} {p : Nat} {x : E} {sl : Value} (h : Bx w p x sl) (hp : w'.heap[p]? = w.heap[p]?) (hs : w.heap.size ≤ w'.heap.size) : Bx w' p x sl := by
  have hc : ∀ o, w'.cell? ⟨p, o, none⟩ = w.cell? ⟨p, o, none⟩ := fun o => World.cell?_of_block (a := ⟨p, o, none⟩) hp
  have hf : ∀ o, w'.frozen? ⟨p, o, none⟩ = w.frozen? ⟨p, o, none⟩ := fun o => World.frozen?_of_block (a := ⟨p, o, none⟩) hp
  exact ⟨(hc 0).trans h.c0, (hc 1).trans h.c1, (hc 2).trans h.c2, (hc 3).trans h.c3, (hf 0).trans h.f0, (hf 1).trans h.f1, (hf 2).trans h.f2, (hf 3).trans h.f3, by have := h.lt; omega⟩
theorem Bx.but {w w' : World} {p rb : Nat} {x : E} {sl : Value} (h : Bx w p x sl) (hb : But rb w w') (hne : p ≠ rb) : Bx w' p x sl := h.keep (hb.block p h.lt (fun e => hne (by injection e))) hb.size
theorem bx_new (w : World) (x : E) (sl : Value) (t : TypeId) : Bx (w.alloc (.cells #[.int .i64 x.kind, .int .i64 x.n, .string ⟨x.name.toArray⟩, sl] t)) w.heap.size x sl := by
  refine ⟨?_, ?_, ?_, ?_, ?_, ?_, ?_, ?_, ?_⟩ <;> simp
theorem bx_set4 (w : World) (p : Nat) (a b c d : Value) (k : Nat) (h : k ≠ p) : ((((w.setCell ⟨p, 0, none⟩ a).setCell ⟨p, 1, none⟩ b).setCell ⟨p, 2, none⟩ c).setCell ⟨p, 3, none⟩ d).heap[k]? = w.heap[k]? := by
  rw [Below.heap_setCell _ _ _ _ (show k ≠ p from h), Below.heap_setCell _ _ _ _ (show k ≠ p from h), Below.heap_setCell _ _ _ _ (show k ≠ p from h), Below.heap_setCell _ _ _ _ (show k ≠ p from h)]
/-- an append at a step of a region that draws, by its run -/
theorem step_append_runE {ops : Array Oper} {o : Oper} {a : Act} {w : World} {K : Act → World → Prop} {Q : Exit → Act → World → Prop} {P : Prop} (hgd : o.guard = none) (s x : Operand)
    (ho : o.op = .call { callee := .builtin .append, args := #[s, x], argTypes := #[ETS, ETS] }) (hty : o.type = ETS) (sv xv : Value) (hs : a.eval s = sv) (hx : a.eval x = xv) (v' : Value) (w' : World)
    (hr : (Builtin.append_ #[ETS, ETS] ETS #[sv, xv]).run Tryd.prog w = .ok v' w') (h : K (a.put o.dst v') w') : if Region.wanted o (yielded ops a.tmps) = true then Oper.wp Tryd.prog o a w K Q else P := by
  have hw : Region.wanted o (yielded ops a.tmps) = true := by simp [Region.wanted, hgd]
  rw [if_pos hw]
  unfold Oper.wp execOp
  simp only [ho, hty, resolve, invoke, builtin, Sem.run_bind, Sem.run_pure, Result.andThen_ok, List.map_toArray, List.map_cons, List.map_nil, hs, hx, hr]
  exact h
/-- in the midst of Of -/
structure MidO (w : World) (S : Nat → Prop) (x : E) (sx : Value) (wr : World) (i : Nat) (v : Value) (l : List (E × Value)) : Prop where
  box1 : Bx wr w.heap.size x sx
  box2 : Bx wr (w.heap.size + 1) E.none (.slice none 0 0)
  box3 : Bx wr (w.heap.size + 2) x v
  own : OwnF ET (w.heap.size + 3) wr (fun b => w.heap.size + 3 ≤ b) v l
  row : l.map (·.1) = x.a.take i
  old : Below w.heap.size w wr
  sz : w.heap.size + 3 ≤ wr.heap.size
theorem MidO.step {w : World} {S : Nat → Prop} {x : E} {sx : Value} {wr w' : World} {i : Nat} {v : Value} {l : List (E × Value)} (h : MidO w S x sx wr i v l) (hb : Below wr.heap.size wr w') : MidO w S x sx w' i v l :=
  ⟨h.box1.keep (hb.block _ h.box1.lt) hb.size, h.box2.keep (hb.block _ h.box2.lt) hb.size, h.box3.keep (hb.block _ h.box3.lt) hb.size, h.own.old hb, h.row, bthen h.old hb, by have := hb.size; have := h.sz; omega⟩
theorem bx_set3 {w : World} {p : Nat} {x : E} {sl : Value} (h : Bx w p x sl) (sm : Value) : Bx (w.setCell ⟨p, 3, none⟩ sm) p x sm := by
  obtain ⟨c0, c1, c2, c3, f0, f1, f2, f3, hl⟩ := h
  refine ⟨by simp [go_sem, c0], by simp [go_sem, c1], by simp [go_sem, c2], by simp [go_sem, c3], by simp [go_sem, f0], by simp [go_sem, f1], by simp [go_sem, f2], by simp [go_sem, f3], by simp [World.setCell]; omega⟩
theorem MidO.more {w : World} {S : Nat → Prop} {x : E} {sx : Value} {wr : World} {i : Nat} {v : Value} {l : List (E × Value)} (h : MidO w S x sx wr i v l) (hi : i < x.a.length) (hl : x.a.length * 56 ≤ 140737488351232) {sy : Value} {B : Nat} (hy : Forest wr (fun b => B ≤ b) x.a[i].a sy) (hB : w.heap.size + 3 ≤ B) (hv : ∀ k, v.ownBlock = some k → k < B) :
    ∃ v' w', (Builtin.append_ #[ETS, ETS] ETS #[v, .slice (some ⟨wr.heap.size, 0, none⟩) 1 1]).run Tryd.prog (wr.alloc (.cells #[.int .i64 x.a[i].kind, .int .i64 x.a[i].n, .string ⟨x.a[i].name.toArray⟩, sy] ET)) = .ok v' w' ∧ (w'.cell? ⟨w.heap.size + 2, 3, none⟩ = some v ∧ w'.frozen? ⟨w.heap.size + 2, 3, none⟩ = false) ∧ MidO w S x sx (w'.setCell ⟨w.heap.size + 2, 3, none⟩ v') (i + 1) v' (l ++ [(x.a[i], sy)]) ∧ ∃ a n c, v' = .slice a n c := by
  have hsz := h.sz
  have hll : l.length = i := by have := congrArg List.length h.row; rw [List.length_map, List.length_take] at this; omega
  obtain ⟨v', w', hr, ho, hg, hat⟩ := append_tree2 infoRE Tryd.underlying31 h.own (hy.mono (S' := fun b => w.heap.size + 3 ≤ b ∧ some b ≠ v.ownBlock) (fun b hs _ => ⟨by omega, fun e => by have := hv b e.symm; omega⟩)) hsz (by omega)
  have hown : ∀ k, v.ownBlock = some k → w.heap.size + 3 ≤ k := fun k hk => (h.own.row.lt k hk).1
  have hkeep : ∀ b, b < w.heap.size + 3 → w'.heap[b]? = wr.heap[b]? := fun b hb => (hg.block b (by simp; omega) (fun e => by have := hown b e.symm; omega)).trans ((alloc_below wr _).block b (by omega))
  have hz' : wr.heap.size ≤ w'.heap.size := by have := hg.size; simp at this; omega
  have hb3 := h.box3.keep (hkeep _ (by omega)) hz'
  have hset : ∀ b, b ≠ w.heap.size + 2 → (w'.setCell ⟨w.heap.size + 2, 3, none⟩ v').heap[b]? = w'.heap[b]? := fun b hb => Below.heap_setCell _ _ _ _ hb
  have hzs : (w'.setCell ⟨w.heap.size + 2, 3, none⟩ v').heap.size = w'.heap.size := by simp [World.setCell]
  obtain ⟨va, vc, hva⟩ := ho.shape
  refine ⟨v', w', hr, ⟨hb3.c3, hb3.f3⟩, ⟨?_, ?_, bx_set3 hb3 v', ?_, ?_, ?_, by omega⟩, ⟨va, _, vc, hva⟩⟩
  · exact (h.box1.keep (hkeep _ (by omega)) hz').keep (hset _ (by omega)) (by omega)
  · exact (h.box2.keep (hkeep _ (by omega)) hz').keep (hset _ (by omega)) (by omega)
  · exact ho.keep (fun k hk => hset k (by have := (ho.row.lt k hk).1; omega)) (fun b hs _ => hset b (by omega)) (fun _ h _ => h)
  · rw [List.map_append, h.row, List.take_succ_eq_append_getElem hi]; rfl
  · refine ⟨hg.os.trans h.old.os, hg.tape.trans h.old.tape, hg.output.trans h.old.output, by have := h.old.size; omega, fun k hk => ?_⟩
    exact ((hset k (by omega)).trans (hkeep k (by omega))).trans (h.old.block k hk)
set_option maxHeartbeats 8000000 in
set_option maxRecDepth 100000 in
theorem of_any : ∀ (x : E) (w : World) (S : Nat → Prop) (sx : Value), Forest w S x.a sx → Big x → Calls Tryd.prog 6 #[treeV x sx] w fun e w' => ∃ sy, e = .returned (treeV x sy) ∧ Forest w' (fun b => w.heap.size ≤ b) x.a sy ∧ Below w.heap.size w w' := by
  refine E.ind _ ?_
  intro x ih w S sx hx hsm
  have hln := hsm.len
  obtain ⟨xa, xc, hsx⟩ := hx.shape
  have b1 := alloc_below w (.cells #[.int .i64 x.kind, .int .i64 x.n, .string ⟨x.name.toArray⟩, sx] PET)
  have b2 := alloc_below (w.alloc (.cells #[.int .i64 x.kind, .int .i64 x.n, .string ⟨x.name.toArray⟩, sx] PET)) (.cells zeroE ET)
  have b3 := alloc_below ((w.alloc (.cells #[.int .i64 x.kind, .int .i64 x.n, .string ⟨x.name.toArray⟩, sx] PET)).alloc (.cells zeroE ET)) (.cells #[.int .i64 x.kind, .int .i64 x.n, .string ⟨x.name.toArray⟩, .slice none 0 0] ET)
  have z1 : (w.alloc (.cells #[.int .i64 x.kind, .int .i64 x.n, .string ⟨x.name.toArray⟩, sx] PET)).heap.size = w.heap.size + 1 := by simp
  have z2 : ((w.alloc (.cells #[.int .i64 x.kind, .int .i64 x.n, .string ⟨x.name.toArray⟩, sx] PET)).alloc (.cells zeroE ET)).heap.size = w.heap.size + 2 := by simp
  have HM : Hid (MidO w S x sx (((w.alloc (.cells #[.int .i64 x.kind, .int .i64 x.n, .string ⟨x.name.toArray⟩, sx] PET)).alloc (.cells zeroE ET)).alloc (.cells #[.int .i64 x.kind, .int .i64 x.n, .string ⟨x.name.toArray⟩, .slice none 0 0] ET)) 0 (.slice none 0 0) []) := hide (by
    have k1 := ((bx_new w x sx PET).keep (b2.block _ (by omega)) b2.size).keep (b3.block _ (by omega)) b3.size
    have k2 := bx_new (w.alloc (.cells #[.int .i64 x.kind, .int .i64 x.n, .string ⟨x.name.toArray⟩, sx] PET)) E.none (.slice none 0 0) ET
    rw [z1] at k2
    have k3 := bx_new ((w.alloc (.cells #[.int .i64 x.kind, .int .i64 x.n, .string ⟨x.name.toArray⟩, sx] PET)).alloc (.cells zeroE ET)) x (.slice none 0 0) ET
    rw [z2] at k3
    exact ⟨k1, k2.keep (b3.block _ (by omega)) b3.size, k3, OwnF.nil _ _ _ _, by simp, bthen (bthen b1 b2) b3, by simp⟩)
  have HX := hide hx
  have IH := hide ih
  have HSM := hide hsm
  generalize hn : x.a.length = n at *
  subst hsx
  have HN := hide hn
  clear b1 b2 b3 z1 z2 hx ih hsm hn
  go_enter Tryd.func6, Tryd.ntmps6
  go_wp2_with fail
  generalize (((w.alloc (.cells #[.int .i64 x.kind, .int .i64 x.n, .string ⟨x.name.toArray⟩, .slice xa n xc] PET)).alloc (.cells zeroE ET)).alloc (.cells #[.int .i64 x.kind, .int .i64 x.n, .string ⟨x.name.toArray⟩, .slice none 0 0] ET)) = W3 at *
  go_loopw [4] (fun q wr => ∃ (i : Nat) (v : Value) (l : List (E × Value)), i ≤ n ∧ q = .int .i64 i ∧ Hid (MidO w S x (.slice xa n xc) wr i v l)) (fun q _ => n - (intOf q).toNat)
  case atStart => exact ⟨0, _, _, Nat.zero_le _, rfl, HM⟩
  case round =>
    obtain ⟨i, v, l, hi, rfl, HMM⟩ := hrel
    obtain ⟨a0, a1, a2, a3, -, -, -, -, -⟩ := (unhide HMM).box1
    obtain ⟨c0, c1, c2, c3, f0, f1, f2, f3, hg3⟩ := (unhide HMM).box3
    by_cases hlt : i < n
    · have hlt' : i < x.a.length := by rw [unhide HN]; exact hlt
      obtain ⟨bx, ox, cx, fx, hvx, hcx, hmx, hcellx, hforx⟩ := ((unhide HX).old (unhide HMM).old).at (by omega)
      injection hvx with hvx1 hvx2 hvx3
      subst hvx1
      obtain ⟨d0, d1, d2, d3⟩ := hcellx i hlt'
      have hsx := hforx i hlt'
      obtain ⟨ua, uc, hua⟩ := hsx.shape
      have HCA : Hid (∀ m, Calls Tryd.prog 6 #[treeV (x.a[i]) (fx i)] (wr.drewN m) fun e w' => ∃ sy, e = .returned (treeV (x.a[i]) sy) ∧ Forest w' (fun b => wr.heap.size ≤ b) (x.a[i]).a sy ∧ Below wr.heap.size wr w') := hide (fun m => by
        refine (unhide IH _ (List.getElem_mem hlt') (wr.drewN m) S (fx i) (hsx.old (below_drewN (Below.refl _ _) m)) ((unhide HSM).part _ (List.getElem_mem hlt'))).mono ?_
        rintro e w' ⟨sy, h1, h2, h3⟩
        exact ⟨sy, h1, h2, (below_drewN (Below.refl _ _) m).trans h3⟩)
      rw [hua] at d3 HCA
      obtain ⟨va, vc, hva⟩ := (unhide HMM).own.shape
      generalize hll : l.length = ll at hva
      subst hva
      have HMO : Hid (∀ w5 sy, Forest w5 (fun b => wr.heap.size ≤ b) x.a[i].a sy → Below wr.heap.size wr w5 → ∃ v' w', (Builtin.append_ #[ETS, ETS] ETS #[.slice va ll vc, .slice (some ⟨w5.heap.size, 0, none⟩) 1 1]).run Tryd.prog (w5.alloc (.cells #[.int .i64 x.a[i].kind, .int .i64 x.a[i].n, .string ⟨x.a[i].name.toArray⟩, sy] ET)) = .ok v' w' ∧ (w'.cell? ⟨w.heap.size + 2, 3, none⟩ = some (.slice va ll vc) ∧ w'.frozen? ⟨w.heap.size + 2, 3, none⟩ = false) ∧ MidO w S x (.slice (some ⟨bx, ox, none⟩) n xc) (w'.setCell ⟨w.heap.size + 2, 3, none⟩ v') (i + 1) v' (l ++ [(x.a[i], sy)]) ∧ ∃ a n c, v' = .slice a n c) := hide (fun w5 sy hf hb => ((unhide HMM).step hb).more hlt' (by rw [unhide HN]; exact hln) hf (unhide HMM).sz (fun k hk => ((unhide HMM).own.row.lt k hk).2))
      clear hcellx hforx hsx hua hvx2 hvx3 hcx hmx hll
      have hlt2 : (i : Int) < n := by omega
      have hp3 : w.heap.size + 2 < wr.heap.size := hg3
      generalize x.a[i].a.length = m2 at *
      go_wp2_with fail
      go_region_law (first
        | (go_simp; go_at_call 6; refine (unhide HCA _).mono ?_; rintro ev w5 ⟨sy, rfl, hf5, hb5⟩; obtain ⟨v9, w9, hr9, ⟨hc9, hf9⟩, hM9, va9, vn9, vc9, hv9⟩ := unhide HMO w5 sy hf5 hb5; obtain ⟨la5, lc5, hsl⟩ := hf5.shape; generalize hln5 : x.a[i].a.length = ln5 at hsl; subst hsl; subst hv9; clear hln5; have k3 := (hb5.cell (p := ⟨w.heap.size + 2, 3, none⟩) hp3).trans c3; have hp5 : w.heap.size + 2 < w5.heap.size := Nat.lt_of_lt_of_le hp3 hb5.size; have k4 : (w5.alloc (.cells #[.int .i64 x.a[i].kind, .int .i64 x.a[i].n, .string ⟨x.a[i].name.toArray⟩, .slice la5 ln5 lc5] ET)).cell? ⟨w.heap.size + 2, 3, none⟩ = some (.slice va ll vc) := ((alloc_below w5 _).cell (p := ⟨w.heap.size + 2, 3, none⟩) hp5).trans k3; have HM9 := hide hM9; have HR9 := hide hr9; clear hf5 hb5 hM9 hr9; dsimp only)
        | (refine step_append_runE rfl _ _ rfl rfl _ _ rfl rfl _ _ (unhide HR9) ?_))
      all_goals (
        go_wp2
        go_roundw
        case rel => exact ⟨i + 1, _, _, by omega, by go_num, HM9⟩
        case measure => simp [intOf]; omega)
    · have q1 : decide (i < n) = false := decide_eq_false hlt
      obtain ⟨e0, e1, e2, e3, z0, z1, z2, z3, hg2⟩ := (unhide HMM).box2
      have HF : Hid (Forest wr (fun b => w.heap.size + 3 ≤ b) x.a v) := hide (by
        have := (unhide HMM).own.forest (fun k hk => ((unhide HMM).own.row.lt k hk).1)
        rwa [(unhide HMM).row, List.take_of_length_le (by have := unhide HN; omega)] at this)
      obtain ⟨va, vc, hva⟩ := (unhide HF).shape
      have hva2 : v = .slice va n vc := by rw [hva, unhide HN]
      clear hva
      subst hva2
      go_wp2
      refine bodyPost_ret (v := treeV x (.slice va n vc)) (by simp [results, Tryd.results6, go_sem, e0, e1, e2, e3]) rfl ⟨_, rfl, ?_, ?_⟩
      · exact (unhide HF).keep (fun b hs _ => bx_set4 _ _ _ _ _ _ _ (by omega)) (fun b hs _ => by omega)
      · have ho := (unhide HMM).old
        exact (((ho.setCell (p := ⟨w.heap.size + 1, 0, none⟩) (Nat.le_succ _) _).setCell (p := ⟨w.heap.size + 1, 1, none⟩) (Nat.le_succ _) _).setCell (p := ⟨w.heap.size + 1, 2, none⟩) (Nat.le_succ _) _).setCell (p := ⟨w.heap.size + 1, 3, none⟩) (Nat.le_succ _) _
end Go.Proofs.YtomnbidppkpfiaaDoor.Line
