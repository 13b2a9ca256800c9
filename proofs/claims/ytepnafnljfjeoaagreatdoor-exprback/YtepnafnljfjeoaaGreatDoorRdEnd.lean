/- The contract of the project's reader: end. -/
import Derived.Test.YtepnafnljfjeoaaGreatDoorRdMemA
namespace Go.Proofs.YtepnafnljfjeoaaGreatDoor.Line
open Go.ChangeShapes Go.WideShapes Go.ChangeAt Go.RowKit
open Ex (E St)
set_option linter.unusedVariables false

/-- an append of the project's trees in a plain region, by its run -/
theorem wpList_append_runP {ops : Array Oper} {rest : List Oper} {o : Oper} {a : Act} {w : World} {Q : Exit → Act → World → Prop} (hgd : o.guard = none) (s x : Operand)
    (ho : o.op = .call { callee := .builtin .append, args := #[s, x], argTypes := #[PES, PES] }) (hty : o.type = PES) (sv xv : Value) (hs : a.eval s = sv) (hx : a.eval x = xv) (v' : Value) (w' : World)
    (hr : (Builtin.append_ #[PES, PES] PES #[sv, xv]).run Tryz.prog w = .ok v' w') (h : wpList Tryz.prog ops Q rest (a.put o.dst v') w') : wpList Tryz.prog ops Q (o :: rest) a w := by
  refine wpList_plain hgd fun K hK => ?_
  unfold Oper.wp execOp
  simp only [ho, hty, resolve, invoke, builtin, Sem.run_bind, Sem.run_pure, Result.andThen_ok, List.map_toArray, List.map_cons, List.map_nil, hs, hx, hr]
  exact hK _ _ h
abbrev cellsE (x : E) (sx : Value) : Array Value := #[.int .i64 x.kind, .int .i64 x.n, .string ⟨x.name.toArray⟩, sx]
theorem alloc3_block (U : World) (A B C : Obj) : ∀ b, b < U.heap.size → (((U.alloc A).alloc B).alloc C).heap[b]? = U.heap[b]? := fun b hb => ((alloc_below ((U.alloc A).alloc B) C).block b (by simp; omega)).trans (((alloc_below (U.alloc A) B).block b (by simp; omega)).trans ((alloc_below U A).block b hb))
theorem alloc3_size (U : World) (A B C : Obj) : (((U.alloc A).alloc B).alloc C).heap.size = U.heap.size + 1 + 1 + 1 := by simp
/-- the world in which one that was open has got its last part -/
theorem end_mem {w U : World} {base rb g cap m : Nat} {X : Nat → Prop} {L : Value} {pos d : Nat} {y x : E} {yv sx : Value} {ps K : List (E × Value)} {hi : Nat}
    (hR : Rd w base rb X L pos d (.slice (some ⟨g, 0, none⟩) (K.length + 1) cap) ((y, yv) :: K) hi) (hx : Forest w (fun b => hi ≤ b ∧ ¬ (some b = some g ∨ X b)) x.a sx)
    (hya : y.a = ps.map (·.1)) (hyp : OwnF PET m w (fun b => m ≤ b ∧ b < hi ∧ ¬ (some b = some g ∨ X b)) yv ps) (hyb : ∀ k, yv.ownBlock = some k → k < hi ∧ ¬ (some k = some g ∨ X k)) (hstk : Stk w (fun b => some b = some g ∨ X b) base K m) (hm : m ≤ hi) (hg : base ≤ g) (hg2 : g < w.heap.size)
    (u1 : U.os = w.os) (u2 : U.tape = w.tape) (u3 : U.output = w.output) (hUs : U.heap.size = w.heap.size) (hUb : ∀ b, b ≠ rb → U.heap[b]? = w.heap[b]?)
    (e0 : U.cell? ⟨rb, 0, none⟩ = some L) (e1 : U.cell? ⟨rb, 1, none⟩ = some (.int .i64 pos)) (e2 : U.cell? ⟨rb, 2, none⟩ = some (.slice (some ⟨g, 0, none⟩) K.length cap)) (e3 : U.cell? ⟨rb, 3, none⟩ = some (.int .i64 (cnt K))) (ef : ∀ o, U.frozen? ⟨rb, o, none⟩ = false) :
    ∃ a9 n9 c9 w9, (Builtin.append_ #[PES, PES] PES #[yv, .slice (some ⟨w.heap.size + 1 + 1 + 1, 0, none⟩) 1 1]).run Tryz.prog ((((U.alloc (.cells (cellsE x sx) PET)).alloc (.cells zeroE PET)).alloc (.cells (cellsE y yv) PET)).alloc (.cells (cellsE x sx) PET)) = .ok (.slice a9 n9 c9) w9 ∧
      Box w9 (w.heap.size + 1) E.none (.slice none 0 0) ∧ Box w9 (w.heap.size + 1 + 1) y yv ∧
      (∀ Wf : World, Wf.os = w9.os → Wf.tape = w9.tape → Wf.output = w9.output → Wf.heap.size = w9.heap.size → (∀ b, b ≠ w.heap.size + 1 → b ≠ w.heap.size + 1 + 1 → Wf.heap[b]? = w9.heap[b]?) →
        Rd Wf base rb X L pos (cnt K) (.slice (some ⟨g, 0, none⟩) K.length cap) K m ∧ Forest Wf (fun b => m ≤ b ∧ ¬ (some b = some g ∨ X b)) (y.a ++ [x]) (.slice a9 n9 c9) ∧ Kept rb base X w Wf) := by
  have hsz := alloc3_size U (.cells (cellsE x sx) PET) (.cells zeroE PET) (.cells (cellsE y yv) PET)
  have hbl := alloc3_block U (.cells (cellsE x sx) PET) (.cells zeroE PET) (.cells (cellsE y yv) PET)
  have hbm := hstk.le
  have hrb := hR.lt
  have hbs := hR.bs
  have hhi := hR.hi_le
  have hxl := hR.xl
  have hB1 : Box (((U.alloc (.cells (cellsE x sx) PET)).alloc (.cells zeroE PET)).alloc (.cells (cellsE y yv) PET)) (w.heap.size + 1) E.none (.slice none 0 0) := by
    have := box_new (U.alloc (.cells (cellsE x sx) PET)) E.none (.slice none 0 0) PET
    have hz : (U.alloc (.cells (cellsE x sx) PET)).heap.size = w.heap.size + 1 := by simp [hUs]
    rw [hz] at this
    exact this.keep ((alloc_below _ _).block _ this.lt) (alloc_below _ _).size
  have hB2 : Box (((U.alloc (.cells (cellsE x sx) PET)).alloc (.cells zeroE PET)).alloc (.cells (cellsE y yv) PET)) (w.heap.size + 1 + 1) y yv := by
    have := box_new ((U.alloc (.cells (cellsE x sx) PET)).alloc (.cells zeroE PET)) y yv PET
    have hz : ((U.alloc (.cells (cellsE x sx) PET)).alloc (.cells zeroE PET)).heap.size = w.heap.size + 1 + 1 := by simp [hUs]
    rw [hz] at this
    exact this
  rw [hUs] at hsz hbl
  generalize hW : (((U.alloc (.cells (cellsE x sx) PET)).alloc (.cells zeroE PET)).alloc (.cells (cellsE y yv) PET)) = W at *
  have w1 : W.os = U.os := by rw [← hW]; rfl
  have w2 : W.tape = U.tape := by rw [← hW]; rfl
  have w3 : W.output = U.output := by rw [← hW]; rfl
  have hWb : ∀ b, b < w.heap.size → b ≠ rb → W.heap[b]? = w.heap[b]? := fun b hb hne => (hbl b hb).trans (hUb b hne)
  have hnr : ∀ b, base ≤ b → b ≠ rb := fun b hb e => by omega
  let S : Nat → Prop := fun b => m ≤ b ∧ ¬ (some b = some g ∨ X b) ∧ b ≠ w.heap.size ∧ b ≠ w.heap.size + 1 ∧ b ≠ w.heap.size + 1 + 1
  have hown : OwnF PET m W S yv ps := hyp.keep (fun k hk => hWb k (by have := (hyb k hk).1; omega) (hnr k (by have := (hyp.row.lt k hk).1; omega))) (fun b hs hl => hWb b hl (hnr b (by omega))) (fun b hs hl => ⟨hs.1, hs.2.2, by omega, by omega, by omega⟩)
  have hfx : Forest W (fun b => S b ∧ some b ≠ yv.ownBlock) x.a sx := hx.keep (fun b hs hl => hWb b hl (hnr b (by omega))) (fun b hs hl => ⟨⟨by omega, hs.2, by omega, by omega, by omega⟩, fun e => by have := (hyb b e.symm).1; omega⟩)
  have hpl : ps.length ≤ 3 := by have := hR.al _ List.mem_cons_self; simp only [hya, List.length_map] at this; exact this
  obtain ⟨v9, w9, hr, ho, hgr, hat⟩ := append_tree infoPE Tryz.underlying22 hown hfx (by omega) (by omega)
  rw [hsz] at hr hat
  obtain ⟨a9, c9, hv9⟩ := ho.shape
  subst hv9
  have hz : (W.alloc (.cells #[.int .i64 x.kind, .int .i64 x.n, .string ⟨x.name.toArray⟩, sx] PET)).heap.size = w.heap.size + 1 + 1 + 1 + 1 := by simp [hsz]
  have hz9 := hgr.size
  rw [hz] at hz9
  have h9b : ∀ b, b < w.heap.size + 1 + 1 + 1 → some b ≠ yv.ownBlock → w9.heap[b]? = W.heap[b]? := fun b hb hne => (hgr.block b (by rw [hz]; omega) hne).trans ((alloc_below W _).block b (by omega))
  have hne1 : ∀ b, w.heap.size ≤ b → some b ≠ yv.ownBlock := fun b hb e => by have := (hyb b e.symm).1; omega
  refine ⟨a9, _, c9, w9, hr, hB1.keep (h9b _ (by omega) (hne1 _ (by omega))) (by omega), hB2.keep (h9b _ (by omega) (hne1 _ (by omega))) (by omega), ?_⟩
  intro Wf f1 f2 f3 fs fb
  have hrw : Wf.heap[rb]? = U.heap[rb]? := ((fb rb (by omega) (by omega)).trans (h9b rb (by omega) (fun e => by have := (hyp.row.lt rb e.symm).1; omega))).trans (hbl rb (by omega))
  have hc : ∀ o, Wf.cell? ⟨rb, o, none⟩ = U.cell? ⟨rb, o, none⟩ := fun o => World.cell?_of_block (a := ⟨rb, o, none⟩) hrw
  have hfw : ∀ b, b < w.heap.size → b ≠ rb → some b ≠ yv.ownBlock → Wf.heap[b]? = w.heap[b]? := fun b hb h1 h2 => ((fb b (by omega) (by omega)).trans (h9b b (by omega) h2)).trans (hWb b hb h1)
  refine ⟨hR.pop hstk hm (by omega) (fun b hb h1 h2 => hfw b hb h1 (fun e => ?_)) ((hc 0).trans e0) ((hc 1).trans e1) ((hc 2).trans e2) ((hc 3).trans e3) (fun o => (World.frozen?_of_block (a := ⟨rb, o, none⟩) hrw).trans (ef o)), ?_, ?_⟩
  · have h3 := (hyp.row.lt b e.symm).1
    have h4 := (hyb b e.symm).2
    rcases h2 with h2 | h2
    · omega
    · exact h4 (.inl (by rw [h2]))
  · have hF := ho.forest (fun k hk => by
      rcases hat with e | e
      · have h3 := (hyp.row.lt k (by rw [← e]; exact hk)).1
        have h4 := hyb k (by rw [← e]; exact hk)
        exact ⟨h3, h4.2, by omega, by omega, by omega⟩
      · have : k = w.heap.size + 1 + 1 + 1 + 1 := by rw [hk] at e; injection e
        subst this
        exact ⟨by omega, fun h => h.elim (fun h => by injection h with h; omega) (fun h => by have := hxl _ h; omega), by omega, by omega, by omega⟩)
    rw [List.map_append, ← hya] at hF
    exact hF.keep (fun b hs _ => fb b hs.2.2.2.1 hs.2.2.2.2) (fun b hs _ => ⟨hs.1, hs.2.1⟩)
  · refine ⟨f1.trans (hgr.os.trans (w1.trans u1)), f2.trans (hgr.tape.trans (w2.trans u2)), f3.trans (hgr.output.trans (w3.trans u3)), by omega, fun b hb h1 h2 => hfw b hb h1 (fun e => ?_)⟩
    have h3 := (hyp.row.lt b e.symm).1
    have h4 := (hyb b e.symm).2
    rcases h2 with h2 | h2
    · omega
    · exact h4 (.inr h2)

set_option maxHeartbeats 8000000 in
set_option maxRecDepth 100000 in
theorem end_any (L : Value) (w : World) (base rb : Nat) (X : Nat → Prop) (pos d : Nat) (v : Value) (y : E × Value) (K : List (E × Value)) (hi : Nat) (x : E) (sx : Value) (hR : Rd w base rb X L pos d v (y :: K) hi) (hx : Forest w (fun b => hi ≤ b ∧ ¬ (some b = v.ownBlock ∨ X b)) x.a sx) (hp1 : pos ≤ 1000001) :
    Calls Tryz.prog 78 #[.pointer (some ⟨rb, 0, none⟩), treeV x sx] w fun e w' => ∃ sz v' m, e = .returned (treeV (Ex.whole y.1 x) sz) ∧ Rd w' base rb X L pos (Ex.deepOf y.1 d) v' K m ∧ Forest w' (fun b => m ≤ b ∧ ¬ (some b = v'.ownBlock ∨ X b)) (Ex.whole y.1 x).a sz ∧ Kept rb base X w w' := by
  obtain ⟨y, yv⟩ := y
  obtain ⟨g, cap, m, ps, rfl, hcap, hmax, hg1, hg2, hgX, ⟨t0, t1, t2, t3⟩, htf, hmh, hbm, hya, hyp, hyb, hstk⟩ := hR.top
  have hkl := hR.kl
  have hdp := hR.dp
  have hcn : cnt K ≤ K.length := by
    clear hR hx hstk hkl hdp t0 t1 t2 t3 hcap
    induction K with
    | nil => exact Nat.le_refl _
    | cons z K ih => simp only [cnt, List.length_cons]; split <;> omega
  have HR := hide hR
  have HX := hide hx
  have h0 := hR.c0
  have h1 := hR.c1
  have h2 := hR.c2
  have h3 := hR.c3
  have f2 := hR.fr 2
  have f3 := hR.fr 3
  have HFR := hide hR.fr
  have hrl : rb < w.heap.size := by have := hR.lt; have := hR.bs; omega
  have hrl2 : rb < w.heap.size + 1 := by omega
  have hrl3 : rb < w.heap.size + 1 + 1 := by omega
  obtain ⟨xa, xc, hsx⟩ := hx.shape
  obtain ⟨ya, yc, hyv⟩ := hyp.shape
  dsimp only at t0 t1 t2 t3 hyv
  subst hsx hyv
  generalize hxl : x.a.length = xl at *
  generalize hpl : ps.length = pl at *
  simp only [List.length_cons] at hkl
  have HT := hide (And.intro hya (And.intro hyp (And.intro hyb hstk)))
  clear hR hx hya hyp hyb hstk
  have hcap2 : (K.length : Int) + 1 ≤ cap := by omega
  by_cases k0 : y.kind = 0
  · rw [k0] at t0
    have hw : Ex.whole y x = x := by unfold Ex.whole; rw [if_pos k0]
    have hde : Ex.deepOf y d = cnt K := by unfold Ex.deepOf; rw [if_pos (.inl k0), hdp]; simp only [cnt]; rw [if_pos (.inl k0)]; omega
    have hd1 : (d : Int) = (cnt K : Int) + 1 := by rw [hdp]; simp only [cnt]; rw [if_pos (.inl k0)]; omega
    rw [hd1] at h3
    rw [hw, hde]
    have hcn2 : (cnt K : Int) ≤ 1000001 := by omega
    have HF : Hid (∀ (A B C : Obj), Rd (((((w.setCell ⟨rb, 2, none⟩ (.slice (some ⟨g, 0, none⟩) K.length cap)).setCell ⟨rb, 3, none⟩ (.int .i64 (cnt K))).alloc A).alloc B).alloc C) base rb X L pos (cnt K) (.slice (some ⟨g, 0, none⟩) K.length cap) K m ∧ Forest (((((w.setCell ⟨rb, 2, none⟩ (.slice (some ⟨g, 0, none⟩) K.length cap)).setCell ⟨rb, 3, none⟩ (.int .i64 (cnt K))).alloc A).alloc B).alloc C) (fun b => m ≤ b ∧ ¬ (some b = some g ∨ X b)) x.a (.slice xa xl xc) ∧ Kept rb base X w (((((w.setCell ⟨rb, 2, none⟩ (.slice (some ⟨g, 0, none⟩) K.length cap)).setCell ⟨rb, 3, none⟩ (.int .i64 (cnt K))).alloc A).alloc B).alloc C)) := hide (by
      intro A B C
      have hU : ∀ b, b ≠ rb → ((w.setCell ⟨rb, 2, none⟩ (.slice (some ⟨g, 0, none⟩) K.length cap)).setCell ⟨rb, 3, none⟩ (.int .i64 (cnt K))).heap[b]? = w.heap[b]? := fun b hb => (Below.heap_setCell _ _ _ _ (show b ≠ rb from hb)).trans (Below.heap_setCell _ _ _ _ (show b ≠ rb from hb))
      have hz : ((w.setCell ⟨rb, 2, none⟩ (.slice (some ⟨g, 0, none⟩) K.length cap)).setCell ⟨rb, 3, none⟩ (.int .i64 (cnt K))).heap.size = w.heap.size := by simp [World.setCell]
      have q0 : ((w.setCell ⟨rb, 2, none⟩ (.slice (some ⟨g, 0, none⟩) K.length cap)).setCell ⟨rb, 3, none⟩ (.int .i64 (cnt K))).cell? ⟨rb, 0, none⟩ = some L := by simp [go_sem, h0]
      have q1 : ((w.setCell ⟨rb, 2, none⟩ (.slice (some ⟨g, 0, none⟩) K.length cap)).setCell ⟨rb, 3, none⟩ (.int .i64 (cnt K))).cell? ⟨rb, 1, none⟩ = some (.int .i64 pos) := by simp [go_sem, h1]
      have q2 : ((w.setCell ⟨rb, 2, none⟩ (.slice (some ⟨g, 0, none⟩) K.length cap)).setCell ⟨rb, 3, none⟩ (.int .i64 (cnt K))).cell? ⟨rb, 2, none⟩ = some (.slice (some ⟨g, 0, none⟩) K.length cap) := by simp [go_sem, h2]
      have q3 : ((w.setCell ⟨rb, 2, none⟩ (.slice (some ⟨g, 0, none⟩) K.length cap)).setCell ⟨rb, 3, none⟩ (.int .i64 (cnt K))).cell? ⟨rb, 3, none⟩ = some (.int .i64 (cnt K)) := by simp [go_sem, h3]
      have qf : ∀ o, ((w.setCell ⟨rb, 2, none⟩ (.slice (some ⟨g, 0, none⟩) K.length cap)).setCell ⟨rb, 3, none⟩ (.int .i64 (cnt K))).frozen? ⟨rb, o, none⟩ = false := fun o => by simp [go_sem, unhide HFR o]
      generalize hUe : ((w.setCell ⟨rb, 2, none⟩ (.slice (some ⟨g, 0, none⟩) K.length cap)).setCell ⟨rb, 3, none⟩ (.int .i64 (cnt K))) = U at *
      have u1 : U.os = w.os := by rw [← hUe]; rfl
      have u2 : U.tape = w.tape := by rw [← hUe]; rfl
      have u3 : U.output = w.output := by rw [← hUe]; rfl
      have hbl := alloc3_block U A B C
      have hsz := alloc3_size U A B C
      rw [hz] at hbl hsz
      have hrw := hbl rb hrl
      have hc : ∀ o, (((U.alloc A).alloc B).alloc C).cell? ⟨rb, o, none⟩ = U.cell? ⟨rb, o, none⟩ := fun o => World.cell?_of_block (a := ⟨rb, o, none⟩) hrw
      refine ⟨(unhide HR).pop (unhide HT).2.2.2 hmh (by omega) (fun b hb h1 _ => (hbl b hb).trans (hU b h1)) ((hc 0).trans q0) ((hc 1).trans q1) ((hc 2).trans q2) ((hc 3).trans q3) (fun o => (World.frozen?_of_block (a := ⟨rb, o, none⟩) hrw).trans (qf o)), ?_, ?_⟩
      · exact (unhide HX).keep (fun b hs hl => (hbl b hl).trans (hU b (by have := (unhide HR).lt; omega))) (fun b hs hl => ⟨by omega, hs.2⟩)
      · exact ⟨u1, u2, u3, by omega, fun b hb h1 _ => (hbl b hb).trans (hU b h1)⟩)
    clear hw hde hd1 hdp
    generalize hcK : cnt K = c at *
    generalize hn : K.length = n at *
    go_enter Tryz.func78, Tryz.ntmps78
    go_wp2
    refine bodyPost_ret (v := treeV x (.slice xa xl xc)) (by simp [results, Tryz.results78, go_sem]) rfl ?_
    obtain ⟨r1, r2, r3⟩ := unhide HF (.cells #[.int .i64 x.kind, .int .i64 x.n, .string ⟨x.name.toArray⟩, .slice xa xl xc] 24) (.cells #[.int .i64 x.kind, .int .i64 x.n, .string ⟨x.name.toArray⟩, .slice xa xl xc] 24) (.cells #[.int .i64 0, .int .i64 y.n, .string ⟨y.name.toArray⟩, .slice ya pl yc] 24)
    exact ⟨_, rfl, _, m, r1, r2.mono (fun b hs _ => ⟨hs.1, fun e => hs.2 (.inl e), fun e => hs.2 (.inr e)⟩), r3⟩
  · have hw : Ex.whole y x = y.plus x := by unfold Ex.whole; rw [if_neg k0]
    rw [hw]
    have q0 : (y.kind == 0) = false := beq_eq_false_iff_ne.2 k0
    by_cases k4 : y.kind = 4
    · have hde : Ex.deepOf y d = cnt K := by unfold Ex.deepOf; rw [if_pos (.inr k4), hdp]; simp only [cnt]; rw [if_pos (.inr k4)]; omega
      have hd1 : (d : Int) = (cnt K : Int) + 1 := by rw [hdp]; simp only [cnt]; rw [if_pos (.inr k4)]; omega
      rw [hd1] at h3
      rw [hde]
      have hcn2 : (cnt K : Int) ≤ 1000001 := by omega
      obtain ⟨a9, n9, c9, w9, hr9, hB1, hB2, hfin⟩ := end_mem (U := (w.setCell ⟨rb, 2, none⟩ (.slice (some ⟨g, 0, none⟩) K.length cap)).setCell ⟨rb, 3, none⟩ (.int .i64 (cnt K))) (unhide HR) (unhide HX) (unhide HT).1 (unhide HT).2.1 (unhide HT).2.2.1 (unhide HT).2.2.2 hmh hg1 hg2 rfl rfl rfl (by simp [World.setCell]) (fun b hb => (Below.heap_setCell _ _ _ _ (show b ≠ rb from hb)).trans (Below.heap_setCell _ _ _ _ (show b ≠ rb from hb))) (by simp [go_sem, h0]) (by simp [go_sem, h1]) (by simp [go_sem, h2]) (by simp [go_sem, h3]) (fun o => by simp [go_sem, unhide HFR o])
      dsimp only [cellsE] at hr9
      rw [k4] at t0 hr9
      obtain ⟨a0, a1, a2, a3, b0, b1, b2, b3, hb9⟩ := hB1
      obtain ⟨d0, d1, d2, d3, g0, gg1, gg2, g3, hd9⟩ := hB2
      rw [k4] at d0
      have HFI := hide hfin
      have hk : (y.plus x).kind = 4 := k4
      clear hw hde hd1 hdp hfin q0 k0 k4
      generalize hcK : cnt K = c at *
      generalize hn : K.length = n at *
      go_enter Tryz.func78, Tryz.ntmps78
      go_wp2_with (at_builtin; refine wpList_append_runP rfl _ _ rfl rfl _ _ rfl rfl _ w9 hr9 ?_)
      refine bodyPost_ret (v := .agg #[.int .i64 4, .int .i64 y.n, .string ⟨y.name.toArray⟩, .slice a9 n9 c9]) (by simp [results, Tryz.results78, go_sem, a0, a1, a2, a3]) rfl ?_
      have hset : ∀ b, b ≠ w.heap.size + 1 → b ≠ w.heap.size + 1 + 1 → (((((w9.setCell ⟨w.heap.size + 1 + 1, 3, none⟩ (.slice a9 n9 c9)).setCell ⟨w.heap.size + 1, 0, none⟩ (.int .i64 4)).setCell ⟨w.heap.size + 1, 1, none⟩ (.int .i64 y.n)).setCell ⟨w.heap.size + 1, 2, none⟩ (.string ⟨y.name.toArray⟩)).setCell ⟨w.heap.size + 1, 3, none⟩ (.slice a9 n9 c9)).heap[b]? = w9.heap[b]? := fun b h1 h2 => (heap_set4 _ _ _ _ _ _ _ h1).trans (Below.heap_setCell _ _ _ _ (show b ≠ w.heap.size + 1 + 1 from h2))
      obtain ⟨r1, r2, r3⟩ := unhide HFI (((((w9.setCell ⟨w.heap.size + 1 + 1, 3, none⟩ (.slice a9 n9 c9)).setCell ⟨w.heap.size + 1, 0, none⟩ (.int .i64 4)).setCell ⟨w.heap.size + 1, 1, none⟩ (.int .i64 y.n)).setCell ⟨w.heap.size + 1, 2, none⟩ (.string ⟨y.name.toArray⟩)).setCell ⟨w.heap.size + 1, 3, none⟩ (.slice a9 n9 c9)) rfl rfl rfl (by simp [World.setCell]) hset
      exact ⟨.slice a9 n9 c9, ret_val (by show _ = treeV (y.plus x) _; unfold treeV; rw [hk]; rfl), _, m, r1, r2.mono (fun b hs _ => ⟨hs.1, fun e => hs.2 (.inl e), fun e => hs.2 (.inr e)⟩), r3⟩
    · have hde : Ex.deepOf y d = cnt K := by unfold Ex.deepOf; rw [if_neg (by simp [k0, k4]), hdp]; simp only [cnt]; rw [if_neg (by simp [k0, k4])]; omega
      have hd1 : (d : Int) = (cnt K : Int) := by rw [hdp]; simp only [cnt]; rw [if_neg (by simp [k0, k4])]; omega
      rw [hd1] at h3
      rw [hde]
      have hcn2 : (cnt K : Int) ≤ 1000001 := by omega
      have q4 : (y.kind == 4) = false := beq_eq_false_iff_ne.2 k4
      obtain ⟨a9, n9, c9, w9, hr9, hB1, hB2, hfin⟩ := end_mem (U := w.setCell ⟨rb, 2, none⟩ (.slice (some ⟨g, 0, none⟩) K.length cap)) (unhide HR) (unhide HX) (unhide HT).1 (unhide HT).2.1 (unhide HT).2.2.1 (unhide HT).2.2.2 hmh hg1 hg2 rfl rfl rfl (by simp [World.setCell]) (fun b hb => Below.heap_setCell _ _ _ _ (show b ≠ rb from hb)) (by simp [go_sem, h0]) (by simp [go_sem, h1]) (by simp [go_sem, h2]) (by simp [go_sem, h3]) (fun o => by simp [go_sem, unhide HFR o])
      dsimp only [cellsE] at hr9
      obtain ⟨a0, a1, a2, a3, b0, b1, b2, b3, hb9⟩ := hB1
      obtain ⟨d0, d1, d2, d3, g0, gg1, gg2, g3, hd9⟩ := hB2
      have HFI := hide hfin
      clear hw hde hd1 hdp hfin k0 k4
      generalize hcK : cnt K = c at *
      generalize hn : K.length = n at *
      go_enter Tryz.func78, Tryz.ntmps78
      go_wp2_with (at_builtin; refine wpList_append_runP rfl _ _ rfl rfl _ _ rfl rfl _ w9 hr9 ?_)
      refine bodyPost_ret (v := .agg #[.int .i64 y.kind, .int .i64 y.n, .string ⟨y.name.toArray⟩, .slice a9 n9 c9]) (by simp [results, Tryz.results78, go_sem, a0, a1, a2, a3]) rfl ?_
      have hset : ∀ b, b ≠ w.heap.size + 1 → b ≠ w.heap.size + 1 + 1 → (((((w9.setCell ⟨w.heap.size + 1 + 1, 3, none⟩ (.slice a9 n9 c9)).setCell ⟨w.heap.size + 1, 0, none⟩ (.int .i64 y.kind)).setCell ⟨w.heap.size + 1, 1, none⟩ (.int .i64 y.n)).setCell ⟨w.heap.size + 1, 2, none⟩ (.string ⟨y.name.toArray⟩)).setCell ⟨w.heap.size + 1, 3, none⟩ (.slice a9 n9 c9)).heap[b]? = w9.heap[b]? := fun b h1 h2 => (heap_set4 _ _ _ _ _ _ _ h1).trans (Below.heap_setCell _ _ _ _ (show b ≠ w.heap.size + 1 + 1 from h2))
      obtain ⟨r1, r2, r3⟩ := unhide HFI (((((w9.setCell ⟨w.heap.size + 1 + 1, 3, none⟩ (.slice a9 n9 c9)).setCell ⟨w.heap.size + 1, 0, none⟩ (.int .i64 y.kind)).setCell ⟨w.heap.size + 1, 1, none⟩ (.int .i64 y.n)).setCell ⟨w.heap.size + 1, 2, none⟩ (.string ⟨y.name.toArray⟩)).setCell ⟨w.heap.size + 1, 3, none⟩ (.slice a9 n9 c9)) rfl rfl rfl (by simp [World.setCell]) hset
      exact ⟨.slice a9 n9 c9, ret_val (by show _ = treeV (y.plus x) _; unfold treeV; rfl), _, m, r1, r2.mono (fun b hs _ => ⟨hs.1, fun e => hs.2 (.inl e), fun e => hs.2 (.inr e)⟩), r3⟩
end Go.Proofs.YtepnafnljfjeoaaGreatDoor.Line
