/- The contract of the builder's begin.
   The contract of the builder's add. -/
import Derived.Test.YthkbchefjagbbaaGreatDoorTrOpsA
import Derived.Test.YthkbchefjagbbaaGreatDoorRegE
namespace Go.Proofs.YthkbchefjagbbaaGreatDoor.Line
open Go.ChangeShapes Go.WideShapes Go.ChangeAt Go.RowKit
open Ex (E St)
set_option linter.unusedVariables false

theorem undN : Tryz.prog.underlying NDT = some undND.choose ∧ undND.choose.isRow = true := undND.choose_spec
theorem loadN_run (W : World) (b o : Nat) (cs : List Value) (hl : cs.length = 34) (hc : W.rangeAt b o cs) : (Instr.loadAt NDT (.pointer (some ⟨b, o, none⟩))).run Tryz.prog W = .ok (.agg cs.toArray) W :=
  run_loadAt_mid W b o NDT cs undND.choose hc undN.1 undN.2 (by rw [hl]; exact sizeND)
theorem loadCN_run (W : World) (b o : Nat) (cs : List Value) (hl : cs.length = 34) (hc : W.rangeAt b o cs) : (loadCellsFrom ⟨b, o, none⟩ 0 34 #[]).run Tryz.prog W = .ok cs.toArray W := by
  have := run_loadCells_list (P := Tryz.prog) W ⟨b, o, none⟩ cs (fun j v hv => by rw [Addr.add_mid]; exact hc j v hv)
  rw [hl] at this
  exact this
theorem storeCN_run (W : World) (b o : Nat) (cs : List Value) (hl : cs.length = 34) (ht : W.there b o 34) (h1 : ∀ v ∈ cs, v.oneCell' = true) : (storeCells ⟨b, o, none⟩ cs 0).run Tryz.prog W = .ok () (W.setCells b o cs) := by
  have := run_storeCells_cells (P := Tryz.prog) b o cs 0 W (fun j hj => by simpa using (ht j (by omega)).1) (fun j hj => by simpa using (ht j (by omega)).2) h1
  simpa using this
/-- a node's box, made by the call -/
theorem boxN_range (w : World) (cs : List Value) (t : TypeId) : (w.alloc (.cells cs.toArray t)).rangeAt w.heap.size 0 cs := fun j v hv => by
  rw [Nat.zero_add, cell_of_row _ _ j cs.toArray t (0, 0) (heap_alloc_last w _)]
  simpa using hv
/-- a node that is new -/
theorem agg_cells (cs : List Value) : (Value.agg cs.toArray).cells = cs.toArray := rfl
theorem at_worldN {F : World → Prop} {Q : Exit → Act → World → Prop} {x : Exit} {a : Act} {W : World} (h : F W) (k : ∀ W, F W → Q x a W) : Q x a W := k W h
set_option maxHeartbeats 8000000 in
set_option maxRecDepth 100000 in
theorem tbBegin_any {bb base go hi : Nat} {dv ov : Value} {D K : List (NC × PN)} (w : World) (h : BlAt w bb base dv ov D K go hi) (c : NC) (n : PN) (h1 : c.line = n.line ∧ c.en = n.en ∧ c.mid = n.mid) (st : HoldsF (fun b => hi ≤ b ∧ b ≠ go) w c.cs n.ps.full) (hbv : c.bv = .slice none 0 0) (hev : c.ev = .slice none 0 0) (hb : n.body = []) (he : n.els = []) (one : ∀ v ∈ c.cells, v.oneCell' = true) :
    Calls Tryz.prog 123 #[.pointer (some ⟨bb, 0, none⟩), .agg c.cells.toArray] w fun e w' => (K.length = 8 ∧ e = .returned (.iface 147 (.int .i64 4)) ∧ Below w.heap.size w w') ∨ (K.length < 8 ∧ e = .returned .nilIface ∧ Fr bb base w w' ∧ ∃ ov' go', BlAt w' bb base dv ov' D ((c, n) :: K) go' w'.heap.size) := by
  obtain ⟨oa, ocap, hov⟩ := h.shape.1
  have hdp := h.deep
  obtain ⟨l1, l2, l3⟩ := h.lt
  have hcl := NC.len st.size.1
  have ba := alloc_below w (.cells c.cells.toArray NDT)
  have hA := h.below ba
  have c1 := hA.c1
  by_cases h8 : K.length = 8
  · subst hov
    have HB := hide ba
    clear h hA ba st
    rw [h8] at c1
    go_enter Tryz.func123, Tryz.ntmps123
    go_wp2
    go_ret
    exact .inl ⟨h8, rfl, unhide HB⟩
  · have hrg := boxN_range w c.cells NDT
    have stA : HoldsF (fun b => hi ≤ b ∧ b ≠ go) (w.alloc (.cells c.cells.toArray NDT)) c.cs n.ps.full := st.keep (fun b _ hl => ba.block b hl) (fun _ h _ => h)
    have HB := hide ba
    have hblk : some w.heap.size ≠ Value.ownBlock ov := fun e => by have := (h.orow.lt _ e.symm).2; omega
    have hz1 : (w.alloc (.cells c.cells.toArray NDT)).heap.size = w.heap.size + 1 := by simp
    have HST := hide (And.intro stA (And.intro hA (And.intro h1 (And.intro hbv (And.intro hev (And.intro hb (And.intro he one)))))))
    clear h ba st stA hA h1 hbv hev hb he one
    subst hov
    have hk8 : ((K.length : Int) == 8) = false := by rw [beq_eq_false_iff_ne]; omega
    go_enter Tryz.func123, Tryz.ntmps123
    go_upto_region 3 with (fail)
    generalize w.alloc (.cells c.cells.toArray NDT) = W1 at *
    have hDZ : Below W1.heap.size W1 (W1.alloc (.cells zeroND NDT)).drew := (alloc_below W1 _).drew
    have hz : (W1.alloc (.cells zeroND NDT)).drew.heap[W1.heap.size]? = some (.cells zeroND NDT (0, 0)) := heap_alloc_last W1 _
    obtain ⟨stA, hA, h1, hbv, hev, hb, he, one⟩ := unhide HST
    obtain ⟨g9, c9, w9, G, hfin, hfr⟩ := (hA.below hDZ).push hz (by omega) h1 (stA.keep (fun b _ hl => hDZ.block b hl) (fun _ h _ => h)) hbv hev hb he
    have q : w.heap.size < W1.heap.size := by omega
    have r0 : W1.drew.rangeAt w.heap.size 0 c.cells := range_keep hrg rfl
    have r1 : (W1.alloc (.cells zeroND NDT)).drew.rangeAt w.heap.size 0 c.cells := range_keep hrg (hDZ.block _ q)
    have GR := hide G
    have HF := hide (And.intro hfin ((Fr.below (unhide HB) (by omega) : Fr bb base w W1).trans ((Fr.below hDZ (by omega)).trans hfr)))
    have HO := hide one
    have hSz : (W1.alloc (.cells zeroND NDT)).drew.cell? ⟨bb, 1, none⟩ = some (.slice oa K.length ocap) ∧ (W1.alloc (.cells zeroND NDT)).drew.rangeAt w.heap.size 0 c.cells := ⟨(hA.below hDZ).c1, r1⟩
    have HSZ := hide hSz
    clear hDZ hz stA hA h1 hbv hev hb he one G hfin hfr HST HB r1 hrg hSz hz1 q
    generalize hk : K.length = k at *
    have i1 : (k : Int) < k + 1 := by omega
    have i2 : (0 : Int) ≤ k := by omega
    refine wp_regionE (fun W => W.cell? ⟨bb, 1, none⟩ = some (.slice oa k ocap) ∧ W.rangeAt w.heap.size 0 c.cells) (fun j => decide (j < 7)) (by kernel_rfl) ⟨c1, r0⟩ (fun hS => ?_)
    refine anyE_take 0 (v := ?_) rfl (by kernel_rfl) (by kernel_rfl) (by kernel_rfl) (by kernel_rfl) (fun _ _ _ h => h) hS (Or.inl ⟨by rfl, ?_⟩) ?_
    rotate_left
    · intro w' hS'
      obtain ⟨e1, e2⟩ := hS'
      go_simp
      try with_reducible rfl
    try simp only [List.getElem_toArray, List.getElem_cons_zero, Act.put, List.setIfInBounds_toArray, List.set_cons_zero, List.set_cons_succ]
    refine anyE_take 1 (v := ?_) rfl (by kernel_rfl) (by kernel_rfl) (by kernel_rfl) (by kernel_rfl) (fun _ _ _ h => h) hS (Or.inl ⟨by rfl, ?_⟩) ?_
    rotate_left
    · intro w' hS'
      obtain ⟨e1, e2⟩ := hS'
      go_simp
      try with_reducible rfl
    try simp only [List.getElem_toArray, List.getElem_cons_succ, List.getElem_cons_zero, Act.put, List.setIfInBounds_toArray, List.set_cons_zero, List.set_cons_succ]
    refine anyE_take 2 (v := ?_) rfl (by kernel_rfl) (by kernel_rfl) (by kernel_rfl) (by kernel_rfl) (fun _ _ _ h => h) hS (Or.inl ⟨by rfl, ?_⟩) ?_
    rotate_left
    · intro w' hS'
      obtain ⟨e1, e2⟩ := hS'
      go_simp
      try with_reducible rfl
    try simp only [List.getElem_toArray, List.getElem_cons_succ, List.getElem_cons_zero, Act.put, List.setIfInBounds_toArray, List.set_cons_zero, List.set_cons_succ]
    refine anyE_take 3 (v := ?_) rfl (by kernel_rfl) (by kernel_rfl) (by kernel_rfl) (by kernel_rfl) (fun _ _ _ h => h) hS (Or.inl ⟨by rfl, ?_⟩) ?_
    rotate_left
    · intro w' hS'
      obtain ⟨e1, e2⟩ := hS'
      go_simp
      try with_reducible rfl
    try simp only [List.getElem_toArray, List.getElem_cons_succ, List.getElem_cons_zero, Act.put, List.setIfInBounds_toArray, List.set_cons_zero, List.set_cons_succ]
    refine anyE_take 4 rfl (by kernel_rfl) (by kernel_rfl) (by kernel_rfl) (by kernel_rfl) (fun _ _ _ h => h) hS (yieldsN_load rfl (.tmp 3) rfl _ _ rfl c.cells hcl (fun _ h => h.2)) ?_
    try simp only [List.getElem_toArray, List.getElem_cons_succ, List.getElem_cons_zero, Act.put, List.setIfInBounds_toArray, List.set_cons_zero, List.set_cons_succ]
    refine anyE_take 5 (v := ?_) rfl (by kernel_rfl) (by kernel_rfl) (by kernel_rfl) (by kernel_rfl) (fun _ _ _ h => h) hS (Or.inl ⟨by rfl, ?_⟩) ?_
    rotate_left
    · intro w' hS'
      obtain ⟨e1, e2⟩ := hS'
      go_simp
      try with_reducible rfl
    try simp only [List.getElem_toArray, List.getElem_cons_succ, List.getElem_cons_zero, Act.put, List.setIfInBounds_toArray, List.set_cons_zero, List.set_cons_succ]
    refine anyE_ready [6] (by kernel_rfl) (by simp) (ReadyE.cons rfl (fun K' hK => ?_) ReadyE.nil)
    go_simp
    refine hK _ _ (fun _ => unhide HSZ) ?_
    clear hK K'
    try simp only [List.getElem_toArray, List.getElem_cons_succ, List.getElem_cons_zero, Act.put, List.setIfInBounds_toArray, List.set_cons_zero, List.set_cons_succ]
    refine any_to_E (by kernel_rfl) ?_
    refine wpAny_ready (rs := [7]) (by kernel_rfl) (by simp) ?_
    refine AllReady.cons rfl (fun K' hK => ?_) AllReady.nil
    refine stepN_append rfl _ _ rfl rfl _ _ rfl rfl _ _ (unhide GR).run ?_
    refine hK _ _ ?_
    clear hK K'
    try simp only [List.getElem_toArray, List.getElem_cons_succ, List.getElem_cons_zero, Act.put, List.setIfInBounds_toArray, List.set_cons_zero, List.set_cons_succ]
    refine wpAny_take (i := 8) (v := ?_) rfl (by kernel_rfl) (by kernel_rfl) (by kernel_rfl) (fun _ _ _ h => h) (Or.inl ⟨by rfl, ?_⟩) ?_
    rotate_left
    · intro w'
      go_simp
      try with_reducible rfl
    try simp only [List.getElem_toArray, List.getElem_cons_succ, List.getElem_cons_zero, Act.put, List.setIfInBounds_toArray, List.set_cons_zero, List.set_cons_succ]
    refine wpAny_take (i := 10) (v := ?_) rfl (by kernel_rfl) (by kernel_rfl) (by kernel_rfl) (fun _ _ _ h => h) (Or.inl ⟨by rfl, ?_⟩) ?_
    rotate_left
    · intro w'
      go_simp
      try with_reducible rfl
    try simp only [List.getElem_toArray, List.getElem_cons_succ, List.getElem_cons_zero, Act.put, List.setIfInBounds_toArray, List.set_cons_zero, List.set_cons_succ]
    refine wpAny_take (i := 11) (v := ?_) rfl (by kernel_rfl) (by kernel_rfl) (by kernel_rfl) (fun _ _ _ h => h) (Or.inl ⟨by rfl, ?_⟩) ?_
    rotate_left
    · intro w'
      go_simp
      try with_reducible rfl
    try simp only [List.getElem_toArray, List.getElem_cons_succ, List.getElem_cons_zero, Act.put, List.setIfInBounds_toArray, List.set_cons_zero, List.set_cons_succ]
    have x1 := (unhide GR).cell
    have x2 := (unhide GR).fr
    have x3 := (unhide GR).cell2
    have x4 := (unhide GR).fr2
    refine wpAny_ready (rs := [9, 12]) (by kernel_rfl) (by simp) ?_
    refine AllReady.cons rfl (fun K' hK => ?_) (AllReady.cons rfl (fun K' hK => ?_) AllReady.nil)
    · refine stepN_store rfl _ _ rfl _ _ _ rfl rfl (unhide GR).there1 hcl (unhide HO) ?_
      refine hK _ _ ?_
      clear hK K'
      try simp only [List.getElem_toArray, List.getElem_cons_succ, List.getElem_cons_zero, Act.put]
      refine wpAny_ready (rs := [12]) (by kernel_rfl) (by simp) ?_
      refine AllReady.cons rfl (fun K' hK => ?_) AllReady.nil
      go_simp
      refine hK _ _ ?_
      clear hK K'
      try simp only [List.getElem_toArray, List.getElem_cons_succ, List.getElem_cons_zero, Act.put]
      refine wpAny_done (by kernel_rfl) ?_ _
      refine at_worldN (F := fun W => Fr bb base w W ∧ ∃ ov' go', BlAt W bb base dv ov' D ((c, n) :: K) go' W.heap.size) ?_ ?_
      · rw [(unhide GR).swap]; exact ⟨(unhide HF).2, _, _, (unhide HF).1⟩
      intro Wf hWf
      have HWF := hide hWf
      clear hWf HF GR x1 x2 x3 x4
      go_wp2
      go_ret
      exact .inr ⟨by omega, rfl, (unhide HWF).1, (unhide HWF).2⟩
    · go_simp
      refine hK _ _ ?_
      clear hK K'
      try simp only [List.getElem_toArray, List.getElem_cons_succ, List.getElem_cons_zero, Act.put]
      refine wpAny_ready (rs := [9]) (by kernel_rfl) (by simp) ?_
      refine AllReady.cons rfl (fun K' hK => ?_) AllReady.nil
      refine stepN_store rfl _ _ rfl _ _ _ rfl rfl ((unhide GR).there2 _) hcl (unhide HO) ?_
      refine hK _ _ ?_
      clear hK K'
      try simp only [List.getElem_toArray, List.getElem_cons_succ, List.getElem_cons_zero, Act.put]
      refine wpAny_done (by kernel_rfl) ?_ _
      refine at_worldN (F := fun W => Fr bb base w W ∧ ∃ ov' go', BlAt W bb base dv ov' D ((c, n) :: K) go' W.heap.size) ?_ ?_
      · exact ⟨(unhide HF).2, _, _, (unhide HF).1⟩
      intro Wf hWf
      have HWF := hide hWf
      clear hWf HF GR x1 x2 x3 x4
      go_wp2
      go_ret
      exact .inr ⟨by omega, rfl, (unhide HWF).1, (unhide HWF).2⟩
end Go.Proofs.YthkbchefjagbbaaGreatDoor.Line

namespace Go.Proofs.YthkbchefjagbbaaGreatDoor.Line
open Go.ChangeShapes Go.WideShapes Go.ChangeAt Go.RowKit
open Ex (E St)
set_option linter.unusedVariables false

theorem topP_cons (go : Nat) (p : NC × PN) (K : List (NC × PN)) : topP go (p :: K) = .pointer (some ⟨go, K.length * 34, none⟩) := by
  unfold topP
  rw [if_neg (by simp), List.length_cons, Nat.add_sub_cancel]
theorem topP_nil (go : Nat) : topP go [] = .pointer none := rfl
theorem node_one {W : World} {S : Nat → Prop} {c : NC} {n : PN} (h : Node1 W S c n) : c.cells.length = 34 := NC.len h.st.size.1
set_option maxHeartbeats 8000000 in
set_option maxRecDepth 100000 in
theorem tbAdd_nil {bb base go m : Nat} {dv ov : Value} {D : List (NC × PN)} (w : World) (h : BlAt w bb base dv ov D [] go m) (c2 : NC) (n2 : PN) (h2 : Node1 w (fun b => m ≤ b ∧ b < w.heap.size ∧ b ≠ go) c2 n2) (hln : D.length ≤ 1000000) :
    Calls Tryz.prog 127 #[.pointer (some ⟨bb, 0, none⟩), .agg c2.cells.toArray] w fun e w' => e = .returned (.tuple #[]) ∧ Fr bb base w w' ∧ ∃ dv' p', BlAt w' bb base dv' ov (D ++ [p']) [] go w'.heap.size ∧ p'.2 = n2 := by
  have ba := alloc_below w (.cells c2.cells.toArray NDT)
  have hcl := node_one h2
  have one := h2.one
  have hA := h.below ba
  have h2A : Node1 (w.alloc (.cells c2.cells.toArray NDT)) (fun b => m ≤ b ∧ b < w.heap.size ∧ b ≠ go) c2 n2 := h2.keep (fun b _ hl => ba.block b hl) (fun _ h _ => h)
  have hrg := boxN_range w c2.cells NDT
  have hz0 : w.heap.size < (w.alloc (.cells c2.cells.toArray NDT)).heap.size := by simp
  have HIN := hide (innermost_any (w.alloc (.cells c2.cells.toArray NDT)) hA)
  obtain ⟨l1, l2, l3⟩ := h.lt
  have HB := hide (And.intro ba (And.intro hA (And.intro h2A (And.intro hrg hz0))))
  have HO := hide one
  clear ba hA h2A hrg hz0 one h h2
  go_enter Tryz.func127, Tryz.ntmps127
  go_wp2_with fail
  generalize w.alloc (.cells c2.cells.toArray NDT) = W0 at *
  refine (unhide HIN).mono ?_
  rintro e w2 ⟨rfl, nd, rfl⟩
  have hd := below_drewN (Below.refl W0.heap.size W0) nd
  have hzd : (W0.drewN nd).heap.size = W0.heap.size := rfl
  obtain ⟨ba, hA, h2A, hrg, hz0⟩ := unhide HB
  have hA := hA.below hd
  have h2A : Node1 (W0.drewN nd) (fun b => m ≤ b ∧ b < w.heap.size ∧ b ≠ go) c2 n2 := h2A.keep (fun b _ hl => hd.block b hl) (fun _ h _ => h)
  have hrg : (W0.drewN nd).rangeAt w.heap.size 0 c2.cells := range_keep hrg (hd.block _ hz0)
  have ba := bthen ba hd
  rw [← hzd] at hz0
  clear hd hzd HIN HB
  generalize hW1 : W0.drewN nd = W1 at *
  clear hW1
  rw [topP_nil]
  have hD := hA.stk
  obtain ⟨da, dcap, hdv⟩ : ∃ a cap, dv = .slice a D.length cap := by
    cases hD with
    | nil _ _ hO => exact hO.shape
  subst hdv
  clear hD
  go_upto_region 4 with (fail)
  have hDZ : Below W1.heap.size W1 (W1.alloc (.cells zeroND NDT)).drew := (alloc_below W1 _).drew
  have hz : (W1.alloc (.cells zeroND NDT)).drew.heap[W1.heap.size]? = some (.cells zeroND NDT (0, 0)) := heap_alloc_last W1 _
  have hsz : (W1.alloc (.cells zeroND NDT)).drew.heap.size = W1.heap.size + 1 := by simp
  obtain ⟨g9, c9, w9, G, hfin, hfr⟩ := (hA.below hDZ).finish hz (h2A.keep (fun b hb hl => hDZ.block b hl) (fun b hb _ => ⟨hb.1, by omega, hb.2.2⟩)) hln
  have r0 : W1.drew.rangeAt w.heap.size 0 c2.cells := range_keep hrg rfl
  have r1 : (W1.alloc (.cells zeroND NDT)).drew.rangeAt w.heap.size 0 c2.cells := range_keep hrg (hDZ.block _ hz0)
  have c1 := hA.c0
  have GR := hide G
  have HF : Hid (Fr bb base w (grownW w9 bb 0 g9 D.length c9 c2.cells) ∧ ∃ dv' p', BlAt (grownW w9 bb 0 g9 D.length c9 c2.cells) bb base dv' ov (D ++ [p']) [] go (grownW w9 bb 0 g9 D.length c9 c2.cells).heap.size ∧ p'.2 = n2) := hide ⟨(Fr.below ba (by omega) : Fr bb base w W1).trans ((Fr.below hDZ (by omega)).trans hfr), _, (c2, n2), hfin, rfl⟩
  have HSZ : Hid ((W1.alloc (.cells zeroND NDT)).drew.cell? ⟨bb, 0, none⟩ = some (.slice da D.length dcap) ∧ (W1.alloc (.cells zeroND NDT)).drew.rangeAt w.heap.size 0 c2.cells) := hide ⟨(hA.below hDZ).c0, r1⟩
  clear hDZ hz hsz hA h2A G hfin hfr r1 hrg hz0 ba
  generalize hk : D.length = k at *
  have i1 : (k : Int) < k + 1 := by omega
  have i2 : (0 : Int) ≤ k := by omega
  refine wp_regionE (fun W => W.cell? ⟨bb, 0, none⟩ = some (.slice da k dcap) ∧ W.rangeAt w.heap.size 0 c2.cells) (fun j => decide (j < 7)) (by kernel_rfl) ⟨c1, r0⟩ (fun hS => ?_)
  refine anyE_take 0 (v := ?_) rfl (by kernel_rfl) (by kernel_rfl) (by kernel_rfl) (by kernel_rfl) (fun _ _ _ h => h) hS (Or.inl ⟨by rfl, ?_⟩) ?_
  rotate_left
  · intro w' hS'
    obtain ⟨e1, e2⟩ := hS'
    go_simp
    try with_reducible rfl
  try simp only [List.getElem_toArray, List.getElem_cons_zero, Act.put, List.setIfInBounds_toArray, List.set_cons_zero, List.set_cons_succ]
  refine anyE_take 1 (v := ?_) rfl (by kernel_rfl) (by kernel_rfl) (by kernel_rfl) (by kernel_rfl) (fun _ _ _ h => h) hS (Or.inl ⟨by rfl, ?_⟩) ?_
  rotate_left
  · intro w' hS'
    obtain ⟨e1, e2⟩ := hS'
    go_simp
    try with_reducible rfl
  try simp only [List.getElem_toArray, List.getElem_cons_succ, List.getElem_cons_zero, Act.put, List.setIfInBounds_toArray, List.set_cons_zero, List.set_cons_succ]
  refine anyE_take 2 (v := ?_) rfl (by kernel_rfl) (by kernel_rfl) (by kernel_rfl) (by kernel_rfl) (fun _ _ _ h => h) hS (Or.inl ⟨by rfl, ?_⟩) ?_
  rotate_left
  · intro w' hS'
    obtain ⟨e1, e2⟩ := hS'
    go_simp
    try with_reducible rfl
  try simp only [List.getElem_toArray, List.getElem_cons_succ, List.getElem_cons_zero, Act.put, List.setIfInBounds_toArray, List.set_cons_zero, List.set_cons_succ]
  refine anyE_take 3 (v := ?_) rfl (by kernel_rfl) (by kernel_rfl) (by kernel_rfl) (by kernel_rfl) (fun _ _ _ h => h) hS (Or.inl ⟨by rfl, ?_⟩) ?_
  rotate_left
  · intro w' hS'
    obtain ⟨e1, e2⟩ := hS'
    go_simp
    try with_reducible rfl
  try simp only [List.getElem_toArray, List.getElem_cons_succ, List.getElem_cons_zero, Act.put, List.setIfInBounds_toArray, List.set_cons_zero, List.set_cons_succ]
  refine anyE_take 4 rfl (by kernel_rfl) (by kernel_rfl) (by kernel_rfl) (by kernel_rfl) (fun _ _ _ h => h) hS (yieldsN_load rfl (.tmp 3) rfl _ _ rfl c2.cells hcl (fun _ h => h.2)) ?_
  try simp only [List.getElem_toArray, List.getElem_cons_succ, List.getElem_cons_zero, Act.put, List.setIfInBounds_toArray, List.set_cons_zero, List.set_cons_succ]
  refine anyE_take 5 (v := ?_) rfl (by kernel_rfl) (by kernel_rfl) (by kernel_rfl) (by kernel_rfl) (fun _ _ _ h => h) hS (Or.inl ⟨by rfl, ?_⟩) ?_
  rotate_left
  · intro w' hS'
    obtain ⟨e1, e2⟩ := hS'
    go_simp
    try with_reducible rfl
  try simp only [List.getElem_toArray, List.getElem_cons_succ, List.getElem_cons_zero, Act.put, List.setIfInBounds_toArray, List.set_cons_zero, List.set_cons_succ]
  refine anyE_ready [6] (by kernel_rfl) (by simp) (ReadyE.cons rfl (fun K' hK => ?_) ReadyE.nil)
  go_simp
  refine hK _ _ (fun _ => unhide HSZ) ?_
  clear hK K'
  try simp only [List.getElem_toArray, List.getElem_cons_succ, List.getElem_cons_zero, Act.put, List.setIfInBounds_toArray, List.set_cons_zero, List.set_cons_succ]
  refine any_to_E (by kernel_rfl) ?_
  refine wpAny_ready (rs := [7]) (by kernel_rfl) (by simp) ?_
  refine AllReady.cons rfl (fun K' hK => ?_) AllReady.nil
  refine stepN_append rfl _ _ rfl rfl _ _ rfl rfl _ _ (unhide GR).run ?_
  refine hK _ _ ?_
  clear hK K'
  try simp only [List.getElem_toArray, List.getElem_cons_succ, List.getElem_cons_zero, Act.put, List.setIfInBounds_toArray, List.set_cons_zero, List.set_cons_succ]
  refine wpAny_take (i := 8) (v := ?_) rfl (by kernel_rfl) (by kernel_rfl) (by kernel_rfl) (fun _ _ _ h => h) (Or.inl ⟨by rfl, ?_⟩) ?_
  rotate_left
  · intro w'
    go_simp
    try with_reducible rfl
  try simp only [List.getElem_toArray, List.getElem_cons_succ, List.getElem_cons_zero, Act.put, List.setIfInBounds_toArray, List.set_cons_zero, List.set_cons_succ]
  refine wpAny_take (i := 10) (v := ?_) rfl (by kernel_rfl) (by kernel_rfl) (by kernel_rfl) (fun _ _ _ h => h) (Or.inl ⟨by rfl, ?_⟩) ?_
  rotate_left
  · intro w'
    go_simp
    try with_reducible rfl
  try simp only [List.getElem_toArray, List.getElem_cons_succ, List.getElem_cons_zero, Act.put, List.setIfInBounds_toArray, List.set_cons_zero, List.set_cons_succ]
  refine wpAny_take (i := 11) (v := ?_) rfl (by kernel_rfl) (by kernel_rfl) (by kernel_rfl) (fun _ _ _ h => h) (Or.inl ⟨by rfl, ?_⟩) ?_
  rotate_left
  · intro w'
    go_simp
    try with_reducible rfl
  try simp only [List.getElem_toArray, List.getElem_cons_succ, List.getElem_cons_zero, Act.put, List.setIfInBounds_toArray, List.set_cons_zero, List.set_cons_succ]
  have x1 := (unhide GR).cell
  have x2 := (unhide GR).fr
  have x3 := (unhide GR).cell2
  have x4 := (unhide GR).fr2
  refine wpAny_ready (rs := [9, 12]) (by kernel_rfl) (by simp) ?_
  refine AllReady.cons rfl (fun K' hK => ?_) (AllReady.cons rfl (fun K' hK => ?_) AllReady.nil)
  · refine stepN_store rfl _ _ rfl _ _ _ rfl rfl (unhide GR).there1 hcl (unhide HO) ?_
    refine hK _ _ ?_
    clear hK K'
    try simp only [List.getElem_toArray, List.getElem_cons_succ, List.getElem_cons_zero, Act.put]
    refine wpAny_ready (rs := [12]) (by kernel_rfl) (by simp) ?_
    refine AllReady.cons rfl (fun K' hK => ?_) AllReady.nil
    go_simp
    refine hK _ _ ?_
    clear hK K'
    try simp only [List.getElem_toArray, List.getElem_cons_succ, List.getElem_cons_zero, Act.put]
    refine wpAny_done (by kernel_rfl) ?_ _
    refine at_worldN (F := fun W => Fr bb base w W ∧ ∃ dv' p', BlAt W bb base dv' ov (D ++ [p']) [] go W.heap.size ∧ p'.2 = n2) ?_ ?_
    · rw [(unhide GR).swap]; exact unhide HF
    intro Wf hWf
    have HWF := hide hWf
    clear hWf HF GR x1 x2 x3 x4
    go_wp2
    go_end0
    exact ⟨rfl, unhide HWF⟩
  · go_simp
    refine hK _ _ ?_
    clear hK K'
    try simp only [List.getElem_toArray, List.getElem_cons_succ, List.getElem_cons_zero, Act.put]
    refine wpAny_ready (rs := [9]) (by kernel_rfl) (by simp) ?_
    refine AllReady.cons rfl (fun K' hK => ?_) AllReady.nil
    refine stepN_store rfl _ _ rfl _ _ _ rfl rfl ((unhide GR).there2 _) hcl (unhide HO) ?_
    refine hK _ _ ?_
    clear hK K'
    try simp only [List.getElem_toArray, List.getElem_cons_succ, List.getElem_cons_zero, Act.put]
    refine wpAny_done (by kernel_rfl) ?_ _
    refine at_worldN (F := fun W => Fr bb base w W ∧ ∃ dv' p', BlAt W bb base dv' ov (D ++ [p']) [] go W.heap.size ∧ p'.2 = n2) ?_ ?_
    · exact unhide HF
    intro Wf hWf
    have HWF := hide hWf
    clear hWf HF GR x1 x2 x3 x4
    go_wp2
    go_end0
    exact ⟨rfl, unhide HWF⟩
set_option maxHeartbeats 8000000 in
set_option maxRecDepth 100000 in
theorem tbAdd_body {bb base go m : Nat} {dv ov : Value} {D K : List (NC × PN)} {c : NC} {r : PN} (w : World) (h : BlAt w bb base dv ov D ((c, r) :: K) go m) (c2 : NC) (n2 : PN) (h2 : Node1 w (fun b => m ≤ b ∧ b < w.heap.size ∧ b ≠ go) c2 n2) (hm : r.mid < 0) (hln : r.body.length ≤ 1000000) :
    Calls Tryz.prog 127 #[.pointer (some ⟨bb, 0, none⟩), .agg c2.cells.toArray] w fun e w' => e = .returned (.tuple #[]) ∧ Fr bb base w w' ∧ ∃ c', BlAt w' bb base dv ov D ((c', r.putIn n2) :: K) go w'.heap.size := by
  have ba := alloc_below w (.cells c2.cells.toArray NDT)
  have hcl := node_one h2
  have one := h2.one
  have hA := h.below ba
  have h2A : Node1 (w.alloc (.cells c2.cells.toArray NDT)) (fun b => m ≤ b ∧ b < w.heap.size ∧ b ≠ go) c2 n2 := h2.keep (fun b _ hl => ba.block b hl) (fun _ h _ => h)
  have hrg := boxN_range w c2.cells NDT
  have hz0 : w.heap.size < (w.alloc (.cells c2.cells.toArray NDT)).heap.size := by simp
  have HIN := hide (innermost_any (w.alloc (.cells c2.cells.toArray NDT)) hA)
  obtain ⟨l1, l2, l3⟩ := h.lt
  have HB := hide (And.intro ba (And.intro hA (And.intro h2A (And.intro hrg hz0))))
  have HO := hide one
  clear ba hA h2A hrg hz0 one h h2
  go_enter Tryz.func127, Tryz.ntmps127
  go_wp2_with fail
  generalize w.alloc (.cells c2.cells.toArray NDT) = W0 at *
  refine (unhide HIN).mono ?_
  rintro e w2 ⟨rfl, nd, rfl⟩
  have hd := below_drewN (Below.refl W0.heap.size W0) nd
  have hzd : (W0.drewN nd).heap.size = W0.heap.size := rfl
  obtain ⟨ba, hA, h2A, hrg, hz0⟩ := unhide HB
  have hA := hA.below hd
  have h2A : Node1 (W0.drewN nd) (fun b => m ≤ b ∧ b < w.heap.size ∧ b ≠ go) c2 n2 := h2A.keep (fun b _ hl => hd.block b hl) (fun _ h _ => h)
  have hrg : (W0.drewN nd).rangeAt w.heap.size 0 c2.cells := range_keep hrg (hd.block _ hz0)
  have ba := bthen ba hd
  rw [← hzd] at hz0
  clear hd hzd HIN HB
  generalize hW1 : W0.drewN nd = W1 at *
  clear hW1
  rw [topP_cons]
  obtain ⟨t1, t2, t3, t4, t5⟩ := hA.top
  obtain ⟨q0, q1, q2, q3, q4, q5⟩ := cells_at c t3
  have cm := t1 33 _ q5
  have hmid : c.mid = r.mid := by
    cases hA.stk with
    | cons _ _ _ B E m0 s q _ hst hms hsq hqh h1 st hb he eb ee h0 => exact h1.2.2
  have hmm : ¬ (0 : Int) ≤ c.mid := by omega
  have hDZ : Below W1.heap.size W1 (W1.alloc (.cells zeroND NDT)).drew := (alloc_below W1 _).drew
  have hz : (W1.alloc (.cells zeroND NDT)).drew.heap[W1.heap.size]? = some (.cells zeroND NDT (0, 0)) := heap_alloc_last W1 _
  have hsz : (W1.alloc (.cells zeroND NDT)).drew.heap.size = W1.heap.size + 1 := by simp
  obtain ⟨lo, xs, len, sa, scap, hsv, g9, c9, w9, G, hfin, hfr⟩ := (hA.below hDZ).putBody hz (h2A.keep (fun b hb hl => hDZ.block b hl) (fun b hb _ => ⟨hb.1, by omega, hb.2.2⟩)) (by omega) hln
  have c1 : W1.cell? ⟨go, K.length * 34 + 31, none⟩ = some (.slice sa len scap) := by rw [← hsv]; exact t1 31 _ q3
  have c1z : (W1.alloc (.cells zeroND NDT)).drew.cell? ⟨go, K.length * 34 + 31, none⟩ = some (.slice sa len scap) := (hDZ.cell (p := ⟨go, K.length * 34 + 31, none⟩) t4).trans c1
  rw [hsv] at G
  have r0 : W1.drew.rangeAt w.heap.size 0 c2.cells := range_keep hrg rfl
  have r1 : (W1.alloc (.cells zeroND NDT)).drew.rangeAt w.heap.size 0 c2.cells := range_keep hrg (hDZ.block _ hz0)
  have hlen : len ≤ 1000000 := by
    have hx := hA.stk
    clear hfin hfr G
    cases hx with
    | cons _ _ _ B E m0 s q _ hst hms hsq hqh h1 st hb he eb ee h0 =>
      obtain ⟨a, cc, e⟩ := hb.shape
      rw [hsv] at e
      injection e with _ e _
      have : r.body.length = B.length := by rw [eb, List.length_map]
      omega
  have GR := hide G
  have HF : Hid (Fr bb base w (grownW w9 go (K.length * 34 + 31) g9 len c9 c2.cells) ∧ ∃ c', BlAt (grownW w9 go (K.length * 34 + 31) g9 len c9 c2.cells) bb base dv ov D ((c', r.putIn n2) :: K) go (grownW w9 go (K.length * 34 + 31) g9 len c9 c2.cells).heap.size) := hide ⟨(Fr.below ba (by omega) : Fr bb base w W1).trans ((Fr.below hDZ (by omega)).trans hfr), _, hfin⟩
  have HSZ : Hid ((W1.alloc (.cells zeroND NDT)).drew.cell? ⟨go, K.length * 34 + 31, none⟩ = some (.slice sa len scap) ∧ (W1.alloc (.cells zeroND NDT)).drew.rangeAt w.heap.size 0 c2.cells) := hide ⟨c1z, r1⟩
  clear hDZ hz hsz hA h2A G hfin hfr r1 hrg hz0 ba c1z t1 t2 t3 t4 t5 q0 q1 q2 q3 q4 q5 hsv hmid hm
  generalize hk : K.length = k at *
  generalize c.mid = cmid at *
  have i1 : (len : Int) < len + 1 := by omega
  have i2 : (0 : Int) ≤ len := by omega
  go_upto_region 2 with (fail)
  refine wp_regionE (fun W => W.cell? ⟨go, k * 34 + 31, none⟩ = some (.slice sa len scap) ∧ W.rangeAt w.heap.size 0 c2.cells) (fun j => decide (j < 7)) (by kernel_rfl) ⟨c1, r0⟩ (fun hS => ?_)
  refine anyE_take 0 (v := ?_) rfl (by kernel_rfl) (by kernel_rfl) (by kernel_rfl) (by kernel_rfl) (fun _ _ _ h => h) hS (Or.inl ⟨by rfl, ?_⟩) ?_
  rotate_left
  · intro w' hS'
    obtain ⟨e1, e2⟩ := hS'
    go_simp
    try with_reducible rfl
  try simp only [List.getElem_toArray, List.getElem_cons_zero, Act.put, List.setIfInBounds_toArray, List.set_cons_zero, List.set_cons_succ]
  refine anyE_take 1 (v := ?_) rfl (by kernel_rfl) (by kernel_rfl) (by kernel_rfl) (by kernel_rfl) (fun _ _ _ h => h) hS (Or.inl ⟨by rfl, ?_⟩) ?_
  rotate_left
  · intro w' hS'
    obtain ⟨e1, e2⟩ := hS'
    go_simp
    try with_reducible rfl
  try simp only [List.getElem_toArray, List.getElem_cons_succ, List.getElem_cons_zero, Act.put, List.setIfInBounds_toArray, List.set_cons_zero, List.set_cons_succ]
  refine anyE_take 2 (v := ?_) rfl (by kernel_rfl) (by kernel_rfl) (by kernel_rfl) (by kernel_rfl) (fun _ _ _ h => h) hS (Or.inl ⟨by rfl, ?_⟩) ?_
  rotate_left
  · intro w' hS'
    obtain ⟨e1, e2⟩ := hS'
    go_simp
    try with_reducible rfl
  try simp only [List.getElem_toArray, List.getElem_cons_succ, List.getElem_cons_zero, Act.put, List.setIfInBounds_toArray, List.set_cons_zero, List.set_cons_succ]
  refine anyE_take 3 (v := ?_) rfl (by kernel_rfl) (by kernel_rfl) (by kernel_rfl) (by kernel_rfl) (fun _ _ _ h => h) hS (Or.inl ⟨by rfl, ?_⟩) ?_
  rotate_left
  · intro w' hS'
    obtain ⟨e1, e2⟩ := hS'
    go_simp
    try with_reducible rfl
  try simp only [List.getElem_toArray, List.getElem_cons_succ, List.getElem_cons_zero, Act.put, List.setIfInBounds_toArray, List.set_cons_zero, List.set_cons_succ]
  refine anyE_take 4 rfl (by kernel_rfl) (by kernel_rfl) (by kernel_rfl) (by kernel_rfl) (fun _ _ _ h => h) hS (yieldsN_load rfl (.tmp 3) rfl _ _ rfl c2.cells hcl (fun _ h => h.2)) ?_
  try simp only [List.getElem_toArray, List.getElem_cons_succ, List.getElem_cons_zero, Act.put, List.setIfInBounds_toArray, List.set_cons_zero, List.set_cons_succ]
  refine anyE_take 5 (v := ?_) rfl (by kernel_rfl) (by kernel_rfl) (by kernel_rfl) (by kernel_rfl) (fun _ _ _ h => h) hS (Or.inl ⟨by rfl, ?_⟩) ?_
  rotate_left
  · intro w' hS'
    obtain ⟨e1, e2⟩ := hS'
    go_simp
    try with_reducible rfl
  try simp only [List.getElem_toArray, List.getElem_cons_succ, List.getElem_cons_zero, Act.put, List.setIfInBounds_toArray, List.set_cons_zero, List.set_cons_succ]
  refine anyE_ready [6] (by kernel_rfl) (by simp) (ReadyE.cons rfl (fun K' hK => ?_) ReadyE.nil)
  go_simp
  refine hK _ _ (fun _ => unhide HSZ) ?_
  clear hK K'
  try simp only [List.getElem_toArray, List.getElem_cons_succ, List.getElem_cons_zero, Act.put, List.setIfInBounds_toArray, List.set_cons_zero, List.set_cons_succ]
  refine any_to_E (by kernel_rfl) ?_
  refine wpAny_ready (rs := [7]) (by kernel_rfl) (by simp) ?_
  refine AllReady.cons rfl (fun K' hK => ?_) AllReady.nil
  refine stepN_append rfl _ _ rfl rfl _ _ rfl rfl _ _ (unhide GR).run ?_
  refine hK _ _ ?_
  clear hK K'
  try simp only [List.getElem_toArray, List.getElem_cons_succ, List.getElem_cons_zero, Act.put, List.setIfInBounds_toArray, List.set_cons_zero, List.set_cons_succ]
  refine wpAny_take (i := 8) (v := ?_) rfl (by kernel_rfl) (by kernel_rfl) (by kernel_rfl) (fun _ _ _ h => h) (Or.inl ⟨by rfl, ?_⟩) ?_
  rotate_left
  · intro w'
    go_simp
    try with_reducible rfl
  try simp only [List.getElem_toArray, List.getElem_cons_succ, List.getElem_cons_zero, Act.put, List.setIfInBounds_toArray, List.set_cons_zero, List.set_cons_succ]
  refine wpAny_take (i := 10) (v := ?_) rfl (by kernel_rfl) (by kernel_rfl) (by kernel_rfl) (fun _ _ _ h => h) (Or.inl ⟨by rfl, ?_⟩) ?_
  rotate_left
  · intro w'
    go_simp
    try with_reducible rfl
  try simp only [List.getElem_toArray, List.getElem_cons_succ, List.getElem_cons_zero, Act.put, List.setIfInBounds_toArray, List.set_cons_zero, List.set_cons_succ]
  refine wpAny_take (i := 11) (v := ?_) rfl (by kernel_rfl) (by kernel_rfl) (by kernel_rfl) (fun _ _ _ h => h) (Or.inl ⟨by rfl, ?_⟩) ?_
  rotate_left
  · intro w'
    go_simp
    try with_reducible rfl
  try simp only [List.getElem_toArray, List.getElem_cons_succ, List.getElem_cons_zero, Act.put, List.setIfInBounds_toArray, List.set_cons_zero, List.set_cons_succ]
  have x1 := (unhide GR).cell
  have x2 := (unhide GR).fr
  have x3 := (unhide GR).cell2
  have x4 := (unhide GR).fr2
  refine wpAny_ready (rs := [9, 12]) (by kernel_rfl) (by simp) ?_
  refine AllReady.cons rfl (fun K' hK => ?_) (AllReady.cons rfl (fun K' hK => ?_) AllReady.nil)
  · refine stepN_store rfl _ _ rfl _ _ _ rfl rfl (unhide GR).there1 hcl (unhide HO) ?_
    refine hK _ _ ?_
    clear hK K'
    try simp only [List.getElem_toArray, List.getElem_cons_succ, List.getElem_cons_zero, Act.put]
    refine wpAny_ready (rs := [12]) (by kernel_rfl) (by simp) ?_
    refine AllReady.cons rfl (fun K' hK => ?_) AllReady.nil
    go_simp
    refine hK _ _ ?_
    clear hK K'
    try simp only [List.getElem_toArray, List.getElem_cons_succ, List.getElem_cons_zero, Act.put]
    refine wpAny_done (by kernel_rfl) ?_ _
    refine at_worldN (F := fun W => Fr bb base w W ∧ ∃ c', BlAt W bb base dv ov D ((c', r.putIn n2) :: K) go W.heap.size) ?_ ?_
    · rw [(unhide GR).swap]; exact unhide HF
    intro Wf hWf
    have HWF := hide hWf
    clear hWf HF GR x1 x2 x3 x4
    go_wp2
    go_end0
    exact ⟨rfl, unhide HWF⟩
  · go_simp
    refine hK _ _ ?_
    clear hK K'
    try simp only [List.getElem_toArray, List.getElem_cons_succ, List.getElem_cons_zero, Act.put]
    refine wpAny_ready (rs := [9]) (by kernel_rfl) (by simp) ?_
    refine AllReady.cons rfl (fun K' hK => ?_) AllReady.nil
    refine stepN_store rfl _ _ rfl _ _ _ rfl rfl ((unhide GR).there2 _) hcl (unhide HO) ?_
    refine hK _ _ ?_
    clear hK K'
    try simp only [List.getElem_toArray, List.getElem_cons_succ, List.getElem_cons_zero, Act.put]
    refine wpAny_done (by kernel_rfl) ?_ _
    refine at_worldN (F := fun W => Fr bb base w W ∧ ∃ c', BlAt W bb base dv ov D ((c', r.putIn n2) :: K) go W.heap.size) ?_ ?_
    · exact unhide HF
    intro Wf hWf
    have HWF := hide hWf
    clear hWf HF GR x1 x2 x3 x4
    go_wp2
    go_end0
    exact ⟨rfl, unhide HWF⟩
set_option maxHeartbeats 8000000 in
set_option maxRecDepth 100000 in
theorem tbAdd_els {bb base go m : Nat} {dv ov : Value} {D K : List (NC × PN)} {c : NC} {r : PN} (w : World) (h : BlAt w bb base dv ov D ((c, r) :: K) go m) (c2 : NC) (n2 : PN) (h2 : Node1 w (fun b => m ≤ b ∧ b < w.heap.size ∧ b ≠ go) c2 n2) (hm : ¬ r.mid < 0) (hln : r.els.length ≤ 1000000) :
    Calls Tryz.prog 127 #[.pointer (some ⟨bb, 0, none⟩), .agg c2.cells.toArray] w fun e w' => e = .returned (.tuple #[]) ∧ Fr bb base w w' ∧ ∃ c', BlAt w' bb base dv ov D ((c', r.putIn n2) :: K) go w'.heap.size := by
  have ba := alloc_below w (.cells c2.cells.toArray NDT)
  have hcl := node_one h2
  have one := h2.one
  have hA := h.below ba
  have h2A : Node1 (w.alloc (.cells c2.cells.toArray NDT)) (fun b => m ≤ b ∧ b < w.heap.size ∧ b ≠ go) c2 n2 := h2.keep (fun b _ hl => ba.block b hl) (fun _ h _ => h)
  have hrg := boxN_range w c2.cells NDT
  have hz0 : w.heap.size < (w.alloc (.cells c2.cells.toArray NDT)).heap.size := by simp
  have HIN := hide (innermost_any (w.alloc (.cells c2.cells.toArray NDT)) hA)
  obtain ⟨l1, l2, l3⟩ := h.lt
  have HB := hide (And.intro ba (And.intro hA (And.intro h2A (And.intro hrg hz0))))
  have HO := hide one
  clear ba hA h2A hrg hz0 one h h2
  go_enter Tryz.func127, Tryz.ntmps127
  go_wp2_with fail
  generalize w.alloc (.cells c2.cells.toArray NDT) = W0 at *
  refine (unhide HIN).mono ?_
  rintro e w2 ⟨rfl, nd, rfl⟩
  have hd := below_drewN (Below.refl W0.heap.size W0) nd
  have hzd : (W0.drewN nd).heap.size = W0.heap.size := rfl
  obtain ⟨ba, hA, h2A, hrg, hz0⟩ := unhide HB
  have hA := hA.below hd
  have h2A : Node1 (W0.drewN nd) (fun b => m ≤ b ∧ b < w.heap.size ∧ b ≠ go) c2 n2 := h2A.keep (fun b _ hl => hd.block b hl) (fun _ h _ => h)
  have hrg : (W0.drewN nd).rangeAt w.heap.size 0 c2.cells := range_keep hrg (hd.block _ hz0)
  have ba := bthen ba hd
  rw [← hzd] at hz0
  clear hd hzd HIN HB
  generalize hW1 : W0.drewN nd = W1 at *
  clear hW1
  rw [topP_cons]
  obtain ⟨t1, t2, t3, t4, t5⟩ := hA.top
  obtain ⟨q0, q1, q2, q3, q4, q5⟩ := cells_at c t3
  have cm := t1 33 _ q5
  have hmid : c.mid = r.mid := by
    cases hA.stk with
    | cons _ _ _ B E m0 s q _ hst hms hsq hqh h1 st hb he eb ee h0 => exact h1.2.2
  have hmm : (0 : Int) ≤ c.mid := by omega
  have hDZ : Below W1.heap.size W1 (W1.alloc (.cells zeroND NDT)).drew := (alloc_below W1 _).drew
  have hz : (W1.alloc (.cells zeroND NDT)).drew.heap[W1.heap.size]? = some (.cells zeroND NDT (0, 0)) := heap_alloc_last W1 _
  have hsz : (W1.alloc (.cells zeroND NDT)).drew.heap.size = W1.heap.size + 1 := by simp
  obtain ⟨lo, xs, len, sa, scap, hsv, g9, c9, w9, G, hfin, hfr⟩ := (hA.below hDZ).putEls hz (h2A.keep (fun b hb hl => hDZ.block b hl) (fun b hb _ => ⟨hb.1, by omega, hb.2.2⟩)) (by omega) hln
  have c1 : W1.cell? ⟨go, K.length * 34 + 32, none⟩ = some (.slice sa len scap) := by rw [← hsv]; exact t1 32 _ q4
  have c1z : (W1.alloc (.cells zeroND NDT)).drew.cell? ⟨go, K.length * 34 + 32, none⟩ = some (.slice sa len scap) := (hDZ.cell (p := ⟨go, K.length * 34 + 32, none⟩) t4).trans c1
  rw [hsv] at G
  have r0 : W1.drew.rangeAt w.heap.size 0 c2.cells := range_keep hrg rfl
  have r1 : (W1.alloc (.cells zeroND NDT)).drew.rangeAt w.heap.size 0 c2.cells := range_keep hrg (hDZ.block _ hz0)
  have hlen : len ≤ 1000000 := by
    have hx := hA.stk
    clear hfin hfr G
    cases hx with
    | cons _ _ _ B E m0 s q _ hst hms hsq hqh h1 st hb he eb ee h0 =>
      obtain ⟨a, cc, e⟩ := he.shape
      rw [hsv] at e
      injection e with _ e _
      have : r.els.length = E.length := by rw [ee, List.length_map]
      omega
  have GR := hide G
  have HF : Hid (Fr bb base w (grownW w9 go (K.length * 34 + 32) g9 len c9 c2.cells) ∧ ∃ c', BlAt (grownW w9 go (K.length * 34 + 32) g9 len c9 c2.cells) bb base dv ov D ((c', r.putIn n2) :: K) go (grownW w9 go (K.length * 34 + 32) g9 len c9 c2.cells).heap.size) := hide ⟨(Fr.below ba (by omega) : Fr bb base w W1).trans ((Fr.below hDZ (by omega)).trans hfr), _, hfin⟩
  have HSZ : Hid ((W1.alloc (.cells zeroND NDT)).drew.cell? ⟨go, K.length * 34 + 32, none⟩ = some (.slice sa len scap) ∧ (W1.alloc (.cells zeroND NDT)).drew.rangeAt w.heap.size 0 c2.cells) := hide ⟨c1z, r1⟩
  clear hDZ hz hsz hA h2A G hfin hfr r1 hrg hz0 ba c1z t1 t2 t3 t4 t5 q0 q1 q2 q3 q4 q5 hsv hmid hm
  generalize hk : K.length = k at *
  generalize c.mid = cmid at *
  have i1 : (len : Int) < len + 1 := by omega
  have i2 : (0 : Int) ≤ len := by omega
  go_upto_region 6 with (fail)
  refine wp_regionE (fun W => W.cell? ⟨go, k * 34 + 32, none⟩ = some (.slice sa len scap) ∧ W.rangeAt w.heap.size 0 c2.cells) (fun j => decide (j < 7)) (by kernel_rfl) ⟨c1, r0⟩ (fun hS => ?_)
  refine anyE_take 0 (v := ?_) rfl (by kernel_rfl) (by kernel_rfl) (by kernel_rfl) (by kernel_rfl) (fun _ _ _ h => h) hS (Or.inl ⟨by rfl, ?_⟩) ?_
  rotate_left
  · intro w' hS'
    obtain ⟨e1, e2⟩ := hS'
    go_simp
    try with_reducible rfl
  try simp only [List.getElem_toArray, List.getElem_cons_zero, Act.put, List.setIfInBounds_toArray, List.set_cons_zero, List.set_cons_succ]
  refine anyE_take 1 (v := ?_) rfl (by kernel_rfl) (by kernel_rfl) (by kernel_rfl) (by kernel_rfl) (fun _ _ _ h => h) hS (Or.inl ⟨by rfl, ?_⟩) ?_
  rotate_left
  · intro w' hS'
    obtain ⟨e1, e2⟩ := hS'
    go_simp
    try with_reducible rfl
  try simp only [List.getElem_toArray, List.getElem_cons_succ, List.getElem_cons_zero, Act.put, List.setIfInBounds_toArray, List.set_cons_zero, List.set_cons_succ]
  refine anyE_take 2 (v := ?_) rfl (by kernel_rfl) (by kernel_rfl) (by kernel_rfl) (by kernel_rfl) (fun _ _ _ h => h) hS (Or.inl ⟨by rfl, ?_⟩) ?_
  rotate_left
  · intro w' hS'
    obtain ⟨e1, e2⟩ := hS'
    go_simp
    try with_reducible rfl
  try simp only [List.getElem_toArray, List.getElem_cons_succ, List.getElem_cons_zero, Act.put, List.setIfInBounds_toArray, List.set_cons_zero, List.set_cons_succ]
  refine anyE_take 3 (v := ?_) rfl (by kernel_rfl) (by kernel_rfl) (by kernel_rfl) (by kernel_rfl) (fun _ _ _ h => h) hS (Or.inl ⟨by rfl, ?_⟩) ?_
  rotate_left
  · intro w' hS'
    obtain ⟨e1, e2⟩ := hS'
    go_simp
    try with_reducible rfl
  try simp only [List.getElem_toArray, List.getElem_cons_succ, List.getElem_cons_zero, Act.put, List.setIfInBounds_toArray, List.set_cons_zero, List.set_cons_succ]
  refine anyE_take 4 rfl (by kernel_rfl) (by kernel_rfl) (by kernel_rfl) (by kernel_rfl) (fun _ _ _ h => h) hS (yieldsN_load rfl (.tmp 3) rfl _ _ rfl c2.cells hcl (fun _ h => h.2)) ?_
  try simp only [List.getElem_toArray, List.getElem_cons_succ, List.getElem_cons_zero, Act.put, List.setIfInBounds_toArray, List.set_cons_zero, List.set_cons_succ]
  refine anyE_take 5 (v := ?_) rfl (by kernel_rfl) (by kernel_rfl) (by kernel_rfl) (by kernel_rfl) (fun _ _ _ h => h) hS (Or.inl ⟨by rfl, ?_⟩) ?_
  rotate_left
  · intro w' hS'
    obtain ⟨e1, e2⟩ := hS'
    go_simp
    try with_reducible rfl
  try simp only [List.getElem_toArray, List.getElem_cons_succ, List.getElem_cons_zero, Act.put, List.setIfInBounds_toArray, List.set_cons_zero, List.set_cons_succ]
  refine anyE_ready [6] (by kernel_rfl) (by simp) (ReadyE.cons rfl (fun K' hK => ?_) ReadyE.nil)
  go_simp
  refine hK _ _ (fun _ => unhide HSZ) ?_
  clear hK K'
  try simp only [List.getElem_toArray, List.getElem_cons_succ, List.getElem_cons_zero, Act.put, List.setIfInBounds_toArray, List.set_cons_zero, List.set_cons_succ]
  refine any_to_E (by kernel_rfl) ?_
  refine wpAny_ready (rs := [7]) (by kernel_rfl) (by simp) ?_
  refine AllReady.cons rfl (fun K' hK => ?_) AllReady.nil
  refine stepN_append rfl _ _ rfl rfl _ _ rfl rfl _ _ (unhide GR).run ?_
  refine hK _ _ ?_
  clear hK K'
  try simp only [List.getElem_toArray, List.getElem_cons_succ, List.getElem_cons_zero, Act.put, List.setIfInBounds_toArray, List.set_cons_zero, List.set_cons_succ]
  refine wpAny_take (i := 8) (v := ?_) rfl (by kernel_rfl) (by kernel_rfl) (by kernel_rfl) (fun _ _ _ h => h) (Or.inl ⟨by rfl, ?_⟩) ?_
  rotate_left
  · intro w'
    go_simp
    try with_reducible rfl
  try simp only [List.getElem_toArray, List.getElem_cons_succ, List.getElem_cons_zero, Act.put, List.setIfInBounds_toArray, List.set_cons_zero, List.set_cons_succ]
  refine wpAny_take (i := 10) (v := ?_) rfl (by kernel_rfl) (by kernel_rfl) (by kernel_rfl) (fun _ _ _ h => h) (Or.inl ⟨by rfl, ?_⟩) ?_
  rotate_left
  · intro w'
    go_simp
    try with_reducible rfl
  try simp only [List.getElem_toArray, List.getElem_cons_succ, List.getElem_cons_zero, Act.put, List.setIfInBounds_toArray, List.set_cons_zero, List.set_cons_succ]
  refine wpAny_take (i := 11) (v := ?_) rfl (by kernel_rfl) (by kernel_rfl) (by kernel_rfl) (fun _ _ _ h => h) (Or.inl ⟨by rfl, ?_⟩) ?_
  rotate_left
  · intro w'
    go_simp
    try with_reducible rfl
  try simp only [List.getElem_toArray, List.getElem_cons_succ, List.getElem_cons_zero, Act.put, List.setIfInBounds_toArray, List.set_cons_zero, List.set_cons_succ]
  have x1 := (unhide GR).cell
  have x2 := (unhide GR).fr
  have x3 := (unhide GR).cell2
  have x4 := (unhide GR).fr2
  refine wpAny_ready (rs := [9, 12]) (by kernel_rfl) (by simp) ?_
  refine AllReady.cons rfl (fun K' hK => ?_) (AllReady.cons rfl (fun K' hK => ?_) AllReady.nil)
  · refine stepN_store rfl _ _ rfl _ _ _ rfl rfl (unhide GR).there1 hcl (unhide HO) ?_
    refine hK _ _ ?_
    clear hK K'
    try simp only [List.getElem_toArray, List.getElem_cons_succ, List.getElem_cons_zero, Act.put]
    refine wpAny_ready (rs := [12]) (by kernel_rfl) (by simp) ?_
    refine AllReady.cons rfl (fun K' hK => ?_) AllReady.nil
    go_simp
    refine hK _ _ ?_
    clear hK K'
    try simp only [List.getElem_toArray, List.getElem_cons_succ, List.getElem_cons_zero, Act.put]
    refine wpAny_done (by kernel_rfl) ?_ _
    refine at_worldN (F := fun W => Fr bb base w W ∧ ∃ c', BlAt W bb base dv ov D ((c', r.putIn n2) :: K) go W.heap.size) ?_ ?_
    · rw [(unhide GR).swap]; exact unhide HF
    intro Wf hWf
    have HWF := hide hWf
    clear hWf HF GR x1 x2 x3 x4
    go_wp2
    go_end0
    exact ⟨rfl, unhide HWF⟩
  · go_simp
    refine hK _ _ ?_
    clear hK K'
    try simp only [List.getElem_toArray, List.getElem_cons_succ, List.getElem_cons_zero, Act.put]
    refine wpAny_ready (rs := [9]) (by kernel_rfl) (by simp) ?_
    refine AllReady.cons rfl (fun K' hK => ?_) AllReady.nil
    refine stepN_store rfl _ _ rfl _ _ _ rfl rfl ((unhide GR).there2 _) hcl (unhide HO) ?_
    refine hK _ _ ?_
    clear hK K'
    try simp only [List.getElem_toArray, List.getElem_cons_succ, List.getElem_cons_zero, Act.put]
    refine wpAny_done (by kernel_rfl) ?_ _
    refine at_worldN (F := fun W => Fr bb base w W ∧ ∃ c', BlAt W bb base dv ov D ((c', r.putIn n2) :: K) go W.heap.size) ?_ ?_
    · exact unhide HF
    intro Wf hWf
    have HWF := hide hWf
    clear hWf HF GR x1 x2 x3 x4
    go_wp2
    go_end0
    exact ⟨rfl, unhide HWF⟩
end Go.Proofs.YthkbchefjagbbaaGreatDoor.Line
