/- The contract of the law's Of at a declaration. -/
import Derived.Test.YthkbchefjagbbaaGreatDoorRfOf
import Derived.Test.YthkbchefjagbbaaGreatDoorExSu
import Derived.Test.YthkbchefjagbbaaGreatDoorRegE
namespace Go.Proofs.YthkbchefjagbbaaGreatDoor.Line
open Go.ChangeShapes Go.WideShapes Go.ChangeAt Go.RowKit
open Ex (E St)
set_option linter.unusedVariables false

abbrev SST : TypeId := 67
abbrev RST2 : TypeId := 55
abbrev ofV (v : Value) : Array Value := #[.int .i64 1, v, .int .i64 0, .int .i64 0, .string ⟨#[]⟩, .slice none 0 0, .int .i64 0, .int .i64 0, .string ⟨#[]⟩, .slice none 0 0, .string ⟨#[]⟩, .int .i64 0, .int .i64 0, .string ⟨#[]⟩, .slice none 0 0, .int .i64 0, .int .i64 0, .string ⟨#[]⟩, .slice none 0 0, .string ⟨#[]⟩, .int .i64 0, .int .i64 0, .string ⟨#[]⟩, .slice none 0 0, .int .i64 0, .int .i64 0, .string ⟨#[]⟩, .slice none 0 0, .int .i64 0]
/-- what lies in a declaration's box -/
def OfAt (q b n cap : Nat) (W : World) : Prop := W.cell? ⟨q, 0, none⟩ = some (.int .i64 1) ∧ W.cell? ⟨q, 1, none⟩ = some (.slice (some ⟨b, 0, none⟩) n cap) ∧ W.cell? ⟨q, 2, none⟩ = some (.int .i64 0) ∧ W.cell? ⟨q, 3, none⟩ = some (.int .i64 0) ∧ W.cell? ⟨q, 4, none⟩ = some (.string ⟨#[]⟩) ∧ W.cell? ⟨q, 5, none⟩ = some (.slice none 0 0) ∧ W.cell? ⟨q, 6, none⟩ = some (.int .i64 0) ∧ W.cell? ⟨q, 7, none⟩ = some (.int .i64 0) ∧ W.cell? ⟨q, 8, none⟩ = some (.string ⟨#[]⟩) ∧ W.cell? ⟨q, 9, none⟩ = some (.slice none 0 0) ∧ W.cell? ⟨q, 10, none⟩ = some (.string ⟨#[]⟩) ∧ W.cell? ⟨q, 11, none⟩ = some (.int .i64 0) ∧ W.cell? ⟨q, 12, none⟩ = some (.int .i64 0) ∧ W.cell? ⟨q, 13, none⟩ = some (.string ⟨#[]⟩) ∧ W.cell? ⟨q, 14, none⟩ = some (.slice none 0 0) ∧ W.cell? ⟨q, 15, none⟩ = some (.int .i64 0) ∧ W.cell? ⟨q, 16, none⟩ = some (.int .i64 0) ∧ W.cell? ⟨q, 17, none⟩ = some (.string ⟨#[]⟩) ∧ W.cell? ⟨q, 18, none⟩ = some (.slice none 0 0) ∧ W.cell? ⟨q, 19, none⟩ = some (.string ⟨#[]⟩) ∧ W.cell? ⟨q, 20, none⟩ = some (.int .i64 0) ∧ W.cell? ⟨q, 21, none⟩ = some (.int .i64 0) ∧ W.cell? ⟨q, 22, none⟩ = some (.string ⟨#[]⟩) ∧ W.cell? ⟨q, 23, none⟩ = some (.slice none 0 0) ∧ W.cell? ⟨q, 24, none⟩ = some (.int .i64 0) ∧ W.cell? ⟨q, 25, none⟩ = some (.int .i64 0) ∧ W.cell? ⟨q, 26, none⟩ = some (.string ⟨#[]⟩) ∧ W.cell? ⟨q, 27, none⟩ = some (.slice none 0 0) ∧ W.cell? ⟨q, 28, none⟩ = some (.int .i64 0)
theorem OfAt.of {W : World} {q b n cap : Nat} {t : TypeId} {fr : Nat × Nat} (h : W.heap[q]? = some (.cells (ofV (.slice (some ⟨b, 0, none⟩) n cap)) t fr)) : OfAt q b n cap W := by
  have hc : ∀ k v, (ofV (.slice (some ⟨b, 0, none⟩) n cap))[k]? = some v → W.cell? ⟨q, k, none⟩ = some v := fun k v hv => by
    unfold World.cell?
    rw [h]; exact hv
  exact ⟨hc 0 _ rfl, hc 1 _ rfl, hc 2 _ rfl, hc 3 _ rfl, hc 4 _ rfl, hc 5 _ rfl, hc 6 _ rfl, hc 7 _ rfl, hc 8 _ rfl, hc 9 _ rfl, hc 10 _ rfl, hc 11 _ rfl, hc 12 _ rfl, hc 13 _ rfl, hc 14 _ rfl, hc 15 _ rfl, hc 16 _ rfl, hc 17 _ rfl, hc 18 _ rfl, hc 19 _ rfl, hc 20 _ rfl, hc 21 _ rfl, hc 22 _ rfl, hc 23 _ rfl, hc 24 _ rfl, hc 25 _ rfl, hc 26 _ rfl, hc 27 _ rfl, hc 28 _ rfl⟩
theorem forest_nil {W : World} {S : Nat → Prop} {v : Value} (h : Forest W S [] v) : ∃ a c, v = .slice a 0 c := by
  generalize hl : ([] : List E) = l at h
  cases h with
  | nil a c => exact ⟨a, c, rfl⟩
  | row l b off cap sl => subst hl; exact ⟨_, _, rfl⟩
theorem sm_none : Ex.Sm E.none := by first | exact Ex.sm_leaf _ _ _ | (simp [Ex.Sm, E.none])
theorem of_none (w : World) : Calls Tryz.prog 12 #[.agg #[.int .i64 0, .int .i64 0, .string ⟨#[]⟩, .slice none 0 0]] w fun e w' => ∃ a c, e = .returned (.agg #[.int .i64 0, .int .i64 0, .string ⟨#[]⟩, .slice a 0 c]) ∧ Below w.heap.size w w' := by
  refine (of_any E.none w (fun _ => True) (.slice none 0 0) (.nil _ _) sm_none).mono ?_
  rintro e w' ⟨sy, rfl, hf, hb⟩
  obtain ⟨a, c, rfl⟩ := forest_nil hf
  exact ⟨a, c, rfl, hb⟩
abbrev ofW (v s1 s2 s3 s4 s5 s6 : Value) : Array Value := #[.int .i64 1, v, .int .i64 0, .int .i64 0, .string ⟨#[]⟩, s1, .int .i64 0, .int .i64 0, .string ⟨#[]⟩, s2, .string ⟨#[]⟩, .int .i64 0, .int .i64 0, .string ⟨#[]⟩, s3, .int .i64 0, .int .i64 0, .string ⟨#[]⟩, s4, .string ⟨#[]⟩, .int .i64 0, .int .i64 0, .string ⟨#[]⟩, s5, .int .i64 0, .int .i64 0, .string ⟨#[]⟩, s6, .int .i64 0]
abbrev ofZ : Array Value := #[.int .i64 0, .slice none 0 0, .int .i64 0, .int .i64 0, .string ⟨#[]⟩, .slice none 0 0, .int .i64 0, .int .i64 0, .string ⟨#[]⟩, .slice none 0 0, .string ⟨#[]⟩, .int .i64 0, .int .i64 0, .string ⟨#[]⟩, .slice none 0 0, .int .i64 0, .int .i64 0, .string ⟨#[]⟩, .slice none 0 0, .string ⟨#[]⟩, .int .i64 0, .int .i64 0, .string ⟨#[]⟩, .slice none 0 0, .int .i64 0, .int .i64 0, .string ⟨#[]⟩, .slice none 0 0, .int .i64 0]
theorem OfAt.below {W W' : World} {q b n cap : Nat} (h : OfAt q b n cap W) (hb : Below W.heap.size W W') : OfAt q b n cap W' := by
  have hl : q < W.heap.size := cell_lt h.1
  have k : ∀ o, W'.cell? ⟨q, o, none⟩ = W.cell? ⟨q, o, none⟩ := fun o => World.cell?_of_block (a := ⟨q, o, none⟩) (hb.block q hl)
  obtain ⟨e0, e1, e2, e3, e4, e5, e6, e7, e8, e9, e10, e11, e12, e13, e14, e15, e16, e17, e18, e19, e20, e21, e22, e23, e24, e25, e26, e27, e28⟩ := h
  exact ⟨(k 0).trans e0, (k 1).trans e1, (k 2).trans e2, (k 3).trans e3, (k 4).trans e4, (k 5).trans e5, (k 6).trans e6, (k 7).trans e7, (k 8).trans e8, (k 9).trans e9, (k 10).trans e10, (k 11).trans e11, (k 12).trans e12, (k 13).trans e13, (k 14).trans e14, (k 15).trans e15, (k 16).trans e16, (k 17).trans e17, (k 18).trans e18, (k 19).trans e19, (k 20).trans e20, (k 21).trans e21, (k 22).trans e22, (k 23).trans e23, (k 24).trans e24, (k 25).trans e25, (k 26).trans e26, (k 27).trans e27, (k 28).trans e28⟩
theorem InRow.below {W W' : World} {b : Nat} {L : List Itr} (h : InRow W b L) (hb : Below W.heap.size W W') : InRow W' b L :=
  ⟨Nat.lt_of_lt_of_le h.lt hb.size, fun j x hj => ⟨(hb.cell (p := ⟨b, j * 2, none⟩) h.lt).trans (h.nm j x hj).1, (hb.cell (p := ⟨b, j * 2 + 1, none⟩) h.lt).trans (h.nm j x hj).2⟩⟩
theorem sizeS2 : (Tryz.prog.info? RST2).map (·.size) = some 29 := by kernel_rfl
/-- a store of a whole statement -/
theorem step_storeS {ops : Array Oper} {o : Oper} {a : Act} {w : World} {K : Act → World → Prop} {Q : Exit → Act → World → Prop} {P : Prop} (hgd : o.guard = none) (x y : Operand) (ho : o.op = .store RST2 x y) (g : Nat) (c c' : Array Value)
    (hx : a.eval x = .pointer (some ⟨g, 0, none⟩)) (hy : a.eval y = .agg c') (hs : w.heap[g]? = some (.cells c RST2 (0, 0))) (hc : c.size = 29) (hc' : c'.size = 29) (h1 : c'.all (·.oneCell') = true)
    (h : K (a.put o.dst undef) (w.setRow g c')) : if Region.wanted o (yielded ops a.tmps) = true then Oper.wp Tryz.prog o a w K Q else P := by
  have hw : Region.wanted o (yielded ops a.tmps) = true := by simp [Region.wanted, hgd]
  rw [if_pos hw]
  unfold Oper.wp execOp
  simp only [ho, hx, hy, Instr.storeAt, Instr.sureAddr, Sem.run_bind, Sem.run_pure, Result.andThen_ok, run_storeVar_row (P := Tryz.prog) w g RST2 RST2 c c' hs (by rw [hc']; exact sizeS2) (by rw [hc, hc']) h1]
  exact h
theorem setRow_at {w : World} {g : Nat} {c c' : Array Value} {t : TypeId} (h : w.heap[g]? = some (.cells c t (0, 0))) : (w.setRow g c').heap[g]? = some (.cells c' t (0, 0)) := by
  show (w.heap.modify g _)[g]? = _
  rw [Array.getElem?_modify, if_pos rfl, h]
  rfl
theorem setRow_keep (w : World) (g : Nat) (c' : Array Value) {b : Nat} (h : b ≠ g) : (w.setRow g c').heap[b]? = w.heap[b]? := by
  show (w.heap.modify g _)[b]? = _
  rw [Array.getElem?_modify, if_neg (fun e => h e.symm)]
theorem row_shape {w : World} {base n size : Nat} {e : TypeId} {xs : List Value} {v : Value} (h : w.ownsRow base e size v n xs) : ∃ a c, v = .slice a n c := by
  rcases h.2 with ⟨rfl, h5⟩ | ⟨g, cap, cur, rfl, _⟩
  · exact ⟨none, 0, by rw [h5]⟩
  · exact ⟨_, _, rfl⟩
theorem ofRow_keep {w w' : World} {base base' n size : Nat} {e : TypeId} {xs : List Value} {v : Value} (h : w.ownsRow base e size v n xs) (hb : base' ≤ base) (hk : ∀ b, base ≤ b → w'.heap[b]? = w.heap[b]?) : w'.ownsRow base' e size v n xs := by
  obtain ⟨h1, h2⟩ := h
  refine ⟨h1, ?_⟩
  rcases h2 with h2 | ⟨g, cap, cur, hv, hg, hh, r⟩
  · exact .inl h2
  · exact .inr ⟨g, cap, cur, hv, Nat.le_trans hb hg, (hk g hg).trans hh, r⟩
set_option maxHeartbeats 16000000 in
set_option maxRecDepth 100000 in
theorem stOf_decl (L : List Itr) (b cap : Nat) (w : World) (hr : InRow w b L) (hl : L.length ≤ 1000) :
    Calls Tryz.prog 26 #[.agg (ofV (.slice (some ⟨b, 0, none⟩) L.length cap))] w fun e w' => ∃ v a1 c1 a2 c2 a3 c3 a4 c4 a5 c5 a6 c6, e = .returned (.agg (ofW v (.slice a1 0 c1) (.slice a2 0 c2) (.slice a3 0 c3) (.slice a4 0 c4) (.slice a5 0 c5) (.slice a6 0 c6))) ∧ w'.ownsRow w.heap.size 60 2 v L.length (flatR L) ∧ Below w.heap.size w w' := by
  have ba1 := alloc_below w (.cells (ofV (.slice (some ⟨b, 0, none⟩) L.length cap)) SST)
  have ba2 := alloc_below (w.alloc (.cells (ofV (.slice (some ⟨b, 0, none⟩) L.length cap)) SST)) (.cells ofZ RST2)
  have s1 : (w.alloc (.cells (ofV (.slice (some ⟨b, 0, none⟩) L.length cap)) SST)).heap.size = w.heap.size + 1 := by simp
  have q0 : (w.alloc (.cells (ofV (.slice (some ⟨b, 0, none⟩) L.length cap)) SST)).heap[w.heap.size]? = some (.cells (ofV (.slice (some ⟨b, 0, none⟩) L.length cap)) SST (0, 0)) := heap_alloc_new w _
  have q1 : ((w.alloc (.cells (ofV (.slice (some ⟨b, 0, none⟩) L.length cap)) SST)).alloc (.cells ofZ RST2)).heap[w.heap.size + 1]? = some (.cells ofZ RST2 (0, 0)) := by rw [← s1]; exact heap_alloc_new _ _
  have hA := OfAt.of ((ba2.block _ (by omega)).trans q0)
  have hb := bthen ba1 ba2
  obtain ⟨n, hn⟩ : ∃ n, L.length = n := ⟨_, rfl⟩
  rw [hn] at hA hb q1 ⊢
  have HR := hide (And.intro (hr.below hb) (And.intro hn hl))
  have HB := hide (And.intro hb q1)
  have hsz : ((w.alloc (.cells (ofV (.slice (some ⟨b, 0, none⟩) n cap)) SST)).alloc (.cells ofZ RST2)).heap.size = w.heap.size + 2 := by simp
  have HSZ := hide hsz
  clear hr hn hl ba1 ba2 s1 q0 q1 hb hsz
  go_enter Tryz.func26, Tryz.ntmps26
  go_upto_region 1 with (fail)
  generalize (w.alloc (.cells (ofV (.slice (some ⟨b, 0, none⟩) n cap)) SST)).alloc (.cells ofZ RST2) = W2 at *
  have hdr : Below W2.heap.size W2 W2.drew := below_drewN (Below.refl _ _) 1
  have HD := hide hdr
  have HOI := hide (ofItems_any L b cap W2.drew ((unhide HR).1.below hdr) (unhide HR).2.2)
  rw [(unhide HR).2.1] at HOI
  refine wp_regionE (OfAt w.heap.size b n cap) (fun j => decide (j < 34)) (by kernel_rfl) (hA.below hdr) (fun hS => ?_)
  clear hA hdr
  refine anyE_take 0 (v := ?_) rfl (by kernel_rfl) (by kernel_rfl) (by kernel_rfl) (by kernel_rfl) (fun _ _ _ h => h) hS (Or.inl ⟨by rfl, ?_⟩) ?_
  rotate_left
  · intro w' hS'
    obtain ⟨e0, e1, e2, e3, e4, e5, e6, e7, e8, e9, e10, e11, e12, e13, e14, e15, e16, e17, e18, e19, e20, e21, e22, e23, e24, e25, e26, e27, e28⟩ := hS'
    go_simp
    try with_reducible rfl
  try simp only [List.getElem_toArray, List.getElem_cons_zero, Act.put, List.setIfInBounds_toArray, List.set_cons_zero, List.set_cons_succ]
  refine anyE_take 1 (v := ?_) rfl (by kernel_rfl) (by kernel_rfl) (by kernel_rfl) (by kernel_rfl) (fun _ _ _ h => h) hS (Or.inl ⟨by rfl, ?_⟩) ?_
  rotate_left
  · intro w' hS'
    obtain ⟨e0, e1, e2, e3, e4, e5, e6, e7, e8, e9, e10, e11, e12, e13, e14, e15, e16, e17, e18, e19, e20, e21, e22, e23, e24, e25, e26, e27, e28⟩ := hS'
    go_simp
    try with_reducible rfl
  try simp only [List.getElem_toArray, List.getElem_cons_succ, List.getElem_cons_zero, Act.put, List.setIfInBounds_toArray, List.set_cons_zero, List.set_cons_succ]
  refine anyE_take 2 (v := ?_) rfl (by kernel_rfl) (by kernel_rfl) (by kernel_rfl) (by kernel_rfl) (fun _ _ _ h => h) hS (Or.inl ⟨by rfl, ?_⟩) ?_
  rotate_left
  · intro w' hS'
    obtain ⟨e0, e1, e2, e3, e4, e5, e6, e7, e8, e9, e10, e11, e12, e13, e14, e15, e16, e17, e18, e19, e20, e21, e22, e23, e24, e25, e26, e27, e28⟩ := hS'
    go_simp
    try with_reducible rfl
  try simp only [List.getElem_toArray, List.getElem_cons_succ, List.getElem_cons_zero, Act.put, List.setIfInBounds_toArray, List.set_cons_zero, List.set_cons_succ]
  refine anyE_take 3 (v := ?_) rfl (by kernel_rfl) (by kernel_rfl) (by kernel_rfl) (by kernel_rfl) (fun _ _ _ h => h) hS (Or.inl ⟨by rfl, ?_⟩) ?_
  rotate_left
  · intro w' hS'
    obtain ⟨e0, e1, e2, e3, e4, e5, e6, e7, e8, e9, e10, e11, e12, e13, e14, e15, e16, e17, e18, e19, e20, e21, e22, e23, e24, e25, e26, e27, e28⟩ := hS'
    go_simp
    try with_reducible rfl
  try simp only [List.getElem_toArray, List.getElem_cons_succ, List.getElem_cons_zero, Act.put, List.setIfInBounds_toArray, List.set_cons_zero, List.set_cons_succ]
  refine anyE_take 5 (v := ?_) rfl (by kernel_rfl) (by kernel_rfl) (by kernel_rfl) (by kernel_rfl) (fun _ _ _ h => h) hS (Or.inl ⟨by rfl, ?_⟩) ?_
  rotate_left
  · intro w' hS'
    obtain ⟨e0, e1, e2, e3, e4, e5, e6, e7, e8, e9, e10, e11, e12, e13, e14, e15, e16, e17, e18, e19, e20, e21, e22, e23, e24, e25, e26, e27, e28⟩ := hS'
    go_simp
    try with_reducible rfl
  try simp only [List.getElem_toArray, List.getElem_cons_succ, List.getElem_cons_zero, Act.put, List.setIfInBounds_toArray, List.set_cons_zero, List.set_cons_succ]
  refine anyE_take 6 (v := ?_) rfl (by kernel_rfl) (by kernel_rfl) (by kernel_rfl) (by kernel_rfl) (fun _ _ _ h => h) hS (Or.inl ⟨by rfl, ?_⟩) ?_
  rotate_left
  · intro w' hS'
    obtain ⟨e0, e1, e2, e3, e4, e5, e6, e7, e8, e9, e10, e11, e12, e13, e14, e15, e16, e17, e18, e19, e20, e21, e22, e23, e24, e25, e26, e27, e28⟩ := hS'
    go_simp
    try with_reducible rfl
  try simp only [List.getElem_toArray, List.getElem_cons_succ, List.getElem_cons_zero, Act.put, List.setIfInBounds_toArray, List.set_cons_zero, List.set_cons_succ]
  refine anyE_take 8 (v := ?_) rfl (by kernel_rfl) (by kernel_rfl) (by kernel_rfl) (by kernel_rfl) (fun _ _ _ h => h) hS (Or.inl ⟨by rfl, ?_⟩) ?_
  rotate_left
  · intro w' hS'
    obtain ⟨e0, e1, e2, e3, e4, e5, e6, e7, e8, e9, e10, e11, e12, e13, e14, e15, e16, e17, e18, e19, e20, e21, e22, e23, e24, e25, e26, e27, e28⟩ := hS'
    go_simp
    try with_reducible rfl
  try simp only [List.getElem_toArray, List.getElem_cons_succ, List.getElem_cons_zero, Act.put, List.setIfInBounds_toArray, List.set_cons_zero, List.set_cons_succ]
  refine anyE_take 9 (v := ?_) rfl (by kernel_rfl) (by kernel_rfl) (by kernel_rfl) (by kernel_rfl) (fun _ _ _ h => h) hS (Or.inl ⟨by rfl, ?_⟩) ?_
  rotate_left
  · intro w' hS'
    obtain ⟨e0, e1, e2, e3, e4, e5, e6, e7, e8, e9, e10, e11, e12, e13, e14, e15, e16, e17, e18, e19, e20, e21, e22, e23, e24, e25, e26, e27, e28⟩ := hS'
    go_simp
    try with_reducible rfl
  try simp only [List.getElem_toArray, List.getElem_cons_succ, List.getElem_cons_zero, Act.put, List.setIfInBounds_toArray, List.set_cons_zero, List.set_cons_succ]
  refine anyE_take 11 (v := ?_) rfl (by kernel_rfl) (by kernel_rfl) (by kernel_rfl) (by kernel_rfl) (fun _ _ _ h => h) hS (Or.inl ⟨by rfl, ?_⟩) ?_
  rotate_left
  · intro w' hS'
    obtain ⟨e0, e1, e2, e3, e4, e5, e6, e7, e8, e9, e10, e11, e12, e13, e14, e15, e16, e17, e18, e19, e20, e21, e22, e23, e24, e25, e26, e27, e28⟩ := hS'
    go_simp
    try with_reducible rfl
  try simp only [List.getElem_toArray, List.getElem_cons_succ, List.getElem_cons_zero, Act.put, List.setIfInBounds_toArray, List.set_cons_zero, List.set_cons_succ]
  refine anyE_take 12 (v := ?_) rfl (by kernel_rfl) (by kernel_rfl) (by kernel_rfl) (by kernel_rfl) (fun _ _ _ h => h) hS (Or.inl ⟨by rfl, ?_⟩) ?_
  rotate_left
  · intro w' hS'
    obtain ⟨e0, e1, e2, e3, e4, e5, e6, e7, e8, e9, e10, e11, e12, e13, e14, e15, e16, e17, e18, e19, e20, e21, e22, e23, e24, e25, e26, e27, e28⟩ := hS'
    go_simp
    try with_reducible rfl
  try simp only [List.getElem_toArray, List.getElem_cons_succ, List.getElem_cons_zero, Act.put, List.setIfInBounds_toArray, List.set_cons_zero, List.set_cons_succ]
  refine anyE_take 13 (v := ?_) rfl (by kernel_rfl) (by kernel_rfl) (by kernel_rfl) (by kernel_rfl) (fun _ _ _ h => h) hS (Or.inl ⟨by rfl, ?_⟩) ?_
  rotate_left
  · intro w' hS'
    obtain ⟨e0, e1, e2, e3, e4, e5, e6, e7, e8, e9, e10, e11, e12, e13, e14, e15, e16, e17, e18, e19, e20, e21, e22, e23, e24, e25, e26, e27, e28⟩ := hS'
    go_simp
    try with_reducible rfl
  try simp only [List.getElem_toArray, List.getElem_cons_succ, List.getElem_cons_zero, Act.put, List.setIfInBounds_toArray, List.set_cons_zero, List.set_cons_succ]
  refine anyE_take 14 (v := ?_) rfl (by kernel_rfl) (by kernel_rfl) (by kernel_rfl) (by kernel_rfl) (fun _ _ _ h => h) hS (Or.inl ⟨by rfl, ?_⟩) ?_
  rotate_left
  · intro w' hS'
    obtain ⟨e0, e1, e2, e3, e4, e5, e6, e7, e8, e9, e10, e11, e12, e13, e14, e15, e16, e17, e18, e19, e20, e21, e22, e23, e24, e25, e26, e27, e28⟩ := hS'
    go_simp
    try with_reducible rfl
  try simp only [List.getElem_toArray, List.getElem_cons_succ, List.getElem_cons_zero, Act.put, List.setIfInBounds_toArray, List.set_cons_zero, List.set_cons_succ]
  refine anyE_take 15 (v := ?_) rfl (by kernel_rfl) (by kernel_rfl) (by kernel_rfl) (by kernel_rfl) (fun _ _ _ h => h) hS (Or.inl ⟨by rfl, ?_⟩) ?_
  rotate_left
  · intro w' hS'
    obtain ⟨e0, e1, e2, e3, e4, e5, e6, e7, e8, e9, e10, e11, e12, e13, e14, e15, e16, e17, e18, e19, e20, e21, e22, e23, e24, e25, e26, e27, e28⟩ := hS'
    go_simp
    try with_reducible rfl
  try simp only [List.getElem_toArray, List.getElem_cons_succ, List.getElem_cons_zero, Act.put, List.setIfInBounds_toArray, List.set_cons_zero, List.set_cons_succ]
  refine anyE_take 16 (v := ?_) rfl (by kernel_rfl) (by kernel_rfl) (by kernel_rfl) (by kernel_rfl) (fun _ _ _ h => h) hS (Or.inl ⟨by rfl, ?_⟩) ?_
  rotate_left
  · intro w' hS'
    obtain ⟨e0, e1, e2, e3, e4, e5, e6, e7, e8, e9, e10, e11, e12, e13, e14, e15, e16, e17, e18, e19, e20, e21, e22, e23, e24, e25, e26, e27, e28⟩ := hS'
    go_simp
    try with_reducible rfl
  try simp only [List.getElem_toArray, List.getElem_cons_succ, List.getElem_cons_zero, Act.put, List.setIfInBounds_toArray, List.set_cons_zero, List.set_cons_succ]
  refine anyE_take 18 (v := ?_) rfl (by kernel_rfl) (by kernel_rfl) (by kernel_rfl) (by kernel_rfl) (fun _ _ _ h => h) hS (Or.inl ⟨by rfl, ?_⟩) ?_
  rotate_left
  · intro w' hS'
    obtain ⟨e0, e1, e2, e3, e4, e5, e6, e7, e8, e9, e10, e11, e12, e13, e14, e15, e16, e17, e18, e19, e20, e21, e22, e23, e24, e25, e26, e27, e28⟩ := hS'
    go_simp
    try with_reducible rfl
  try simp only [List.getElem_toArray, List.getElem_cons_succ, List.getElem_cons_zero, Act.put, List.setIfInBounds_toArray, List.set_cons_zero, List.set_cons_succ]
  refine anyE_take 19 (v := ?_) rfl (by kernel_rfl) (by kernel_rfl) (by kernel_rfl) (by kernel_rfl) (fun _ _ _ h => h) hS (Or.inl ⟨by rfl, ?_⟩) ?_
  rotate_left
  · intro w' hS'
    obtain ⟨e0, e1, e2, e3, e4, e5, e6, e7, e8, e9, e10, e11, e12, e13, e14, e15, e16, e17, e18, e19, e20, e21, e22, e23, e24, e25, e26, e27, e28⟩ := hS'
    go_simp
    try with_reducible rfl
  try simp only [List.getElem_toArray, List.getElem_cons_succ, List.getElem_cons_zero, Act.put, List.setIfInBounds_toArray, List.set_cons_zero, List.set_cons_succ]
  refine anyE_take 20 (v := ?_) rfl (by kernel_rfl) (by kernel_rfl) (by kernel_rfl) (by kernel_rfl) (fun _ _ _ h => h) hS (Or.inl ⟨by rfl, ?_⟩) ?_
  rotate_left
  · intro w' hS'
    obtain ⟨e0, e1, e2, e3, e4, e5, e6, e7, e8, e9, e10, e11, e12, e13, e14, e15, e16, e17, e18, e19, e20, e21, e22, e23, e24, e25, e26, e27, e28⟩ := hS'
    go_simp
    try with_reducible rfl
  try simp only [List.getElem_toArray, List.getElem_cons_succ, List.getElem_cons_zero, Act.put, List.setIfInBounds_toArray, List.set_cons_zero, List.set_cons_succ]
  refine anyE_take 23 (v := ?_) rfl (by kernel_rfl) (by kernel_rfl) (by kernel_rfl) (by kernel_rfl) (fun _ _ _ h => h) hS (Or.inl ⟨by rfl, ?_⟩) ?_
  rotate_left
  · intro w' hS'
    obtain ⟨e0, e1, e2, e3, e4, e5, e6, e7, e8, e9, e10, e11, e12, e13, e14, e15, e16, e17, e18, e19, e20, e21, e22, e23, e24, e25, e26, e27, e28⟩ := hS'
    go_simp
    try with_reducible rfl
  try simp only [List.getElem_toArray, List.getElem_cons_succ, List.getElem_cons_zero, Act.put, List.setIfInBounds_toArray, List.set_cons_zero, List.set_cons_succ]
  refine anyE_take 24 (v := ?_) rfl (by kernel_rfl) (by kernel_rfl) (by kernel_rfl) (by kernel_rfl) (fun _ _ _ h => h) hS (Or.inl ⟨by rfl, ?_⟩) ?_
  rotate_left
  · intro w' hS'
    obtain ⟨e0, e1, e2, e3, e4, e5, e6, e7, e8, e9, e10, e11, e12, e13, e14, e15, e16, e17, e18, e19, e20, e21, e22, e23, e24, e25, e26, e27, e28⟩ := hS'
    go_simp
    try with_reducible rfl
  try simp only [List.getElem_toArray, List.getElem_cons_succ, List.getElem_cons_zero, Act.put, List.setIfInBounds_toArray, List.set_cons_zero, List.set_cons_succ]
  refine anyE_take 25 (v := ?_) rfl (by kernel_rfl) (by kernel_rfl) (by kernel_rfl) (by kernel_rfl) (fun _ _ _ h => h) hS (Or.inl ⟨by rfl, ?_⟩) ?_
  rotate_left
  · intro w' hS'
    obtain ⟨e0, e1, e2, e3, e4, e5, e6, e7, e8, e9, e10, e11, e12, e13, e14, e15, e16, e17, e18, e19, e20, e21, e22, e23, e24, e25, e26, e27, e28⟩ := hS'
    go_simp
    try with_reducible rfl
  try simp only [List.getElem_toArray, List.getElem_cons_succ, List.getElem_cons_zero, Act.put, List.setIfInBounds_toArray, List.set_cons_zero, List.set_cons_succ]
  refine anyE_take 26 (v := ?_) rfl (by kernel_rfl) (by kernel_rfl) (by kernel_rfl) (by kernel_rfl) (fun _ _ _ h => h) hS (Or.inl ⟨by rfl, ?_⟩) ?_
  rotate_left
  · intro w' hS'
    obtain ⟨e0, e1, e2, e3, e4, e5, e6, e7, e8, e9, e10, e11, e12, e13, e14, e15, e16, e17, e18, e19, e20, e21, e22, e23, e24, e25, e26, e27, e28⟩ := hS'
    go_simp
    try with_reducible rfl
  try simp only [List.getElem_toArray, List.getElem_cons_succ, List.getElem_cons_zero, Act.put, List.setIfInBounds_toArray, List.set_cons_zero, List.set_cons_succ]
  refine anyE_take 28 (v := ?_) rfl (by kernel_rfl) (by kernel_rfl) (by kernel_rfl) (by kernel_rfl) (fun _ _ _ h => h) hS (Or.inl ⟨by rfl, ?_⟩) ?_
  rotate_left
  · intro w' hS'
    obtain ⟨e0, e1, e2, e3, e4, e5, e6, e7, e8, e9, e10, e11, e12, e13, e14, e15, e16, e17, e18, e19, e20, e21, e22, e23, e24, e25, e26, e27, e28⟩ := hS'
    go_simp
    try with_reducible rfl
  try simp only [List.getElem_toArray, List.getElem_cons_succ, List.getElem_cons_zero, Act.put, List.setIfInBounds_toArray, List.set_cons_zero, List.set_cons_succ]
  refine anyE_take 29 (v := ?_) rfl (by kernel_rfl) (by kernel_rfl) (by kernel_rfl) (by kernel_rfl) (fun _ _ _ h => h) hS (Or.inl ⟨by rfl, ?_⟩) ?_
  rotate_left
  · intro w' hS'
    obtain ⟨e0, e1, e2, e3, e4, e5, e6, e7, e8, e9, e10, e11, e12, e13, e14, e15, e16, e17, e18, e19, e20, e21, e22, e23, e24, e25, e26, e27, e28⟩ := hS'
    go_simp
    try with_reducible rfl
  try simp only [List.getElem_toArray, List.getElem_cons_succ, List.getElem_cons_zero, Act.put, List.setIfInBounds_toArray, List.set_cons_zero, List.set_cons_succ]
  refine anyE_take 31 (v := ?_) rfl (by kernel_rfl) (by kernel_rfl) (by kernel_rfl) (by kernel_rfl) (fun _ _ _ h => h) hS (Or.inl ⟨by rfl, ?_⟩) ?_
  rotate_left
  · intro w' hS'
    obtain ⟨e0, e1, e2, e3, e4, e5, e6, e7, e8, e9, e10, e11, e12, e13, e14, e15, e16, e17, e18, e19, e20, e21, e22, e23, e24, e25, e26, e27, e28⟩ := hS'
    go_simp
    try with_reducible rfl
  try simp only [List.getElem_toArray, List.getElem_cons_succ, List.getElem_cons_zero, Act.put, List.setIfInBounds_toArray, List.set_cons_zero, List.set_cons_succ]
  refine anyE_take 32 (v := ?_) rfl (by kernel_rfl) (by kernel_rfl) (by kernel_rfl) (by kernel_rfl) (fun _ _ _ h => h) hS (Or.inl ⟨by rfl, ?_⟩) ?_
  rotate_left
  · intro w' hS'
    obtain ⟨e0, e1, e2, e3, e4, e5, e6, e7, e8, e9, e10, e11, e12, e13, e14, e15, e16, e17, e18, e19, e20, e21, e22, e23, e24, e25, e26, e27, e28⟩ := hS'
    go_simp
    try with_reducible rfl
  try simp only [List.getElem_toArray, List.getElem_cons_succ, List.getElem_cons_zero, Act.put, List.setIfInBounds_toArray, List.set_cons_zero, List.set_cons_succ]
  refine anyE_ready [4] (by kernel_rfl) (by simp) (ReadyE.cons rfl (fun K' hK => ?_) ReadyE.nil)
  go_simp
  go_at_call 67
  refine (unhide HOI).mono ?_
  rintro e w0 ⟨v0, rfl, ho0, hb0⟩
  obtain ⟨va, vc, rfl⟩ := row_shape ho0
  have HO : Hid (w0.ownsRow W2.heap.size 60 2 (.slice va n vc) n (flatR L) ∧ Below W2.heap.size W2 w0) := hide ⟨ho0, bthen (unhide HD) hb0⟩
  replace hS := hS.below hb0
  clear ho0 hb0 HOI
  dsimp only
  try go_simp
  refine hK _ _ (fun _ => hS) ?_
  clear hK K'
  try simp only [List.getElem_toArray, List.getElem_cons_succ, List.getElem_cons_zero, Act.put, List.setIfInBounds_toArray, List.set_cons_zero, List.set_cons_succ]
  refine anyE_ready [7] (by kernel_rfl) (by simp) (ReadyE.cons rfl (fun K' hK => ?_) ReadyE.nil)
  go_simp
  go_at_call 12
  refine (of_none w0).mono ?_
  rintro e w1 ⟨a1, c1, rfl, hb1⟩
  replace HO : Hid (w1.ownsRow W2.heap.size 60 2 (.slice va n vc) n (flatR L) ∧ Below W2.heap.size W2 w1) := hide ⟨ownsRow_below (unhide HO).1 hb1, bthen (unhide HO).2 hb1⟩
  replace hS := hS.below hb1
  clear hb1
  dsimp only
  try go_simp
  refine hK _ _ (fun _ => hS) ?_
  clear hK K'
  try simp only [List.getElem_toArray, List.getElem_cons_succ, List.getElem_cons_zero, Act.put, List.setIfInBounds_toArray, List.set_cons_zero, List.set_cons_succ]
  refine anyE_ready [10] (by kernel_rfl) (by simp) (ReadyE.cons rfl (fun K' hK => ?_) ReadyE.nil)
  go_simp
  go_at_call 12
  refine (of_none w1).mono ?_
  rintro e w2 ⟨a2, c2, rfl, hb2⟩
  replace HO : Hid (w2.ownsRow W2.heap.size 60 2 (.slice va n vc) n (flatR L) ∧ Below W2.heap.size W2 w2) := hide ⟨ownsRow_below (unhide HO).1 hb2, bthen (unhide HO).2 hb2⟩
  replace hS := hS.below hb2
  clear hb2
  dsimp only
  try go_simp
  refine hK _ _ (fun _ => hS) ?_
  clear hK K'
  try simp only [List.getElem_toArray, List.getElem_cons_succ, List.getElem_cons_zero, Act.put, List.setIfInBounds_toArray, List.set_cons_zero, List.set_cons_succ]
  refine anyE_ready [17] (by kernel_rfl) (by simp) (ReadyE.cons rfl (fun K' hK => ?_) ReadyE.nil)
  go_simp
  go_at_call 12
  refine (of_none w2).mono ?_
  rintro e w3 ⟨a3, c3, rfl, hb3⟩
  replace HO : Hid (w3.ownsRow W2.heap.size 60 2 (.slice va n vc) n (flatR L) ∧ Below W2.heap.size W2 w3) := hide ⟨ownsRow_below (unhide HO).1 hb3, bthen (unhide HO).2 hb3⟩
  replace hS := hS.below hb3
  clear hb3
  dsimp only
  try go_simp
  refine hK _ _ (fun _ => hS) ?_
  clear hK K'
  try simp only [List.getElem_toArray, List.getElem_cons_succ, List.getElem_cons_zero, Act.put, List.setIfInBounds_toArray, List.set_cons_zero, List.set_cons_succ]
  refine anyE_ready [21] (by kernel_rfl) (by simp) (ReadyE.cons rfl (fun K' hK => ?_) ReadyE.nil)
  go_simp
  go_at_call 12
  refine (of_none w3).mono ?_
  rintro e w4 ⟨a4, c4, rfl, hb4⟩
  replace HO : Hid (w4.ownsRow W2.heap.size 60 2 (.slice va n vc) n (flatR L) ∧ Below W2.heap.size W2 w4) := hide ⟨ownsRow_below (unhide HO).1 hb4, bthen (unhide HO).2 hb4⟩
  replace hS := hS.below hb4
  clear hb4
  dsimp only
  try go_simp
  refine hK _ _ (fun _ => hS) ?_
  clear hK K'
  try simp only [List.getElem_toArray, List.getElem_cons_succ, List.getElem_cons_zero, Act.put, List.setIfInBounds_toArray, List.set_cons_zero, List.set_cons_succ]
  refine anyE_take 22 (v := ?_) rfl (by kernel_rfl) (by kernel_rfl) (by kernel_rfl) (by kernel_rfl) (fun _ _ _ h => h) hS (Or.inl ⟨by rfl, ?_⟩) ?_
  rotate_left
  · intro w' hS'
    obtain ⟨e0, e1, e2, e3, e4, e5, e6, e7, e8, e9, e10, e11, e12, e13, e14, e15, e16, e17, e18, e19, e20, e21, e22, e23, e24, e25, e26, e27, e28⟩ := hS'
    go_simp
    try with_reducible rfl
  try simp only [List.getElem_toArray, List.getElem_cons_succ, List.getElem_cons_zero, Act.put, List.setIfInBounds_toArray, List.set_cons_zero, List.set_cons_succ]
  refine anyE_ready [27] (by kernel_rfl) (by simp) (ReadyE.cons rfl (fun K' hK => ?_) ReadyE.nil)
  go_simp
  go_at_call 12
  refine (of_none w4).mono ?_
  rintro e w5 ⟨a5, c5, rfl, hb5⟩
  replace HO : Hid (w5.ownsRow W2.heap.size 60 2 (.slice va n vc) n (flatR L) ∧ Below W2.heap.size W2 w5) := hide ⟨ownsRow_below (unhide HO).1 hb5, bthen (unhide HO).2 hb5⟩
  replace hS := hS.below hb5
  clear hb5
  dsimp only
  try go_simp
  refine hK _ _ (fun _ => hS) ?_
  clear hK K'
  try simp only [List.getElem_toArray, List.getElem_cons_succ, List.getElem_cons_zero, Act.put, List.setIfInBounds_toArray, List.set_cons_zero, List.set_cons_succ]
  refine anyE_ready [30] (by kernel_rfl) (by simp) (ReadyE.cons rfl (fun K' hK => ?_) ReadyE.nil)
  go_simp
  go_at_call 12
  refine (of_none w5).mono ?_
  rintro e w6 ⟨a6, c6, rfl, hb6⟩
  replace HO : Hid (w6.ownsRow W2.heap.size 60 2 (.slice va n vc) n (flatR L) ∧ Below W2.heap.size W2 w6) := hide ⟨ownsRow_below (unhide HO).1 hb6, bthen (unhide HO).2 hb6⟩
  replace hS := hS.below hb6
  clear hb6
  dsimp only
  try go_simp
  refine hK _ _ (fun _ => hS) ?_
  clear hK K'
  try simp only [List.getElem_toArray, List.getElem_cons_succ, List.getElem_cons_zero, Act.put, List.setIfInBounds_toArray, List.set_cons_zero, List.set_cons_succ]
  refine anyE_take 33 (v := ?_) rfl (by kernel_rfl) (by kernel_rfl) (by kernel_rfl) (by kernel_rfl) (fun _ _ _ h => h) hS (Or.inl ⟨by rfl, ?_⟩) ?_
  rotate_left
  · intro w' hS'
    obtain ⟨e0, e1, e2, e3, e4, e5, e6, e7, e8, e9, e10, e11, e12, e13, e14, e15, e16, e17, e18, e19, e20, e21, e22, e23, e24, e25, e26, e27, e28⟩ := hS'
    go_simp
    try with_reducible rfl
  try simp only [List.getElem_toArray, List.getElem_cons_succ, List.getElem_cons_zero, Act.put, List.setIfInBounds_toArray, List.set_cons_zero, List.set_cons_succ]
  refine any_to_E (by kernel_rfl) ?_
  refine wpAny_ready (rs := [34]) (by kernel_rfl) (by simp) ?_
  refine AllReady.cons rfl (fun K' hK => ?_) AllReady.nil
  have HQ : Hid (w6.heap[w.heap.size + 1]? = some (.cells ofZ RST2 (0, 0))) := hide (((unhide HO).2.block _ (by have := unhide HSZ; omega)).trans (unhide HB).2)
  refine step_storeS rfl _ _ rfl _ ofZ _ rfl rfl (unhide HQ) rfl rfl (by kernel_rfl) ?_
  refine hK _ _ ?_
  clear hK K'
  try simp only [List.getElem_toArray, List.getElem_cons_succ, List.getElem_cons_zero, Act.put]
  refine wpAny_done (by kernel_rfl) ?_ _
  have HF : Hid ((w6.setRow (w.heap.size + 1) (ofW (.slice va n vc) (.slice a1 0 c1) (.slice a2 0 c2) (.slice a3 0 c3) (.slice a4 0 c4) (.slice a5 0 c5) (.slice a6 0 c6))).heap[w.heap.size + 1]? = some (.cells (ofW (.slice va n vc) (.slice a1 0 c1) (.slice a2 0 c2) (.slice a3 0 c3) (.slice a4 0 c4) (.slice a5 0 c5) (.slice a6 0 c6)) RST2 (0, 0))) := hide (setRow_at (unhide HQ))
  go_wp2
  refine bodyPost_ret (results_cell_row rfl _ _ (w.heap.size + 1) RST2 (ofW (.slice va n vc) (.slice a1 0 c1) (.slice a2 0 c2) (.slice a3 0 c3) (.slice a4 0 c4) (.slice a5 0 c5) (.slice a6 0 c6)) (0, 0) _ rfl (unhide HF) Tryz.underlying55 rfl sizeS2) rfl ⟨.slice va n vc, a1, c1, a2, c2, a3, c3, a4, c4, a5, c5, a6, c6, rfl, ?_, ?_⟩
  · exact ofRow_keep (unhide HO).1 (by have := unhide HSZ; omega) (fun b hb => setRow_keep _ _ _ (by have := unhide HSZ; omega))
  · have h1 := (unhide HO).2
    have h2 := (unhide HB).1
    have hz := unhide HSZ
    exact ⟨h1.os.trans h2.os, h1.tape.trans h2.tape, h1.output.trans h2.output, Nat.le_trans h2.size (Nat.le_trans h1.size (by simp [World.setRow])), fun b hb => (setRow_keep _ _ _ (by omega)).trans ((h1.block b (by omega)).trans (h2.block b hb))⟩
end Go.Proofs.YthkbchefjagbbaaGreatDoor.Line
