/- The contract of the law's add. -/
import Derived.Test.YtomnbidppkpfiaaDoorEvSyms
import Derived.Test.YtomnbidppkpfiaaDoorEvVls
import Derived.Deep.Onto
namespace Go.Proofs.YtomnbidppkpfiaaDoor.Line
open Go.ChangeShapes Go.WideShapes Go.ChangeAt Go.RowKit
open Ex (E)
open Ev (Sy Res)
set_option linter.unusedVariables false

theorem alloc_at (w : World) (cs : Array Value) (t : TypeId) : (w.alloc (.cells cs t)).heap[w.heap.size]? = some (.cells cs t (0, 0)) := by
  show (w.heap.push _)[w.heap.size]? = _; exact Array.getElem?_push_size
theorem ints_slice {w : World} {v : Value} {l : List Int} (h : Ints w v l) : ∃ a n c, v = .slice a n c := by
  obtain ⟨a, c, h⟩ := h.shape
  exact ⟨a, _, c, h⟩
/-- a row's copy in a new block -/
theorem add_copy {w W : World} {sv : Value} {T : List Sy} {L : List SyV} (hb : Below w.heap.size w W) (hs : Syms w sv T) (hn : T.length ≤ 1000) (h1 : L.map (·.1) = T) (h2 : ∀ p ∈ L, Ints w p.2 p.1.dims) (h3 : T ≠ [] → ∃ b off cap, sv = .slice (some ⟨b, off, none⟩) T.length cap ∧ ∀ j u, (flatS L)[j]? = some u → w.cell? ⟨b, off + j, none⟩ = some u) (p : Nat) (hp : W.heap[p]? = some (.cells #[] RSy (0, 0))) :
    ∃ v1 W1, (Builtin.append_ #[RSys, RSys] RSys #[.slice (some ⟨p, 0, none⟩) 0 0, sv]).run Tryd.prog W = .ok v1 W1 ∧ OwnSy RSy p W1 v1 L ∧ W.grownBy W1 (some p) ∧ (v1.ownBlock = some p ∨ v1.ownBlock = some W.heap.size) := by
  have hpl : p < W.heap.size := (Array.getElem?_eq_some_iff.1 hp).1
  have hown : OwnSy RSy p W (.slice (some ⟨p, 0, none⟩) 0 0) [] := ⟨rfl, .inr ⟨p, 0, #[], rfl, Nat.le_refl _, hp, Nat.le_refl _, by decide, rfl, rfl⟩⟩
  have hLT : L.length = T.length := by rw [← h1, List.length_map]
  by_cases h0 : T = []
  · subst h0
    obtain ⟨a, cap, rfl⟩ := hs.shape
    have hL : L = [] := List.length_eq_zero_iff.1 hLT
    subst hL
    obtain ⟨i0, hi, hz0, hz1, hz2⟩ := info_parts infoRSy
    refine ⟨.slice (some ⟨p, 0, none⟩) 0 0, W, ?_, hown, grown_none W, .inl rfl⟩
    cases a <;> simp [Builtin.append_, run_underlying Tryd.underlying27, sizeOf, typeInfo, hi, Builtin.lenOf, Builtin.firstCells, loadCells, loadCellsFrom, storeCells]
  · obtain ⟨b, off, cap, rfl, hc⟩ := h3 h0
    have hl0 : 0 < T.length := List.length_pos_iff.2 h0
    rw [← hLT]
    obtain ⟨v1, W1, hr, ho, hg, hat⟩ := append_syms infoRSy Tryd.underlying27 hown (Nat.le_of_lt hpl) (by simp; omega) b off cap (fun j u hu => by
      have := hc j u hu
      exact (hb.cell (p := ⟨b, off + j, none⟩) (cell_lt this)).trans this) (fun q hq => ints_slice (h2 q hq))
    exact ⟨v1, W1, hr, ho, hg, hat⟩
theorem step_append_runS {ops : Array Oper} {o : Oper} {a : Act} {w : World} {K : Act → World → Prop} {Q : Exit → Act → World → Prop} {P : Prop} (st : TypeId) (hgd : o.guard = none) (s x : Operand)
    (ho : o.op = .call { callee := .builtin .append, args := #[s, x], argTypes := #[st, st] }) (hty : o.type = st) (sv xv : Value) (hs : a.eval s = sv) (hx : a.eval x = xv) (v' : Value) (w' : World)
    (hr : (Builtin.append_ #[st, st] st #[sv, xv]).run Tryd.prog w = .ok v' w') (h : K (a.put o.dst v') w') : if Region.wanted o (yielded ops a.tmps) = true then Oper.wp Tryd.prog o a w K Q else P := by
  have hw : Region.wanted o (yielded ops a.tmps) = true := by simp [Region.wanted, hgd]
  rw [if_pos hw]
  unfold Oper.wp execOp
  simp only [ho, hty, resolve, invoke, builtin, Sem.run_bind, Sem.run_pure, Result.andThen_ok, List.map_toArray, List.map_cons, List.map_nil, hs, hx, hr]
  exact h
/-- the new name is behind the others -/
theorem add_one {w W' : World} {p : Nat} {v1 : Value} {L : List SyV} (ho : OwnSy RSy p W' v1 L) (hl : L.length ≤ 1000) (q : Nat) (x : Sy) (dv : Value) (hd : Ints w dv x.dims) (hq : W'.heap[q]? = some (.cells #[.string ⟨x.name.toArray⟩, dv, .int .i64 x.at_, .int .i64 x.size] RSy (0, 0))) (hpl : p ≤ W'.heap.size) :
    ∃ v2 W2, (Builtin.append_ #[RSys, RSys] RSys #[v1, .slice (some ⟨q, 0, none⟩) 1 1]).run Tryd.prog W' = .ok v2 W2 ∧ OwnSy RSy p W2 v2 (L ++ [(x, dv)]) ∧ W'.grownBy W2 v1.ownBlock ∧ (v2.ownBlock = v1.ownBlock ∨ v2.ownBlock = some W'.heap.size) := by
  have hcell : ∀ j u, (flatS [(x, dv)])[j]? = some u → W'.cell? ⟨q, 0 + j, none⟩ = some u := fun j u hu => by
    have := World.news_of_block (w := W') (cs := #[.string ⟨x.name.toArray⟩, dv, .int .i64 x.at_, .int .i64 x.size]) (t := RSy) (fr := (0, 0)) hq j u hu
    rw [Addr.add_mid] at this
    exact this
  have h := append_syms (M := [(x, dv)]) infoRSy Tryd.underlying27 ho hpl (by simp; omega) q 0 1 hcell (fun r hr => by rw [List.mem_singleton.1 hr]; exact ints_slice hd)
  exact h
theorem heap_set4 (w : World) (a1 a2 a3 a4 : Addr) (u1 u2 u3 u4 : Value) (b : Nat) (h1 : b ≠ a1.block) (h2 : b ≠ a2.block) (h3 : b ≠ a3.block) (h4 : b ≠ a4.block) : ((((w.setCell a1 u1).setCell a2 u2).setCell a3 u3).setCell a4 u4).heap[b]? = w.heap[b]? := by
  rw [Below.heap_setCell _ _ _ _ h4, Below.heap_setCell _ _ _ _ h3, Below.heap_setCell _ _ _ _ h2, Below.heap_setCell _ _ _ _ h1]
set_option maxHeartbeats 8000000 in
set_option maxRecDepth 100000 in
theorem add_any (w : World) (sv : Value) (c : Int) (T : List Sy) (name : List UInt8) (dv : Value) (d : List Int) (size : Int) (L : List SyV) (h1 : L.map (·.1) = T) (h2 : ∀ p ∈ L, Ints w p.2 p.1.dims) (h3 : T ≠ [] → ∃ b off cap, sv = .slice (some ⟨b, off, none⟩) T.length cap ∧ ∀ j u, (flatS L)[j]? = some u → w.cell? ⟨b, off + j, none⟩ = some u) (hs : Syms w sv T) (hn : T.length ≤ 1000) (hd : Ints w dv d) (hc0 : 0 ≤ c) (hc1 : c ≤ 1000000) (hz0 : 0 ≤ size) (hz1 : size ≤ 1000000) :
    Calls Tryd.prog 19 #[.agg #[sv, .int .i64 c], .string ⟨name.toArray⟩, dv, .int .i64 size] w fun e w' => ∃ sv', e = .returned (.agg #[sv', .int .i64 (c + size)]) ∧ OwnSy RSy w.heap.size w' sv' (L ++ [(⟨name, d, c, size⟩, dv)]) ∧ Below w.heap.size w w' := by
  have hLn : L.length ≤ 1000 := by rw [← h1, List.length_map] at hn; exact hn
  have HLT0 : Hid (L.length = T.length) := hide (by rw [← h1, List.length_map])
  have HCP : Hid (∀ W p, Below w.heap.size w W → W.heap[p]? = some (.cells #[] RSy (0, 0)) → ∃ v1 W1, (Builtin.append_ #[RSys, RSys] RSys #[.slice (some ⟨p, 0, none⟩) 0 0, sv]).run Tryd.prog W = .ok v1 W1 ∧ OwnSy RSy p W1 v1 L ∧ W.grownBy W1 (some p) ∧ (v1.ownBlock = some p ∨ v1.ownBlock = some W.heap.size)) := hide (fun W p hb hp => add_copy hb hs hn h1 h2 h3 p hp)
  have HON : Hid (∀ W' p v1 q, OwnSy RSy p W' v1 L → p ≤ W'.heap.size → W'.heap[q]? = some (.cells #[.string ⟨name.toArray⟩, dv, .int .i64 c, .int .i64 size] RSy (0, 0)) → ∃ v2 W2, (Builtin.append_ #[RSys, RSys] RSys #[v1, .slice (some ⟨q, 0, none⟩) 1 1]).run Tryd.prog W' = .ok v2 W2 ∧ OwnSy RSy p W2 v2 (L ++ [(⟨name, d, c, size⟩, dv)]) ∧ W'.grownBy W2 v1.ownBlock ∧ (v2.ownBlock = v1.ownBlock ∨ v2.ownBlock = some W'.heap.size)) := hide (fun W' p v1 q ho hp hq => add_one ho hLn q ⟨name, d, c, size⟩ dv hd hq hp)
  have hb2 : Below w.heap.size w ((w.alloc (.cells #[sv, .int .i64 c] RTb)).alloc (.cells #[.slice none 0 0, .int .i64 0] RTb)) := ((Below.refl _ _).alloc (Nat.le_refl _) _).alloc (by simp) _
  have k0 : ((w.alloc (.cells #[sv, .int .i64 c] RTb)).alloc (.cells #[.slice none 0 0, .int .i64 0] RTb)).cell? ⟨w.heap.size, 0, none⟩ = some sv := by simp [go_sem]
  have k1 : ((w.alloc (.cells #[sv, .int .i64 c] RTb)).alloc (.cells #[.slice none 0 0, .int .i64 0] RTb)).cell? ⟨w.heap.size, 1, none⟩ = some (.int .i64 c) := by simp [go_sem]
  have k2 : ((w.alloc (.cells #[sv, .int .i64 c] RTb)).alloc (.cells #[.slice none 0 0, .int .i64 0] RTb)).cell? ⟨w.heap.size + 1, 0, none⟩ = some (.slice none 0 0) := by simp [go_sem]
  have k3 : ((w.alloc (.cells #[sv, .int .i64 c] RTb)).alloc (.cells #[.slice none 0 0, .int .i64 0] RTb)).cell? ⟨w.heap.size + 1, 1, none⟩ = some (.int .i64 0) := by simp [go_sem]
  have f0 : ∀ o, ((w.alloc (.cells #[sv, .int .i64 c] RTb)).alloc (.cells #[.slice none 0 0, .int .i64 0] RTb)).frozen? ⟨w.heap.size, o, none⟩ = false := fun o => by simp [go_sem]
  have f1 : ∀ o, ((w.alloc (.cells #[sv, .int .i64 c] RTb)).alloc (.cells #[.slice none 0 0, .int .i64 0] RTb)).frozen? ⟨w.heap.size + 1, o, none⟩ = false := fun o => by simp [go_sem]
  have z2 : ((w.alloc (.cells #[sv, .int .i64 c] RTb)).alloc (.cells #[.slice none 0 0, .int .i64 0] RTb)).heap.size = w.heap.size + 2 := by simp
  obtain ⟨sa, sc, rfl⟩ := hs.shape
  obtain ⟨da, dc, rfl⟩ := hd.shape
  clear hs hd h1 h2 h3
  generalize hTn : T.length = tn at *
  generalize hdn : d.length = dn at *
  go_enter Tryd.func19, Tryd.ntmps19
  go_wp2_with fail
  generalize ((w.alloc (.cells #[.slice sa tn sc, .int .i64 c] RTb)).alloc (.cells #[.slice none 0 0, .int .i64 0] RTb)) = W2 at *
  have HSB : Hid (∀ W, Below (w.heap.size + 2) W2 W → W.cell? ⟨w.heap.size, 0, none⟩ = some (.slice sa tn sc) ∧ W.cell? ⟨w.heap.size, 1, none⟩ = some (.int .i64 c)) := hide (fun W h => ⟨(h.cell (p := ⟨w.heap.size, 0, none⟩) (by show w.heap.size < _; omega)).trans k0, (h.cell (p := ⟨w.heap.size, 1, none⟩) (by show w.heap.size < _; omega)).trans k1⟩)
  have HFA : Hid (∀ W, Below (w.heap.size + 2) W2 W → W.cell? ⟨w.heap.size, 0, none⟩ = some (.slice sa tn sc) ∧ W.cell? ⟨w.heap.size, 1, none⟩ = some (.int .i64 c) ∧ W.cell? ⟨w.heap.size + 1, 0, none⟩ = some (.slice none 0 0) ∧ W.cell? ⟨w.heap.size + 1, 1, none⟩ = some (.int .i64 0) ∧ W.frozen? ⟨w.heap.size, 0, none⟩ = false ∧ W.frozen? ⟨w.heap.size, 1, none⟩ = false ∧ W.frozen? ⟨w.heap.size + 1, 0, none⟩ = false ∧ W.frozen? ⟨w.heap.size + 1, 1, none⟩ = false) := hide (fun W h => ⟨(h.cell (p := ⟨w.heap.size, 0, none⟩) (by show w.heap.size < _; omega)).trans k0, (h.cell (p := ⟨w.heap.size, 1, none⟩) (by show w.heap.size < _; omega)).trans k1, (h.cell (p := ⟨w.heap.size + 1, 0, none⟩) (by show w.heap.size + 1 < _; omega)).trans k2, (h.cell (p := ⟨w.heap.size + 1, 1, none⟩) (by show w.heap.size + 1 < _; omega)).trans k3, (h.frozen (p := ⟨w.heap.size, 0, none⟩) (by show w.heap.size < _; omega)).trans (f0 0), (h.frozen (p := ⟨w.heap.size, 1, none⟩) (by show w.heap.size < _; omega)).trans (f0 1), (h.frozen (p := ⟨w.heap.size + 1, 0, none⟩) (by show w.heap.size + 1 < _; omega)).trans (f1 0), (h.frozen (p := ⟨w.heap.size + 1, 1, none⟩) (by show w.heap.size + 1 < _; omega)).trans (f1 1)⟩)
  have HLT : Hid (L.length = tn) := HLT0
  have HZ2 := hide z2
  have HB2 := hide hb2
  clear z2 hb2 k2 k3 f0 f1 HLT0
  refine wp_regionE (fun W => W.cell? ⟨w.heap.size, 0, none⟩ = some (.slice sa tn sc) ∧ W.cell? ⟨w.heap.size, 1, none⟩ = some (.int .i64 c)) (fun j => decide (j < 13)) (by kernel_rfl) ⟨k0, k1⟩ (fun hS => ?_)
  refine anyE_take 1 (v := ?_) rfl (by kernel_rfl) (by kernel_rfl) (by kernel_rfl) (by kernel_rfl) (fun _ _ _ h => h) hS (Or.inl ⟨by rfl, ?_⟩) ?_
  rotate_left
  · intro w' hS'
    obtain ⟨e1, e2⟩ := hS'
    go_simp
    try with_reducible rfl
  try simp only [List.getElem_toArray, List.getElem_cons_succ, List.getElem_cons_zero, Act.put, List.setIfInBounds_toArray, List.set_cons_zero, List.set_cons_succ]
  refine anyE_take 2 (v := ?_) rfl (by kernel_rfl) (by kernel_rfl) (by kernel_rfl) (by kernel_rfl) (fun _ _ _ h => h) hS (Or.inl ⟨by rfl, ?_⟩) ?_
  rotate_left
  · intro w' hS'
    obtain ⟨e1, e2⟩ := hS'
    go_simp
    try with_reducible rfl
  try simp only [List.getElem_toArray, List.getElem_cons_succ, List.getElem_cons_zero, Act.put, List.setIfInBounds_toArray, List.set_cons_zero, List.set_cons_succ]
  refine anyE_take 4 (v := ?_) rfl (by kernel_rfl) (by kernel_rfl) (by kernel_rfl) (by kernel_rfl) (fun _ _ _ h => h) hS (Or.inl ⟨by rfl, ?_⟩) ?_
  rotate_left
  · intro w' hS'
    obtain ⟨e1, e2⟩ := hS'
    go_simp
    try with_reducible rfl
  try simp only [List.getElem_toArray, List.getElem_cons_succ, List.getElem_cons_zero, Act.put, List.setIfInBounds_toArray, List.set_cons_zero, List.set_cons_succ]
  refine anyE_take 5 (v := ?_) rfl (by kernel_rfl) (by kernel_rfl) (by kernel_rfl) (by kernel_rfl) (fun _ _ _ h => h) hS (Or.inl ⟨by rfl, ?_⟩) ?_
  rotate_left
  · intro w' hS'
    obtain ⟨e1, e2⟩ := hS'
    go_simp
    try with_reducible rfl
  try simp only [List.getElem_toArray, List.getElem_cons_succ, List.getElem_cons_zero, Act.put, List.setIfInBounds_toArray, List.set_cons_zero, List.set_cons_succ]
  refine anyE_take 6 (v := ?_) rfl (by kernel_rfl) (by kernel_rfl) (by kernel_rfl) (by kernel_rfl) (fun _ _ _ h => h) hS (Or.inl ⟨by rfl, ?_⟩) ?_
  rotate_left
  · intro w' hS'
    obtain ⟨e1, e2⟩ := hS'
    go_simp
    try with_reducible rfl
  try simp only [List.getElem_toArray, List.getElem_cons_succ, List.getElem_cons_zero, Act.put, List.setIfInBounds_toArray, List.set_cons_zero, List.set_cons_succ]
  refine anyE_take 7 (v := ?_) rfl (by kernel_rfl) (by kernel_rfl) (by kernel_rfl) (by kernel_rfl) (fun _ _ _ h => h) hS (Or.inl ⟨by rfl, ?_⟩) ?_
  rotate_left
  · intro w' hS'
    obtain ⟨e1, e2⟩ := hS'
    go_simp
    try with_reducible rfl
  try simp only [List.getElem_toArray, List.getElem_cons_succ, List.getElem_cons_zero, Act.put, List.setIfInBounds_toArray, List.set_cons_zero, List.set_cons_succ]
  refine anyE_take 8 (v := ?_) rfl (by kernel_rfl) (by kernel_rfl) (by kernel_rfl) (by kernel_rfl) (fun _ _ _ h => h) hS (Or.inl ⟨by rfl, ?_⟩) ?_
  rotate_left
  · intro w' hS'
    obtain ⟨e1, e2⟩ := hS'
    go_simp
    try with_reducible rfl
  try simp only [List.getElem_toArray, List.getElem_cons_succ, List.getElem_cons_zero, Act.put, List.setIfInBounds_toArray, List.set_cons_zero, List.set_cons_succ]
  refine anyE_take 9 (v := ?_) rfl (by kernel_rfl) (by kernel_rfl) (by kernel_rfl) (by kernel_rfl) (fun _ _ _ h => h) hS (Or.inl ⟨by rfl, ?_⟩) ?_
  rotate_left
  · intro w' hS'
    obtain ⟨e1, e2⟩ := hS'
    go_simp
    try with_reducible rfl
  try simp only [List.getElem_toArray, List.getElem_cons_succ, List.getElem_cons_zero, Act.put, List.setIfInBounds_toArray, List.set_cons_zero, List.set_cons_succ]
  refine anyE_ready [0, 10] (by kernel_rfl) (by simp) (ReadyE.cons rfl (fun K' hK => ?_) (ReadyE.cons rfl (fun K' hK => ?_) ReadyE.nil))
  · generalize hA0 : W2.drew = A0 at *
    have hBA0 : Below (w.heap.size + 2) W2 A0 := by rw [← hA0]; exact below_drewN (Below.refl _ _) 1
    have hzA0 : w.heap.size + 2 ≤ A0.heap.size := by have := hBA0.size; have := unhide HZ2; omega
    clear hA0
    go_simp
    have hBA1 : Below (w.heap.size + 2) W2 (A0.alloc (.cells #[] RSy)) := hBA0.alloc hzA0 _
    have hp := alloc_at A0 #[] RSy
    have hzA1 : w.heap.size + 2 ≤ (A0.alloc (.cells #[] RSy)).heap.size := by have := hBA1.size; have := unhide HZ2; omega
    have alA1 := alloc_below A0 (.cells #[] RSy)
    refine hK _ _ (fun _ => unhide HSB _ hBA1) ?_
    clear hK K'
    try simp only [List.getElem_toArray, List.getElem_cons_succ, List.getElem_cons_zero, Act.put, List.setIfInBounds_toArray, List.set_cons_zero, List.set_cons_succ]
    generalize (A0.alloc (.cells #[] RSy)) = A1 at *
    refine anyE_ready [3, 10] (by kernel_rfl) (by simp) (ReadyE.cons rfl (fun K' hK => ?_) (ReadyE.cons rfl (fun K' hK => ?_) ReadyE.nil))
    · obtain ⟨v1, A2, hr1, ho1, hg1, hat1⟩ := unhide HCP A1 A0.heap.size ((unhide HB2).trans (hBA1.mono (by omega))) hp
      have HPN : Hid (w.heap.size + 2 ≤ A0.heap.size) := hide hzA0
      refine step_append_runS RSys rfl _ _ rfl rfl _ _ rfl rfl _ _ hr1 ?_
      have hBA2 : Below (w.heap.size + 2) W2 A2 := hBA1.grown hg1 hzA1 (fun j hj => by have := Option.some.inj hj; have := unhide HPN; omega)
      have hzA2 : w.heap.size + 2 ≤ A2.heap.size := by have := hBA2.size; have := unhide HZ2; omega
      refine hK _ _ (fun _ => unhide HSB _ hBA2) ?_
      clear hK K' hr1
      try simp only [List.getElem_toArray, List.getElem_cons_succ, List.getElem_cons_zero, Act.put, List.setIfInBounds_toArray, List.set_cons_zero, List.set_cons_succ]
      refine anyE_ready [10] (by kernel_rfl) (by simp) (ReadyE.cons rfl (fun K' hK => ?_) ReadyE.nil)
      go_simp
      have hBA3 : Below (w.heap.size + 2) W2 (A2.alloc (.cells #[.string ⟨name.toArray⟩, .slice da dn dc, .int .i64 c, .int .i64 size] RSy)) := hBA2.alloc hzA2 _
      have hq := alloc_at A2 #[.string ⟨name.toArray⟩, .slice da dn dc, .int .i64 c, .int .i64 size] RSy
      have hzA3 : w.heap.size + 2 ≤ (A2.alloc (.cells #[.string ⟨name.toArray⟩, .slice da dn dc, .int .i64 c, .int .i64 size] RSy)).heap.size := by have := hBA3.size; have := unhide HZ2; omega
      have alA3 := alloc_below A2 (.cells #[.string ⟨name.toArray⟩, .slice da dn dc, .int .i64 c, .int .i64 size] RSy)
      refine hK _ _ (fun _ => unhide HSB _ hBA3) ?_
      clear hK K'
      try simp only [List.getElem_toArray, List.getElem_cons_succ, List.getElem_cons_zero, Act.put, List.setIfInBounds_toArray, List.set_cons_zero, List.set_cons_succ]
      generalize (A2.alloc (.cells #[.string ⟨name.toArray⟩, .slice da dn dc, .int .i64 c, .int .i64 size] RSy)) = A3 at *
      have hple : A0.heap.size ≤ A3.heap.size := by have := alA1.size; have := hg1.size; have := alA3.size; omega
      refine anyE_ready [11] (by kernel_rfl) (by simp) (ReadyE.cons rfl (fun K' hK => ?_) ReadyE.nil)
      obtain ⟨v2, A4, hr2, ho2, hg2, hat2⟩ := unhide HON A3 A0.heap.size v1 A2.heap.size (below_own ho1 alA3) hple hq
      refine step_append_runS RSys rfl _ _ rfl rfl _ _ rfl rfl _ _ hr2 ?_
      have hBA4 : Below (w.heap.size + 2) W2 A4 := hBA3.grown hg2 hzA3 (fun j hj => by
        have h9 := unhide HPN
        rcases hat1 with e | e
        · rw [e] at hj; have := Option.some.inj hj; omega
        · rw [e] at hj; have := Option.some.inj hj; omega)
      refine hK _ _ (fun _ => unhide HSB _ hBA4) ?_
      clear hK K' hr2
      try simp only [List.getElem_toArray, List.getElem_cons_succ, List.getElem_cons_zero, Act.put, List.setIfInBounds_toArray, List.set_cons_zero, List.set_cons_succ]
      have HO9 : Hid (∀ W', (∀ b, w.heap.size + 2 ≤ b → W'.heap[b]? = A4.heap[b]?) → OwnSy RSy w.heap.size W' v2 (L ++ [(⟨name, d, c, size⟩, .slice da dn dc)])) := hide (fun W' hk => (own_keep ho2 (fun k e => hk k (by have := (ho2.lt k e).1; have := unhide HPN; omega))).mono (by have := unhide HPN; omega))
      have hB9 := hBA4
      have HF9 := hide (unhide HFA A4 hB9)
      generalize A4 = W9 at *
      refine anyE_take 12 (v := ?_) rfl (by kernel_rfl) (by kernel_rfl) (by kernel_rfl) (by kernel_rfl) (fun _ _ _ h => h) (unhide HSB _ hB9) (Or.inl ⟨by rfl, ?_⟩) ?_
      rotate_left
      · intro w' hS'
        go_simp
        try with_reducible rfl
      try simp only [List.getElem_toArray, List.getElem_cons_succ, List.getElem_cons_zero, Act.put, List.setIfInBounds_toArray, List.set_cons_zero, List.set_cons_succ]
      obtain ⟨c0, c1, c2, c3, g0, g1, g2, g3⟩ := unhide HF9
      obtain ⟨va, vc, hv2⟩ : ∃ a n, v2 = .slice a (tn + 1) n := by
        obtain ⟨a, n, h⟩ := ho2.shape
        exact ⟨a, n, by rw [h, List.length_append]; have := unhide HLT; simp; omega⟩
      subst hv2
      refine anyE_ready [13] (by kernel_rfl) (by simp) (ReadyE.cons rfl (fun K' hK => ?_) ReadyE.nil)
      go_simp
      refine hK _ _ (fun h => absurd h (by decide)) ?_
      clear hK K'
      try simp only [List.getElem_toArray, List.getElem_cons_succ, List.getElem_cons_zero, Act.put, List.setIfInBounds_toArray, List.set_cons_zero, List.set_cons_succ]
      refine anyE_done (by kernel_rfl) ?_ _
      have HB9 := hide hB9
      clear hS hB9 ho2
      go_wp2
      have hb9 : Below w.heap.size w ((((W9.setCell ⟨w.heap.size, 0, none⟩ (.slice va (tn + 1) vc)).setCell ⟨w.heap.size, 1, none⟩ (.int .i64 (c + size))).setCell ⟨w.heap.size + 1, 0, none⟩ (.slice va (tn + 1) vc)).setCell ⟨w.heap.size + 1, 1, none⟩ (.int .i64 (c + size))) := (((((unhide HB2).trans ((unhide HB9).mono (by omega))).setCell (p := ⟨w.heap.size, 0, none⟩) (Nat.le_refl _) _).setCell (p := ⟨w.heap.size, 1, none⟩) (Nat.le_refl _) _).setCell (p := ⟨w.heap.size + 1, 0, none⟩) (Nat.le_succ _) _).setCell (p := ⟨w.heap.size + 1, 1, none⟩) (Nat.le_succ _) _
      refine bodyPost_ret (v := .agg #[.slice va (tn + 1) vc, .int .i64 (c + size)]) (by simp [results, Tryd.results19, go_sem, c2, c3]) rfl ⟨_, rfl, unhide HO9 _ (fun b hb => heap_set4 _ _ _ _ _ _ _ _ _ _ (by show b ≠ w.heap.size; omega) (by show b ≠ w.heap.size; omega) (by show b ≠ w.heap.size + 1; omega) (by show b ≠ w.heap.size + 1; omega)), hb9⟩
    · go_simp
      have hBA2 : Below (w.heap.size + 2) W2 (A1.alloc (.cells #[.string ⟨name.toArray⟩, .slice da dn dc, .int .i64 c, .int .i64 size] RSy)) := hBA1.alloc hzA1 _
      have hq := alloc_at A1 #[.string ⟨name.toArray⟩, .slice da dn dc, .int .i64 c, .int .i64 size] RSy
      have hzA2 : w.heap.size + 2 ≤ (A1.alloc (.cells #[.string ⟨name.toArray⟩, .slice da dn dc, .int .i64 c, .int .i64 size] RSy)).heap.size := by have := hBA2.size; have := unhide HZ2; omega
      have alA2 := alloc_below A1 (.cells #[.string ⟨name.toArray⟩, .slice da dn dc, .int .i64 c, .int .i64 size] RSy)
      refine hK _ _ (fun _ => unhide HSB _ hBA2) ?_
      clear hK K'
      try simp only [List.getElem_toArray, List.getElem_cons_succ, List.getElem_cons_zero, Act.put, List.setIfInBounds_toArray, List.set_cons_zero, List.set_cons_succ]
      generalize (A1.alloc (.cells #[.string ⟨name.toArray⟩, .slice da dn dc, .int .i64 c, .int .i64 size] RSy)) = A2 at *
      have hp2 := (alA2.block _ (Array.getElem?_eq_some_iff.1 hp).1).trans hp
      refine anyE_ready [3] (by kernel_rfl) (by simp) (ReadyE.cons rfl (fun K' hK => ?_) ReadyE.nil)
      obtain ⟨v1, A3, hr1, ho1, hg1, hat1⟩ := unhide HCP A2 A0.heap.size ((unhide HB2).trans (hBA2.mono (by omega))) hp2
      have HPN : Hid (w.heap.size + 2 ≤ A0.heap.size) := hide hzA0
      refine step_append_runS RSys rfl _ _ rfl rfl _ _ rfl rfl _ _ hr1 ?_
      have hBA3 : Below (w.heap.size + 2) W2 A3 := hBA2.grown hg1 hzA2 (fun j hj => by have := Option.some.inj hj; have := unhide HPN; omega)
      have hzA3 : w.heap.size + 2 ≤ A3.heap.size := by have := hBA3.size; have := unhide HZ2; omega
      refine hK _ _ (fun _ => unhide HSB _ hBA3) ?_
      clear hK K' hr1
      try simp only [List.getElem_toArray, List.getElem_cons_succ, List.getElem_cons_zero, Act.put, List.setIfInBounds_toArray, List.set_cons_zero, List.set_cons_succ]
      have hq3 := (hg1.block _ (Array.getElem?_eq_some_iff.1 hq).1 (fun e => by have := Option.some.inj e; have := alA1.size; have h7 := (Array.getElem?_eq_some_iff.1 hp).1; omega)).trans hq
      have hple : A0.heap.size ≤ A3.heap.size := by have := alA1.size; have := hg1.size; have := alA2.size; omega
      refine anyE_ready [11] (by kernel_rfl) (by simp) (ReadyE.cons rfl (fun K' hK => ?_) ReadyE.nil)
      obtain ⟨v2, A4, hr2, ho2, hg2, hat2⟩ := unhide HON A3 A0.heap.size v1 A1.heap.size ho1 hple hq3
      refine step_append_runS RSys rfl _ _ rfl rfl _ _ rfl rfl _ _ hr2 ?_
      have hBA4 : Below (w.heap.size + 2) W2 A4 := hBA3.grown hg2 hzA3 (fun j hj => by
        have h9 := unhide HPN
        rcases hat1 with e | e
        · rw [e] at hj; have := Option.some.inj hj; omega
        · rw [e] at hj; have := Option.some.inj hj; omega)
      refine hK _ _ (fun _ => unhide HSB _ hBA4) ?_
      clear hK K' hr2
      try simp only [List.getElem_toArray, List.getElem_cons_succ, List.getElem_cons_zero, Act.put, List.setIfInBounds_toArray, List.set_cons_zero, List.set_cons_succ]
      have HO9 : Hid (∀ W', (∀ b, w.heap.size + 2 ≤ b → W'.heap[b]? = A4.heap[b]?) → OwnSy RSy w.heap.size W' v2 (L ++ [(⟨name, d, c, size⟩, .slice da dn dc)])) := hide (fun W' hk => (own_keep ho2 (fun k e => hk k (by have := (ho2.lt k e).1; have := unhide HPN; omega))).mono (by have := unhide HPN; omega))
      have hB9 := hBA4
      have HF9 := hide (unhide HFA A4 hB9)
      generalize A4 = W9 at *
      refine anyE_take 12 (v := ?_) rfl (by kernel_rfl) (by kernel_rfl) (by kernel_rfl) (by kernel_rfl) (fun _ _ _ h => h) (unhide HSB _ hB9) (Or.inl ⟨by rfl, ?_⟩) ?_
      rotate_left
      · intro w' hS'
        go_simp
        try with_reducible rfl
      try simp only [List.getElem_toArray, List.getElem_cons_succ, List.getElem_cons_zero, Act.put, List.setIfInBounds_toArray, List.set_cons_zero, List.set_cons_succ]
      obtain ⟨c0, c1, c2, c3, g0, g1, g2, g3⟩ := unhide HF9
      obtain ⟨va, vc, hv2⟩ : ∃ a n, v2 = .slice a (tn + 1) n := by
        obtain ⟨a, n, h⟩ := ho2.shape
        exact ⟨a, n, by rw [h, List.length_append]; have := unhide HLT; simp; omega⟩
      subst hv2
      refine anyE_ready [13] (by kernel_rfl) (by simp) (ReadyE.cons rfl (fun K' hK => ?_) ReadyE.nil)
      go_simp
      refine hK _ _ (fun h => absurd h (by decide)) ?_
      clear hK K'
      try simp only [List.getElem_toArray, List.getElem_cons_succ, List.getElem_cons_zero, Act.put, List.setIfInBounds_toArray, List.set_cons_zero, List.set_cons_succ]
      refine anyE_done (by kernel_rfl) ?_ _
      have HB9 := hide hB9
      clear hS hB9 ho2
      go_wp2
      have hb9 : Below w.heap.size w ((((W9.setCell ⟨w.heap.size, 0, none⟩ (.slice va (tn + 1) vc)).setCell ⟨w.heap.size, 1, none⟩ (.int .i64 (c + size))).setCell ⟨w.heap.size + 1, 0, none⟩ (.slice va (tn + 1) vc)).setCell ⟨w.heap.size + 1, 1, none⟩ (.int .i64 (c + size))) := (((((unhide HB2).trans ((unhide HB9).mono (by omega))).setCell (p := ⟨w.heap.size, 0, none⟩) (Nat.le_refl _) _).setCell (p := ⟨w.heap.size, 1, none⟩) (Nat.le_refl _) _).setCell (p := ⟨w.heap.size + 1, 0, none⟩) (Nat.le_succ _) _).setCell (p := ⟨w.heap.size + 1, 1, none⟩) (Nat.le_succ _) _
      refine bodyPost_ret (v := .agg #[.slice va (tn + 1) vc, .int .i64 (c + size)]) (by simp [results, Tryd.results19, go_sem, c2, c3]) rfl ⟨_, rfl, unhide HO9 _ (fun b hb => heap_set4 _ _ _ _ _ _ _ _ _ _ (by show b ≠ w.heap.size; omega) (by show b ≠ w.heap.size; omega) (by show b ≠ w.heap.size + 1; omega) (by show b ≠ w.heap.size + 1; omega)), hb9⟩
  · generalize hA0 : W2.drew = A0 at *
    have hBA0 : Below (w.heap.size + 2) W2 A0 := by rw [← hA0]; exact below_drewN (Below.refl _ _) 1
    have hzA0 : w.heap.size + 2 ≤ A0.heap.size := by have := hBA0.size; have := unhide HZ2; omega
    clear hA0
    go_simp
    have hBA1 : Below (w.heap.size + 2) W2 (A0.alloc (.cells #[.string ⟨name.toArray⟩, .slice da dn dc, .int .i64 c, .int .i64 size] RSy)) := hBA0.alloc hzA0 _
    have hq := alloc_at A0 #[.string ⟨name.toArray⟩, .slice da dn dc, .int .i64 c, .int .i64 size] RSy
    have hzA1 : w.heap.size + 2 ≤ (A0.alloc (.cells #[.string ⟨name.toArray⟩, .slice da dn dc, .int .i64 c, .int .i64 size] RSy)).heap.size := by have := hBA1.size; have := unhide HZ2; omega
    have alA1 := alloc_below A0 (.cells #[.string ⟨name.toArray⟩, .slice da dn dc, .int .i64 c, .int .i64 size] RSy)
    refine hK _ _ (fun _ => unhide HSB _ hBA1) ?_
    clear hK K'
    try simp only [List.getElem_toArray, List.getElem_cons_succ, List.getElem_cons_zero, Act.put, List.setIfInBounds_toArray, List.set_cons_zero, List.set_cons_succ]
    generalize (A0.alloc (.cells #[.string ⟨name.toArray⟩, .slice da dn dc, .int .i64 c, .int .i64 size] RSy)) = A1 at *
    refine anyE_ready [0] (by kernel_rfl) (by simp) (ReadyE.cons rfl (fun K' hK => ?_) ReadyE.nil)
    go_simp
    have hBA2 : Below (w.heap.size + 2) W2 (A1.alloc (.cells #[] RSy)) := hBA1.alloc hzA1 _
    have hp := alloc_at A1 #[] RSy
    have hzA2 : w.heap.size + 2 ≤ (A1.alloc (.cells #[] RSy)).heap.size := by have := hBA2.size; have := unhide HZ2; omega
    have alA2 := alloc_below A1 (.cells #[] RSy)
    refine hK _ _ (fun _ => unhide HSB _ hBA2) ?_
    clear hK K'
    try simp only [List.getElem_toArray, List.getElem_cons_succ, List.getElem_cons_zero, Act.put, List.setIfInBounds_toArray, List.set_cons_zero, List.set_cons_succ]
    generalize (A1.alloc (.cells #[] RSy)) = A2 at *
    have hq2 := (alA2.block _ (Array.getElem?_eq_some_iff.1 hq).1).trans hq
    refine anyE_ready [3] (by kernel_rfl) (by simp) (ReadyE.cons rfl (fun K' hK => ?_) ReadyE.nil)
    obtain ⟨v1, A3, hr1, ho1, hg1, hat1⟩ := unhide HCP A2 A1.heap.size ((unhide HB2).trans (hBA2.mono (by omega))) hp
    have HPN : Hid (w.heap.size + 2 ≤ A1.heap.size) := hide hzA1
    refine step_append_runS RSys rfl _ _ rfl rfl _ _ rfl rfl _ _ hr1 ?_
    have hBA3 : Below (w.heap.size + 2) W2 A3 := hBA2.grown hg1 hzA2 (fun j hj => by have := Option.some.inj hj; have := unhide HPN; omega)
    have hzA3 : w.heap.size + 2 ≤ A3.heap.size := by have := hBA3.size; have := unhide HZ2; omega
    refine hK _ _ (fun _ => unhide HSB _ hBA3) ?_
    clear hK K' hr1
    try simp only [List.getElem_toArray, List.getElem_cons_succ, List.getElem_cons_zero, Act.put, List.setIfInBounds_toArray, List.set_cons_zero, List.set_cons_succ]
    have hq3 := (hg1.block _ (Array.getElem?_eq_some_iff.1 hq2).1 (fun e => by have := Option.some.inj e; have h7 := (Array.getElem?_eq_some_iff.1 hq).1; omega)).trans hq2
    have hple : A1.heap.size ≤ A3.heap.size := by have := hg1.size; have := alA2.size; omega
    refine anyE_ready [11] (by kernel_rfl) (by simp) (ReadyE.cons rfl (fun K' hK => ?_) ReadyE.nil)
    obtain ⟨v2, A4, hr2, ho2, hg2, hat2⟩ := unhide HON A3 A1.heap.size v1 A0.heap.size ho1 hple hq3
    refine step_append_runS RSys rfl _ _ rfl rfl _ _ rfl rfl _ _ hr2 ?_
    have hBA4 : Below (w.heap.size + 2) W2 A4 := hBA3.grown hg2 hzA3 (fun j hj => by
      have h9 := unhide HPN
      rcases hat1 with e | e
      · rw [e] at hj; have := Option.some.inj hj; omega
      · rw [e] at hj; have := Option.some.inj hj; omega)
    refine hK _ _ (fun _ => unhide HSB _ hBA4) ?_
    clear hK K' hr2
    try simp only [List.getElem_toArray, List.getElem_cons_succ, List.getElem_cons_zero, Act.put, List.setIfInBounds_toArray, List.set_cons_zero, List.set_cons_succ]
    have HO9 : Hid (∀ W', (∀ b, w.heap.size + 2 ≤ b → W'.heap[b]? = A4.heap[b]?) → OwnSy RSy w.heap.size W' v2 (L ++ [(⟨name, d, c, size⟩, .slice da dn dc)])) := hide (fun W' hk => (own_keep ho2 (fun k e => hk k (by have := (ho2.lt k e).1; have := unhide HPN; omega))).mono (by have := unhide HPN; omega))
    have hB9 := hBA4
    have HF9 := hide (unhide HFA A4 hB9)
    generalize A4 = W9 at *
    refine anyE_take 12 (v := ?_) rfl (by kernel_rfl) (by kernel_rfl) (by kernel_rfl) (by kernel_rfl) (fun _ _ _ h => h) (unhide HSB _ hB9) (Or.inl ⟨by rfl, ?_⟩) ?_
    rotate_left
    · intro w' hS'
      go_simp
      try with_reducible rfl
    try simp only [List.getElem_toArray, List.getElem_cons_succ, List.getElem_cons_zero, Act.put, List.setIfInBounds_toArray, List.set_cons_zero, List.set_cons_succ]
    obtain ⟨c0, c1, c2, c3, g0, g1, g2, g3⟩ := unhide HF9
    obtain ⟨va, vc, hv2⟩ : ∃ a n, v2 = .slice a (tn + 1) n := by
      obtain ⟨a, n, h⟩ := ho2.shape
      exact ⟨a, n, by rw [h, List.length_append]; have := unhide HLT; simp; omega⟩
    subst hv2
    refine anyE_ready [13] (by kernel_rfl) (by simp) (ReadyE.cons rfl (fun K' hK => ?_) ReadyE.nil)
    go_simp
    refine hK _ _ (fun h => absurd h (by decide)) ?_
    clear hK K'
    try simp only [List.getElem_toArray, List.getElem_cons_succ, List.getElem_cons_zero, Act.put, List.setIfInBounds_toArray, List.set_cons_zero, List.set_cons_succ]
    refine anyE_done (by kernel_rfl) ?_ _
    have HB9 := hide hB9
    clear hS hB9 ho2
    go_wp2
    have hb9 : Below w.heap.size w ((((W9.setCell ⟨w.heap.size, 0, none⟩ (.slice va (tn + 1) vc)).setCell ⟨w.heap.size, 1, none⟩ (.int .i64 (c + size))).setCell ⟨w.heap.size + 1, 0, none⟩ (.slice va (tn + 1) vc)).setCell ⟨w.heap.size + 1, 1, none⟩ (.int .i64 (c + size))) := (((((unhide HB2).trans ((unhide HB9).mono (by omega))).setCell (p := ⟨w.heap.size, 0, none⟩) (Nat.le_refl _) _).setCell (p := ⟨w.heap.size, 1, none⟩) (Nat.le_refl _) _).setCell (p := ⟨w.heap.size + 1, 0, none⟩) (Nat.le_succ _) _).setCell (p := ⟨w.heap.size + 1, 1, none⟩) (Nat.le_succ _) _
    refine bodyPost_ret (v := .agg #[.slice va (tn + 1) vc, .int .i64 (c + size)]) (by simp [results, Tryd.results19, go_sem, c2, c3]) rfl ⟨_, rfl, unhide HO9 _ (fun b hb => heap_set4 _ _ _ _ _ _ _ _ _ _ (by show b ≠ w.heap.size; omega) (by show b ≠ w.heap.size; omega) (by show b ≠ w.heap.size + 1; omega) (by show b ≠ w.heap.size + 1; omega)), hb9⟩
end Go.Proofs.YtomnbidppkpfiaaDoor.Line
