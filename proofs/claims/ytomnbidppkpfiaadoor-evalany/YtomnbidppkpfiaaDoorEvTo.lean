/- The contract of the law's To (a table). -/
import Derived.Test.YtomnbidppkpfiaaDoorEvTable
namespace Go.Proofs.YtomnbidppkpfiaaDoor.Line
open Go.ChangeShapes Go.WideShapes Go.ChangeAt Go.RowKit
open Ex (E)
open Ev (Sy Res)
set_option linter.unusedVariables false

/-- where To stands -/
structure ToM (w wr : World) (sv : Value) (c : Int) (L : List SyV) (i : Nat) (xv : Value) : Prop where
  t0 : wr.cell? ⟨w.heap.size, 0, none⟩ = some sv
  r0 : wr.cell? ⟨w.heap.size + 1, 0, none⟩ = some (.slice none 0 0)
  r1 : wr.cell? ⟨w.heap.size + 1, 1, none⟩ = some (.int .i64 0)
  g0 : wr.frozen? ⟨w.heap.size + 1, 0, none⟩ = false
  g1 : wr.frozen? ⟨w.heap.size + 1, 1, none⟩ = false
  x0 : wr.cell? ⟨w.heap.size + 2, 0, none⟩ = some xv
  x1 : wr.cell? ⟨w.heap.size + 2, 1, none⟩ = some (.int .i64 c)
  f0 : wr.frozen? ⟨w.heap.size + 2, 0, none⟩ = false
  row : OwnSy SyT (w.heap.size + 3) wr xv (L.take i)
  old : Below w.heap.size w wr
  sz : w.heap.size + 3 ≤ wr.heap.size
theorem to_one {W : World} {base : Nat} {v1 : Value} {L : List SyV} (ho : OwnSy SyT base W v1 L) (hl : L.length ≤ 1000) (x : Sy) (dv : Value) (hd : ∃ a n c, dv = .slice a n c) (hb : base ≤ W.heap.size) :
    ∃ v2 W2, (Builtin.append_ #[PSys, PSys] PSys #[v1, .slice (some ⟨W.heap.size, 0, none⟩) 1 1]).run Tryd.prog (W.alloc (.cells #[.string ⟨x.name.toArray⟩, dv, .int .i64 x.at_, .int .i64 x.size] SyT)) = .ok v2 W2 ∧ OwnSy SyT base W2 v2 (L ++ [(x, dv)]) ∧ Oth W W2 v1 v2 := by
  have hq := alloc_at W #[.string ⟨x.name.toArray⟩, dv, .int .i64 x.at_, .int .i64 x.size] SyT
  have hal := alloc_below W (.cells #[.string ⟨x.name.toArray⟩, dv, .int .i64 x.at_, .int .i64 x.size] SyT)
  have hcell : ∀ j u, (flatS [(x, dv)])[j]? = some u → (W.alloc (.cells #[.string ⟨x.name.toArray⟩, dv, .int .i64 x.at_, .int .i64 x.size] SyT)).cell? ⟨W.heap.size, 0 + j, none⟩ = some u := fun j u hu => by
    have := World.news_of_block (cs := #[.string ⟨x.name.toArray⟩, dv, .int .i64 x.at_, .int .i64 x.size]) (t := SyT) (fr := (0, 0)) hq j u hu
    rw [Addr.add_mid] at this
    exact this
  have h := append_syms (M := [(x, dv)]) infoPSy Tryd.underlying44 (World.ownsRow.alloc ho _) (by have := hal.size; omega) (by simp; omega) W.heap.size 0 1 hcell (fun r hr => by rw [List.mem_singleton.1 hr]; exact hd)
  obtain ⟨v2, W2, hr, ho2, hg, hat⟩ := h
  have hz : (W.alloc (.cells #[.string ⟨x.name.toArray⟩, dv, .int .i64 x.at_, .int .i64 x.size] SyT)).heap.size = W.heap.size + 1 := by simp
  rw [hz] at hat
  refine ⟨v2, W2, hr, ho2, ⟨⟨hg.os, hg.tape, hg.output, by have := hg.size; omega, fun b hb hne => (hg.block b (by omega) hne).trans (hal.block b hb)⟩, ?_⟩⟩
  rcases hat with e | e
  · exact .inl e
  · exact .inr ⟨_, Nat.le_succ _, e⟩
theorem ToM.step {w wr W2 : World} {sv : Value} {c : Int} {L : List SyV} {i : Nat} {xv v2 : Value} (h : ToM w wr sv c L i xv) (hi : i < L.length) (hO : Oth wr W2 xv v2) (ho : OwnSy SyT (w.heap.size + 3) W2 v2 (L.take i ++ [L[i]])) : ToM w (W2.setCell ⟨w.heap.size + 2, 0, none⟩ v2) sv c L (i + 1) v2 ∧ W2.cell? ⟨w.heap.size + 2, 0, none⟩ = some xv ∧ W2.frozen? ⟨w.heap.size + 2, 0, none⟩ = false := by
  obtain ⟨t0, r0, r1, g0, g1, x0, x1, f0, hrow, hold, hz⟩ := h
  have hbl := hO.below (fun k e => (hrow.lt k e).1) hz
  have hc : ∀ {b o : Nat} {v : Value}, b < w.heap.size + 3 → wr.cell? ⟨b, o, none⟩ = some v → W2.cell? ⟨b, o, none⟩ = some v := fun {b o v} hb h => (hbl.cell (p := ⟨b, o, none⟩) hb).trans h
  have hf : ∀ b o, b < w.heap.size + 3 → W2.frozen? ⟨b, o, none⟩ = wr.frozen? ⟨b, o, none⟩ := fun b o h => hbl.frozen (p := ⟨b, o, none⟩) h
  have k0 := hc (by omega) t0
  have k1 := hc (by omega) r0
  have k2 := hc (by omega) r1
  have k3 := hc (by omega) x0
  have k4 := hc (by omega) x1
  have l1 := (hf (w.heap.size + 1) 0 (by omega)).trans g0
  have l2 := (hf (w.heap.size + 1) 1 (by omega)).trans g1
  have l3 := (hf (w.heap.size + 2) 0 (by omega)).trans f0
  refine ⟨⟨by simp [go_sem, k0], by simp [go_sem, k1], by simp [go_sem, k2], by simp [go_sem, l1], by simp [go_sem, l2], by simp [go_sem, k3], by simp [go_sem, k4], by simp [go_sem, l3], ?_, (hold.trans (hbl.mono (by omega))).setCell (p := ⟨w.heap.size + 2, 0, none⟩) (by show w.heap.size ≤ w.heap.size + 2; omega) _, by have := hO.grown.size; simp [World.setCell]; omega⟩, k3, l3⟩
  rw [List.take_succ_eq_append_getElem hi]
  exact own_keep ho (fun k hk => Below.heap_setCell _ _ _ _ (by have := (ho.lt k hk).1; show k ≠ w.heap.size + 2; omega))
set_option maxHeartbeats 8000000 in
set_option maxRecDepth 100000 in
theorem toTab_any (w : World) (sv : Value) (c : Int) (T : List Sy) (hs : Syms w sv T) (hn : T.length ≤ 1000) :
    Calls Tryd.prog 12 #[.agg #[sv, .int .i64 c]] w fun e w' => ∃ sv', e = .returned (.agg #[sv', .int .i64 c]) ∧ Syms w' sv' T ∧ Below w.heap.size w w' := by
  obtain ⟨L, h1, h2, h3⟩ := syms_list hs
  have hLn : L.length = T.length := by rw [← h1, List.length_map]
  have hM : ToM w (((w.alloc (.cells #[sv, .int .i64 c] RTb)).alloc (.cells #[.slice none 0 0, .int .i64 0] TbT)).alloc (.cells #[.slice none 0 0, .int .i64 c] TbT)) sv c L 0 (.slice none 0 0) := ⟨by simp [go_sem], by simp [go_sem], by simp [go_sem], by simp [go_sem], by simp [go_sem], by simp [go_sem], by simp [go_sem], by simp [go_sem], World.ownsRow_nil _ _ _ _, (((Below.refl _ _).alloc (Nat.le_refl _) _).alloc (by simp) _).alloc (by simp; omega) _, by simp⟩
  have HM := hide hM
  have H1 := hide h1
  have H2 := hide h2
  have H3 := hide h3
  obtain ⟨sa, sc, rfl⟩ := hs.shape
  clear hM h1 h2 h3 hs
  generalize hTn : T.length = n at *
  have HLN := hide hLn
  have HTN := hide hTn
  clear hLn hTn
  go_enter Tryd.func12, Tryd.ntmps12
  go_wp2_with fail
  generalize (((w.alloc (.cells #[.slice sa n sc, .int .i64 c] RTb)).alloc (.cells #[.slice none 0 0, .int .i64 0] TbT)).alloc (.cells #[.slice none 0 0, .int .i64 c] TbT)) = W0 at *
  go_loopw [4] (fun q wr => ∃ (i : Nat) (xv : Value), i ≤ n ∧ q = .int .i64 i ∧ Hid (ToM w wr (.slice sa n sc) c L i xv)) (fun q _ => n - (intOf q).toNat)
  case atStart => exact ⟨0, _, Nat.zero_le _, rfl, HM⟩
  case round =>
    obtain ⟨i, xv, hi, rfl, HMM⟩ := hrel
    obtain ⟨t0, r0, r1, g0, g1, x0, x1, f0, hrow, hold, hz⟩ := unhide HMM
    by_cases hlt : i < n
    · have hiL : i < L.length := by rw [unhide HLN]; exact hlt
      have hTne : T ≠ [] := fun e => by have := unhide HTN; rw [e] at this; simp at this; omega
      obtain ⟨sb, so, cap, hsv, hcells⟩ := unhide H3 hTne
      injection hsv with e1 e2 e3
      subst e1
      subst e3
      obtain ⟨q0, q1, q2, q3⟩ := flatS_at L i hiL
      have c0 := (hold.cell (p := ⟨sb, so + i * 4, none⟩) (cell_lt (hcells _ _ q0))).trans (hcells _ _ q0)
      have c1 := (hold.cell (p := ⟨sb, so + (i * 4 + 1), none⟩) (cell_lt (hcells _ _ q1))).trans (hcells _ _ q1)
      have c2 := (hold.cell (p := ⟨sb, so + (i * 4 + 2), none⟩) (cell_lt (hcells _ _ q2))).trans (hcells _ _ q2)
      have c3 := (hold.cell (p := ⟨sb, so + (i * 4 + 3), none⟩) (cell_lt (hcells _ _ q3))).trans (hcells _ _ q3)
      rw [← Nat.add_assoc] at c1 c2 c3
      have hdv := ints_slice (unhide H2 _ (List.getElem_mem hiL))
      have hstep : ∀ W2 v2, Oth wr W2 xv v2 → OwnSy SyT (w.heap.size + 3) W2 v2 (L.take i ++ [L[i]]) → _ := fun W2 v2 a b => (unhide HMM).step hiL a b
      have hone : ∀ W, Below wr.heap.size wr W → ∃ v2 W2, (Builtin.append_ #[PSys, PSys] PSys #[xv, .slice (some ⟨W.heap.size, 0, none⟩) 1 1]).run Tryd.prog (W.alloc (.cells #[.string ⟨L[i].1.name.toArray⟩, L[i].2, .int .i64 L[i].1.at_, .int .i64 L[i].1.size] SyT)) = .ok v2 W2 ∧ OwnSy SyT (w.heap.size + 3) W2 v2 (L.take i ++ [L[i]]) ∧ Oth wr W2 xv v2 := fun W hb => by
        obtain ⟨v2, W2, a1, a2, a3⟩ := to_one (below_own hrow hb) (by rw [List.length_take]; have := unhide HLN; omega) L[i].1 L[i].2 hdv (by have := hb.size; omega)
        exact ⟨v2, W2, a1, a2, (Oth.of hb).trans a3⟩
      have hxl : ∃ a m cc, xv = .slice a m cc := by
        obtain ⟨a, cc, h⟩ := hrow.shape
        exact ⟨a, _, cc, h⟩
      have HBO : Hid (∀ W2 v2, Oth wr W2 xv v2 → Below (w.heap.size + 3) wr W2) := hide (fun W2 v2 a => a.below (fun k e => (hrow.lt k e).1) hz)
      have hsbl : sb < w.heap.size + 3 := by have := cell_lt (hcells _ _ q0); omega
      have HST := hide hstep
      have HON := hide hone
      have hlt2 : (i : Int) < n := by omega
      clear hcells q0 q1 q2 q3 hstep hone hrow hold e2
      generalize hx : L[i] = x at *
      obtain ⟨⟨nm, dims, at_, size⟩, dv⟩ := x
      dsimp only at c0 c1 c2 c3 HON hdv
      clear hx
      obtain ⟨dva, dvn, dvc, rfl⟩ := hdv
      obtain ⟨xa, xn, xc, rfl⟩ := hxl
      go_wp2_with fail
      refine wp_regionE (fun W => W.cell? ⟨w.heap.size, 0, none⟩ = some (.slice (some ⟨sb, so, none⟩) n sc) ∧ W.cell? ⟨w.heap.size + 2, 0, none⟩ = some (.slice xa xn xc) ∧ W.cell? ⟨sb, so + i * 4, none⟩ = some (.string ⟨nm.toArray⟩) ∧ W.cell? ⟨sb, so + i * 4 + 1, none⟩ = some (.slice dva dvn dvc) ∧ W.cell? ⟨sb, so + i * 4 + 2, none⟩ = some (.int .i64 at_) ∧ W.cell? ⟨sb, so + i * 4 + 3, none⟩ = some (.int .i64 size)) (fun j => decide (j < 29)) (by kernel_rfl) ⟨t0, x0, c0, c1, c2, c3⟩ (fun hS => ?_)
      obtain ⟨v2, W2, hr2, ho2, hO2⟩ := unhide HON wr.drew (below_drewN (Below.refl _ _) 1)
      obtain ⟨pa2, pn2, pc2, rfl⟩ : ∃ a m cc, v2 = .slice a m cc := by
        obtain ⟨a, cc, h⟩ := ho2.shape
        exact ⟨a, _, cc, h⟩
      obtain ⟨hstp, y0, yf⟩ := unhide HST W2 _ hO2 ho2
      have HSTP := hide hstp
      have HR2 := hide hr2
      obtain ⟨s1, s2, s3, s4, s5, s6⟩ := hS
      have hS9 : W2.cell? ⟨w.heap.size, 0, none⟩ = some (.slice (some ⟨sb, so, none⟩) n sc) ∧ W2.cell? ⟨w.heap.size + 2, 0, none⟩ = some (.slice xa xn xc) ∧ W2.cell? ⟨sb, so + i * 4, none⟩ = some (.string ⟨nm.toArray⟩) ∧ W2.cell? ⟨sb, so + i * 4 + 1, none⟩ = some (.slice dva dvn dvc) ∧ W2.cell? ⟨sb, so + i * 4 + 2, none⟩ = some (.int .i64 at_) ∧ W2.cell? ⟨sb, so + i * 4 + 3, none⟩ = some (.int .i64 size) := by
        have hk : ∀ b o (v : Value), wr.drew.cell? ⟨b, o, none⟩ = some v → b < w.heap.size + 3 → W2.cell? ⟨b, o, none⟩ = some v := fun b o v h hb => ((unhide HBO W2 _ hO2).cell (p := ⟨b, o, none⟩) hb).trans h
        exact ⟨hk _ _ _ s1 (by omega), hk _ _ _ s2 (by omega), hk _ _ _ s3 hsbl, hk _ _ _ s4 hsbl, hk _ _ _ s5 hsbl, hk _ _ _ s6 hsbl⟩
      have hS : wr.drew.cell? ⟨w.heap.size, 0, none⟩ = some (.slice (some ⟨sb, so, none⟩) n sc) ∧ wr.drew.cell? ⟨w.heap.size + 2, 0, none⟩ = some (.slice xa xn xc) ∧ wr.drew.cell? ⟨sb, so + i * 4, none⟩ = some (.string ⟨nm.toArray⟩) ∧ wr.drew.cell? ⟨sb, so + i * 4 + 1, none⟩ = some (.slice dva dvn dvc) ∧ wr.drew.cell? ⟨sb, so + i * 4 + 2, none⟩ = some (.int .i64 at_) ∧ wr.drew.cell? ⟨sb, so + i * 4 + 3, none⟩ = some (.int .i64 size) := ⟨s1, s2, s3, s4, s5, s6⟩
      have HS9 := hide hS9
      clear s1 s2 s3 s4 s5 s6 hS9 hstp hr2 t0 x0 c0 c1 c2 c3 HON HST
      refine anyE_take 0 (v := ?_) rfl (by kernel_rfl) (by kernel_rfl) (by kernel_rfl) (by kernel_rfl) (fun _ _ _ h => h) hS (Or.inl ⟨by rfl, ?_⟩) ?_
      rotate_left
      · intro w' hS'
        obtain ⟨e1, e2, e3, e4, e5, e6⟩ := hS'
        go_simp
        try with_reducible rfl
      try simp only [List.getElem_toArray, List.getElem_cons_zero, Act.put, List.setIfInBounds_toArray, List.set_cons_zero, List.set_cons_succ]
      refine anyE_take 1 (v := ?_) rfl (by kernel_rfl) (by kernel_rfl) (by kernel_rfl) (by kernel_rfl) (fun _ _ _ h => h) hS (Or.inl ⟨by rfl, ?_⟩) ?_
      rotate_left
      · intro w' hS'
        obtain ⟨e1, e2, e3, e4, e5, e6⟩ := hS'
        go_simp
        try with_reducible rfl
      try simp only [List.getElem_toArray, List.getElem_cons_succ, List.getElem_cons_zero, Act.put, List.setIfInBounds_toArray, List.set_cons_zero, List.set_cons_succ]
      refine anyE_take 2 (v := ?_) rfl (by kernel_rfl) (by kernel_rfl) (by kernel_rfl) (by kernel_rfl) (fun _ _ _ h => h) hS (Or.inl ⟨by rfl, ?_⟩) ?_
      rotate_left
      · intro w' hS'
        obtain ⟨e1, e2, e3, e4, e5, e6⟩ := hS'
        go_simp
        try with_reducible rfl
      try simp only [List.getElem_toArray, List.getElem_cons_succ, List.getElem_cons_zero, Act.put, List.setIfInBounds_toArray, List.set_cons_zero, List.set_cons_succ]
      refine anyE_take 3 (v := ?_) rfl (by kernel_rfl) (by kernel_rfl) (by kernel_rfl) (by kernel_rfl) (fun _ _ _ h => h) hS (Or.inl ⟨by rfl, ?_⟩) ?_
      rotate_left
      · intro w' hS'
        obtain ⟨e1, e2, e3, e4, e5, e6⟩ := hS'
        go_simp
        try with_reducible rfl
      try simp only [List.getElem_toArray, List.getElem_cons_succ, List.getElem_cons_zero, Act.put, List.setIfInBounds_toArray, List.set_cons_zero, List.set_cons_succ]
      refine anyE_take 4 (v := ?_) rfl (by kernel_rfl) (by kernel_rfl) (by kernel_rfl) (by kernel_rfl) (fun _ _ _ h => h) hS (Or.inl ⟨by rfl, ?_⟩) ?_
      rotate_left
      · intro w' hS'
        obtain ⟨e1, e2, e3, e4, e5, e6⟩ := hS'
        go_simp
        try with_reducible rfl
      try simp only [List.getElem_toArray, List.getElem_cons_succ, List.getElem_cons_zero, Act.put, List.setIfInBounds_toArray, List.set_cons_zero, List.set_cons_succ]
      refine anyE_take 5 (v := ?_) rfl (by kernel_rfl) (by kernel_rfl) (by kernel_rfl) (by kernel_rfl) (fun _ _ _ h => h) hS (Or.inl ⟨by rfl, ?_⟩) ?_
      rotate_left
      · intro w' hS'
        obtain ⟨e1, e2, e3, e4, e5, e6⟩ := hS'
        go_simp
        try with_reducible rfl
      try simp only [List.getElem_toArray, List.getElem_cons_succ, List.getElem_cons_zero, Act.put, List.setIfInBounds_toArray, List.set_cons_zero, List.set_cons_succ]
      refine anyE_take 6 (v := ?_) rfl (by kernel_rfl) (by kernel_rfl) (by kernel_rfl) (by kernel_rfl) (fun _ _ _ h => h) hS (Or.inl ⟨by rfl, ?_⟩) ?_
      rotate_left
      · intro w' hS'
        obtain ⟨e1, e2, e3, e4, e5, e6⟩ := hS'
        go_simp
        try with_reducible rfl
      try simp only [List.getElem_toArray, List.getElem_cons_succ, List.getElem_cons_zero, Act.put, List.setIfInBounds_toArray, List.set_cons_zero, List.set_cons_succ]
      refine anyE_take 7 (v := ?_) rfl (by kernel_rfl) (by kernel_rfl) (by kernel_rfl) (by kernel_rfl) (fun _ _ _ h => h) hS (Or.inl ⟨by rfl, ?_⟩) ?_
      rotate_left
      · intro w' hS'
        obtain ⟨e1, e2, e3, e4, e5, e6⟩ := hS'
        go_simp
        try with_reducible rfl
      try simp only [List.getElem_toArray, List.getElem_cons_succ, List.getElem_cons_zero, Act.put, List.setIfInBounds_toArray, List.set_cons_zero, List.set_cons_succ]
      refine anyE_take 8 (v := ?_) rfl (by kernel_rfl) (by kernel_rfl) (by kernel_rfl) (by kernel_rfl) (fun _ _ _ h => h) hS (Or.inl ⟨by rfl, ?_⟩) ?_
      rotate_left
      · intro w' hS'
        obtain ⟨e1, e2, e3, e4, e5, e6⟩ := hS'
        go_simp
        try with_reducible rfl
      try simp only [List.getElem_toArray, List.getElem_cons_succ, List.getElem_cons_zero, Act.put, List.setIfInBounds_toArray, List.set_cons_zero, List.set_cons_succ]
      refine anyE_take 9 (v := ?_) rfl (by kernel_rfl) (by kernel_rfl) (by kernel_rfl) (by kernel_rfl) (fun _ _ _ h => h) hS (Or.inl ⟨by rfl, ?_⟩) ?_
      rotate_left
      · intro w' hS'
        obtain ⟨e1, e2, e3, e4, e5, e6⟩ := hS'
        go_simp
        try with_reducible rfl
      try simp only [List.getElem_toArray, List.getElem_cons_succ, List.getElem_cons_zero, Act.put, List.setIfInBounds_toArray, List.set_cons_zero, List.set_cons_succ]
      refine anyE_take 10 (v := ?_) rfl (by kernel_rfl) (by kernel_rfl) (by kernel_rfl) (by kernel_rfl) (fun _ _ _ h => h) hS (Or.inl ⟨by rfl, ?_⟩) ?_
      rotate_left
      · intro w' hS'
        obtain ⟨e1, e2, e3, e4, e5, e6⟩ := hS'
        go_simp
        try with_reducible rfl
      try simp only [List.getElem_toArray, List.getElem_cons_succ, List.getElem_cons_zero, Act.put, List.setIfInBounds_toArray, List.set_cons_zero, List.set_cons_succ]
      refine anyE_take 11 (v := ?_) rfl (by kernel_rfl) (by kernel_rfl) (by kernel_rfl) (by kernel_rfl) (fun _ _ _ h => h) hS (Or.inl ⟨by rfl, ?_⟩) ?_
      rotate_left
      · intro w' hS'
        obtain ⟨e1, e2, e3, e4, e5, e6⟩ := hS'
        go_simp
        try with_reducible rfl
      try simp only [List.getElem_toArray, List.getElem_cons_succ, List.getElem_cons_zero, Act.put, List.setIfInBounds_toArray, List.set_cons_zero, List.set_cons_succ]
      refine anyE_take 12 (v := ?_) rfl (by kernel_rfl) (by kernel_rfl) (by kernel_rfl) (by kernel_rfl) (fun _ _ _ h => h) hS (Or.inl ⟨by rfl, ?_⟩) ?_
      rotate_left
      · intro w' hS'
        obtain ⟨e1, e2, e3, e4, e5, e6⟩ := hS'
        go_simp
        try with_reducible rfl
      try simp only [List.getElem_toArray, List.getElem_cons_succ, List.getElem_cons_zero, Act.put, List.setIfInBounds_toArray, List.set_cons_zero, List.set_cons_succ]
      refine anyE_take 13 (v := ?_) rfl (by kernel_rfl) (by kernel_rfl) (by kernel_rfl) (by kernel_rfl) (fun _ _ _ h => h) hS (Or.inl ⟨by rfl, ?_⟩) ?_
      rotate_left
      · intro w' hS'
        obtain ⟨e1, e2, e3, e4, e5, e6⟩ := hS'
        go_simp
        try with_reducible rfl
      try simp only [List.getElem_toArray, List.getElem_cons_succ, List.getElem_cons_zero, Act.put, List.setIfInBounds_toArray, List.set_cons_zero, List.set_cons_succ]
      refine anyE_take 14 (v := ?_) rfl (by kernel_rfl) (by kernel_rfl) (by kernel_rfl) (by kernel_rfl) (fun _ _ _ h => h) hS (Or.inl ⟨by rfl, ?_⟩) ?_
      rotate_left
      · intro w' hS'
        obtain ⟨e1, e2, e3, e4, e5, e6⟩ := hS'
        go_simp
        try with_reducible rfl
      try simp only [List.getElem_toArray, List.getElem_cons_succ, List.getElem_cons_zero, Act.put, List.setIfInBounds_toArray, List.set_cons_zero, List.set_cons_succ]
      refine anyE_take 15 (v := ?_) rfl (by kernel_rfl) (by kernel_rfl) (by kernel_rfl) (by kernel_rfl) (fun _ _ _ h => h) hS (Or.inl ⟨by rfl, ?_⟩) ?_
      rotate_left
      · intro w' hS'
        obtain ⟨e1, e2, e3, e4, e5, e6⟩ := hS'
        go_simp
        try with_reducible rfl
      try simp only [List.getElem_toArray, List.getElem_cons_succ, List.getElem_cons_zero, Act.put, List.setIfInBounds_toArray, List.set_cons_zero, List.set_cons_succ]
      refine anyE_take 16 (v := ?_) rfl (by kernel_rfl) (by kernel_rfl) (by kernel_rfl) (by kernel_rfl) (fun _ _ _ h => h) hS (Or.inl ⟨by rfl, ?_⟩) ?_
      rotate_left
      · intro w' hS'
        obtain ⟨e1, e2, e3, e4, e5, e6⟩ := hS'
        go_simp
        try with_reducible rfl
      try simp only [List.getElem_toArray, List.getElem_cons_succ, List.getElem_cons_zero, Act.put, List.setIfInBounds_toArray, List.set_cons_zero, List.set_cons_succ]
      refine anyE_take 17 (v := ?_) rfl (by kernel_rfl) (by kernel_rfl) (by kernel_rfl) (by kernel_rfl) (fun _ _ _ h => h) hS (Or.inl ⟨by rfl, ?_⟩) ?_
      rotate_left
      · intro w' hS'
        obtain ⟨e1, e2, e3, e4, e5, e6⟩ := hS'
        go_simp
        try with_reducible rfl
      try simp only [List.getElem_toArray, List.getElem_cons_succ, List.getElem_cons_zero, Act.put, List.setIfInBounds_toArray, List.set_cons_zero, List.set_cons_succ]
      refine anyE_take 18 (v := ?_) rfl (by kernel_rfl) (by kernel_rfl) (by kernel_rfl) (by kernel_rfl) (fun _ _ _ h => h) hS (Or.inl ⟨by rfl, ?_⟩) ?_
      rotate_left
      · intro w' hS'
        obtain ⟨e1, e2, e3, e4, e5, e6⟩ := hS'
        go_simp
        try with_reducible rfl
      try simp only [List.getElem_toArray, List.getElem_cons_succ, List.getElem_cons_zero, Act.put, List.setIfInBounds_toArray, List.set_cons_zero, List.set_cons_succ]
      refine anyE_take 19 (v := ?_) rfl (by kernel_rfl) (by kernel_rfl) (by kernel_rfl) (by kernel_rfl) (fun _ _ _ h => h) hS (Or.inl ⟨by rfl, ?_⟩) ?_
      rotate_left
      · intro w' hS'
        obtain ⟨e1, e2, e3, e4, e5, e6⟩ := hS'
        go_simp
        try with_reducible rfl
      try simp only [List.getElem_toArray, List.getElem_cons_succ, List.getElem_cons_zero, Act.put, List.setIfInBounds_toArray, List.set_cons_zero, List.set_cons_succ]
      refine anyE_take 20 (v := ?_) rfl (by kernel_rfl) (by kernel_rfl) (by kernel_rfl) (by kernel_rfl) (fun _ _ _ h => h) hS (Or.inl ⟨by rfl, ?_⟩) ?_
      rotate_left
      · intro w' hS'
        obtain ⟨e1, e2, e3, e4, e5, e6⟩ := hS'
        go_simp
        try with_reducible rfl
      try simp only [List.getElem_toArray, List.getElem_cons_succ, List.getElem_cons_zero, Act.put, List.setIfInBounds_toArray, List.set_cons_zero, List.set_cons_succ]
      refine anyE_take 21 (v := ?_) rfl (by kernel_rfl) (by kernel_rfl) (by kernel_rfl) (by kernel_rfl) (fun _ _ _ h => h) hS (Or.inl ⟨by rfl, ?_⟩) ?_
      rotate_left
      · intro w' hS'
        obtain ⟨e1, e2, e3, e4, e5, e6⟩ := hS'
        go_simp
        try with_reducible rfl
      try simp only [List.getElem_toArray, List.getElem_cons_succ, List.getElem_cons_zero, Act.put, List.setIfInBounds_toArray, List.set_cons_zero, List.set_cons_succ]
      refine anyE_take 22 (v := ?_) rfl (by kernel_rfl) (by kernel_rfl) (by kernel_rfl) (by kernel_rfl) (fun _ _ _ h => h) hS (Or.inl ⟨by rfl, ?_⟩) ?_
      rotate_left
      · intro w' hS'
        obtain ⟨e1, e2, e3, e4, e5, e6⟩ := hS'
        go_simp
        try with_reducible rfl
      try simp only [List.getElem_toArray, List.getElem_cons_succ, List.getElem_cons_zero, Act.put, List.setIfInBounds_toArray, List.set_cons_zero, List.set_cons_succ]
      refine anyE_take 23 (v := ?_) rfl (by kernel_rfl) (by kernel_rfl) (by kernel_rfl) (by kernel_rfl) (fun _ _ _ h => h) hS (Or.inl ⟨by rfl, ?_⟩) ?_
      rotate_left
      · intro w' hS'
        obtain ⟨e1, e2, e3, e4, e5, e6⟩ := hS'
        go_simp
        try with_reducible rfl
      try simp only [List.getElem_toArray, List.getElem_cons_succ, List.getElem_cons_zero, Act.put, List.setIfInBounds_toArray, List.set_cons_zero, List.set_cons_succ]
      refine anyE_take 24 (v := ?_) rfl (by kernel_rfl) (by kernel_rfl) (by kernel_rfl) (by kernel_rfl) (fun _ _ _ h => h) hS (Or.inl ⟨by rfl, ?_⟩) ?_
      rotate_left
      · intro w' hS'
        obtain ⟨e1, e2, e3, e4, e5, e6⟩ := hS'
        go_simp
        try with_reducible rfl
      try simp only [List.getElem_toArray, List.getElem_cons_succ, List.getElem_cons_zero, Act.put, List.setIfInBounds_toArray, List.set_cons_zero, List.set_cons_succ]
      refine anyE_take 25 (v := ?_) rfl (by kernel_rfl) (by kernel_rfl) (by kernel_rfl) (by kernel_rfl) (fun _ _ _ h => h) hS (Or.inl ⟨by rfl, ?_⟩) ?_
      rotate_left
      · intro w' hS'
        obtain ⟨e1, e2, e3, e4, e5, e6⟩ := hS'
        go_simp
        try with_reducible rfl
      try simp only [List.getElem_toArray, List.getElem_cons_succ, List.getElem_cons_zero, Act.put, List.setIfInBounds_toArray, List.set_cons_zero, List.set_cons_succ]
      refine anyE_take 26 (v := ?_) rfl (by kernel_rfl) (by kernel_rfl) (by kernel_rfl) (by kernel_rfl) (fun _ _ _ h => h) hS (Or.inl ⟨by rfl, ?_⟩) ?_
      rotate_left
      · intro w' hS'
        obtain ⟨e1, e2, e3, e4, e5, e6⟩ := hS'
        go_simp
        try with_reducible rfl
      try simp only [List.getElem_toArray, List.getElem_cons_succ, List.getElem_cons_zero, Act.put, List.setIfInBounds_toArray, List.set_cons_zero, List.set_cons_succ]
      have hal := alloc_below wr.drew (.cells #[.string ⟨nm.toArray⟩, .slice dva dvn dvc, .int .i64 at_, .int .i64 size] SyT)
      have hSA : (wr.drew.alloc (.cells #[.string ⟨nm.toArray⟩, .slice dva dvn dvc, .int .i64 at_, .int .i64 size] SyT)).cell? ⟨w.heap.size, 0, none⟩ = some (.slice (some ⟨sb, so, none⟩) n sc) ∧ (wr.drew.alloc (.cells #[.string ⟨nm.toArray⟩, .slice dva dvn dvc, .int .i64 at_, .int .i64 size] SyT)).cell? ⟨w.heap.size + 2, 0, none⟩ = some (.slice xa xn xc) ∧ (wr.drew.alloc (.cells #[.string ⟨nm.toArray⟩, .slice dva dvn dvc, .int .i64 at_, .int .i64 size] SyT)).cell? ⟨sb, so + i * 4, none⟩ = some (.string ⟨nm.toArray⟩) ∧ (wr.drew.alloc (.cells #[.string ⟨nm.toArray⟩, .slice dva dvn dvc, .int .i64 at_, .int .i64 size] SyT)).cell? ⟨sb, so + i * 4 + 1, none⟩ = some (.slice dva dvn dvc) ∧ (wr.drew.alloc (.cells #[.string ⟨nm.toArray⟩, .slice dva dvn dvc, .int .i64 at_, .int .i64 size] SyT)).cell? ⟨sb, so + i * 4 + 2, none⟩ = some (.int .i64 at_) ∧ (wr.drew.alloc (.cells #[.string ⟨nm.toArray⟩, .slice dva dvn dvc, .int .i64 at_, .int .i64 size] SyT)).cell? ⟨sb, so + i * 4 + 3, none⟩ = some (.int .i64 size) := ⟨(hal.cell (p := ⟨w.heap.size, 0, none⟩) (cell_lt hS.1)).trans hS.1, (hal.cell (p := ⟨w.heap.size + 2, 0, none⟩) (cell_lt hS.2.1)).trans hS.2.1, (hal.cell (p := ⟨sb, so + i * 4, none⟩) (cell_lt hS.2.2.1)).trans hS.2.2.1, (hal.cell (p := ⟨sb, so + i * 4 + 1, none⟩) (cell_lt hS.2.2.2.1)).trans hS.2.2.2.1, (hal.cell (p := ⟨sb, so + i * 4 + 2, none⟩) (cell_lt hS.2.2.2.2.1)).trans hS.2.2.2.2.1, (hal.cell (p := ⟨sb, so + i * 4 + 3, none⟩) (cell_lt hS.2.2.2.2.2)).trans hS.2.2.2.2.2⟩
      have HSA := hide hSA
      clear hSA hal hS
      refine anyE_ready [27] (by kernel_rfl) (by simp) (ReadyE.cons rfl (fun K' hK => ?_) ReadyE.nil)
      go_simp
      refine hK _ _ (fun _ => unhide HSA) ?_
      clear hK K'
      try simp only [List.getElem_toArray, List.getElem_cons_succ, List.getElem_cons_zero, Act.put, List.setIfInBounds_toArray, List.set_cons_zero, List.set_cons_succ]
      refine anyE_ready [28] (by kernel_rfl) (by simp) (ReadyE.cons rfl (fun K' hK => ?_) ReadyE.nil)
      refine step_append_runS PSys rfl _ _ rfl rfl _ _ rfl rfl _ _ (unhide HR2) ?_
      refine hK _ _ (fun _ => unhide HS9) ?_
      clear hK K'
      try simp only [List.getElem_toArray, List.getElem_cons_succ, List.getElem_cons_zero, Act.put, List.setIfInBounds_toArray, List.set_cons_zero, List.set_cons_succ]
      refine anyE_ready [29] (by kernel_rfl) (by simp) (ReadyE.cons rfl (fun K' hK => ?_) ReadyE.nil)
      go_simp
      refine hK _ _ (fun h => absurd h (by decide)) ?_
      clear hK K'
      try simp only [List.getElem_toArray, List.getElem_cons_succ, List.getElem_cons_zero, Act.put, List.setIfInBounds_toArray, List.set_cons_zero, List.set_cons_succ]
      refine anyE_ready [30] (by kernel_rfl) (by simp) (ReadyE.cons rfl (fun K' hK => ?_) ReadyE.nil)
      go_simp
      refine hK _ _ (fun h => absurd h (by decide)) ?_
      clear hK K'
      try simp only [List.getElem_toArray, List.getElem_cons_succ, List.getElem_cons_zero, Act.put, List.setIfInBounds_toArray, List.set_cons_zero, List.set_cons_succ]
      refine anyE_done (by kernel_rfl) ?_ _
      clear HS9 HSA HR2
      go_wp2_with fail
      go_roundw
      case rel => exact ⟨i + 1, _, by omega, by go_num, HSTP⟩
      case measure => simp [intOf]; omega
    · obtain rfl : i = n := by omega
      have hxl : ∃ a cc, xv = .slice a i cc := by
        obtain ⟨a, cc, h⟩ := hrow.shape
        rw [List.length_take, Nat.min_eq_left (by have := unhide HLN; omega)] at h
        exact ⟨a, cc, h⟩
      obtain ⟨xa, xc, rfl⟩ := hxl
      have HRW := hide hrow
      have HOD := hide hold
      clear hrow hold
      go_wp2_with fail
      refine bodyPost_ret (v := .agg #[.slice xa i xc, .int .i64 c]) (by simp [results, Tryd.results12, go_sem, r0, r1]) rfl ⟨_, rfl, ?_, ((unhide HOD).setCell (p := ⟨w.heap.size + 1, 0, none⟩) (Nat.le_succ _) _).setCell (p := ⟨w.heap.size + 1, 1, none⟩) (Nat.le_succ _) _⟩
      have hb9 : Below w.heap.size w ((wr.setCell ⟨w.heap.size + 1, 0, none⟩ (.slice xa i xc)).setCell ⟨w.heap.size + 1, 1, none⟩ (.int .i64 c)) := ((unhide HOD).setCell (p := ⟨w.heap.size + 1, 0, none⟩) (Nat.le_succ _) _).setCell (p := ⟨w.heap.size + 1, 1, none⟩) (Nat.le_succ _) _
      have hrw := unhide HRW
      rw [List.take_of_length_le (by rw [unhide HLN]; exact Nat.le_refl _)] at hrw
      have hr : OwnSy SyT (w.heap.size + 3) ((wr.setCell ⟨w.heap.size + 1, 0, none⟩ (.slice xa i xc)).setCell ⟨w.heap.size + 1, 1, none⟩ (.int .i64 c)) (.slice xa i xc) L := own_keep hrw (fun k hk => set2_other _ _ _ _ (by have := (hrw.lt k hk).1; omega))
      have := hr.syms (fun p hp => (unhide H2 p hp).below hb9)
      rw [unhide H1] at this
      exact this
end Go.Proofs.YtomnbidppkpfiaaDoor.Line
