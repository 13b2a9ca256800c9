/- The contract of the project's reader: nest; what is open, one more.
   The contract of the project's reader: nest. -/
import Derived.Test.YtepnafnljfjeoaaGreatDoorRdMemA
import Derived.Deep.RegionLaw
namespace Go.Proofs.YtepnafnljfjeoaaGreatDoor.Line
open Go.ChangeShapes Go.WideShapes Go.ChangeAt Go.RowKit
open Ex (E St)
set_option linter.unusedVariables false

/-- one more is open -/
theorem Rd.pushed {w wf : World} {base rb : Nat} {X : Nat → Prop} {L : Value} {pos d pos' d' m : Nat} {v v' : Value} {K ps : List (E × Value)} {hi : Nat} {y : E × Value} (h : Rd w base rb X L pos d v K hi)
    (hs : w.heap.size ≤ wf.heap.size) (hb : ∀ b, b < w.heap.size → b ≠ rb → some b ≠ v.ownBlock → wf.heap[b]? = w.heap[b]?) (hrow : wf.ownsRow base PET 4 v' (K.length + 1) (flatF K.reverse ++ treeC y)) (hat : v'.ownBlock = v.ownBlock ∨ ∃ k, w.heap.size ≤ k ∧ v'.ownBlock = some k)
    (e0 : wf.cell? ⟨rb, 0, none⟩ = some L) (e1 : wf.cell? ⟨rb, 1, none⟩ = some (.int .i64 pos')) (e2 : wf.cell? ⟨rb, 2, none⟩ = some v') (e3 : wf.cell? ⟨rb, 3, none⟩ = some (.int .i64 d')) (ef : ∀ o, wf.frozen? ⟨rb, o, none⟩ = false)
    (hm : hi ≤ m) (hmw : m ≤ wf.heap.size) (ha : y.1.a = ps.map (·.1)) (hp : OwnF PET m wf (fun b => m ≤ b ∧ b < wf.heap.size ∧ ¬ (some b = v'.ownBlock ∨ X b)) y.2 ps) (hyb : ∀ k, y.2.ownBlock = some k → ¬ (some k = v'.ownBlock ∨ X k)) (hd : d' = cnt (y :: K)) (hk : K.length + 1 ≤ pos') (hal : y.1.a.length ≤ 3) :
    Rd wf base rb X L pos' d' v' (y :: K) wf.heap.size := by
  have hne : ∀ b, base ≤ b → b ≠ rb := fun b hb' e => by have := h.lt; omega
  have hhi := h.hi_le
  have hbs := h.bs
  refine ⟨e0, e1, e2, e3, ef, h.lt, by omega, by rw [List.length_cons, flatF_last]; exact hrow, fun k hk' => ?_, ?_, Nat.le_refl _, fun b hx => by have := h.xl b hx; omega, hd, by rw [List.length_cons]; exact hk, fun z hz => ?_⟩
  · rcases hat with e | ⟨k2, h2, e⟩
    · exact h.gx k (by rw [← e]; exact hk')
    · rw [hk'] at e
      injection e with e
      intro hx
      have := h.xl k hx
      omega
  · refine .cons y ps K m _ (h.stk.keep (fun b h1 h2 h3 => hb b (by omega) (hne b h1) (fun e => h3 (.inl e))) (fun b h1 h2 h3 h4 => ?_) hm) hmw ha hp (fun k hk' => ⟨(hp.row.lt k hk').2, hyb k hk'⟩)
    rcases h4 with h4 | h4
    · rcases hat with e | ⟨k2, h5, e⟩
      · exact h3 (.inl (h4.trans e))
      · rw [e] at h4
        injection h4 with h4
        omega
    · exact h3 (.inr h4)
  · rcases List.mem_cons.1 hz with rfl | hz
    · exact hal
    · exact h.al z hz
theorem step_append_runP {ops : Array Oper} {o : Oper} {a : Act} {w : World} {K : Act → World → Prop} {Q : Exit → Act → World → Prop} {P : Prop} (hgd : o.guard = none) (s x : Operand)
    (ho : o.op = .call { callee := .builtin .append, args := #[s, x], argTypes := #[PES, PES] }) (hty : o.type = PES) (sv xv : Value) (hs : a.eval s = sv) (hx : a.eval x = xv) (v' : Value) (w' : World)
    (hr : (Builtin.append_ #[PES, PES] PES #[sv, xv]).run Tryz.prog w = .ok v' w') (h : K (a.put o.dst v') w') : if Region.wanted o (yielded ops a.tmps) = true then Oper.wp Tryz.prog o a w K Q else P := by
  have hw : Region.wanted o (yielded ops a.tmps) = true := by simp [Region.wanted, hgd]
  rw [if_pos hw]
  unfold Oper.wp execOp
  simp only [ho, hty, resolve, invoke, builtin, Sem.run_bind, Sem.run_pure, Result.andThen_ok, List.map_toArray, List.map_cons, List.map_nil, hs, hx, hr]
  exact h
abbrev zeroL : List Value := [.int .i64 0, .int .i64 0, .string ⟨#[]⟩, .slice none 0 0]
/-- a place more at the row's end, nothing in it yet -/
theorem room_mem {W : World} {base z : Nat} {v : Value} {n : Nat} {xs : List Value} (h : W.ownsRow base PET 4 v n xs) (hz : W.heap[z]? = some (.cells zeroE PET (0, 0))) (hb : base ≤ W.heap.size) (hn : n ≤ 1000001) :
    ∃ g9 c9 w9, (Builtin.append_ #[PES, PES] PES #[v, .slice (some ⟨z, 0, none⟩) 1 1]).run Tryz.prog W = .ok (.slice (some ⟨g9, 0, none⟩) (n + 1) c9) w9 ∧
      w9.ownsRow base PET 4 (.slice (some ⟨g9, 0, none⟩) (n + 1) c9) (n + 1) (xs ++ zeroL) ∧ W.grownBy w9 v.ownBlock ∧ (some g9 = v.ownBlock ∨ g9 = W.heap.size) := by
  obtain ⟨i0, hi, hz0, hz1, hz2⟩ := info_parts infoPE
  obtain ⟨v', w', hr, ho, hgr, hnil, hat⟩ := run_append_own_at (P := Tryz.prog) W base PES PES PET i0 _ 4 56 Tryz.underlying22 hi hz0 hz1 hz2 rfl (by decide) v n xs h ⟨z, 0, none⟩ 1 1 zeroL rfl
    (World.news_of_block (cs := zeroE) (t := PET) (fr := (0, 0)) hz)
    (by intro u hu; simp only [zeroL, List.mem_cons, List.not_mem_nil, or_false] at hu; rcases hu with rfl | rfl | rfl | rfl <;> rfl) (by unfold maxLen; omega) (by omega) hb
  rcases ho.2 with ⟨rfl, h5⟩ | ⟨g, cap, cur, rfl, _⟩
  · exact absurd h5 (Nat.succ_ne_zero n)
  · refine ⟨g, cap, w', hr, ho, hgr, ?_⟩
    rcases hat with e | e
    · exact .inl e
    · exact .inr (Option.some.inj (show some g = some _ from e))
theorem set_tree (xs : List Value) (n : Nat) (hx : xs.length = n * 4) (y : E) (yv : Value) : ((((xs ++ ([.int .i64 0, .int .i64 0, .string ⟨#[]⟩, .slice none 0 0] : List Value)).set (n * 4) (.int .i64 y.kind)).set (n * 4 + 1) (.int .i64 y.n)).set (n * 4 + 2) (.string ⟨y.name.toArray⟩)).set (n * 4 + 3) yv = xs ++ treeC (y, yv) := by
  rw [← hx]
  simp [treeC]
theorem ownsRow_set4 {w : World} {base g n cap : Nat} {xs : List Value} (h : w.ownsRow base PET 4 (.slice (some ⟨g, 0, none⟩) (n + 1) cap) (n + 1) (xs ++ zeroL)) (hx : xs.length = n * 4) (y : E) (yv : Value) :
    ((((w.setCell ⟨g, n * 4, none⟩ (.int .i64 y.kind)).setCell ⟨g, n * 4 + 1, none⟩ (.int .i64 y.n)).setCell ⟨g, n * 4 + 2, none⟩ (.string ⟨y.name.toArray⟩)).setCell ⟨g, n * 4 + 3, none⟩ yv).ownsRow base PET 4 (.slice (some ⟨g, 0, none⟩) (n + 1) cap) (n + 1) (xs ++ treeC (y, yv)) := by
  have := ((((h.stored (n * 4) (.int .i64 y.kind)).1.stored (n * 4 + 1) (.int .i64 y.n)).1.stored (n * 4 + 2) (.string ⟨y.name.toArray⟩)).1.stored (n * 4 + 3) yv).1
  rw [set_tree xs n hx y yv] at this
  exact this
theorem heap_set4o (w : World) (p o0 o1 o2 o3 : Nat) (a b c d : Value) (k : Nat) (h : k ≠ p) : ((((w.setCell ⟨p, o0, none⟩ a).setCell ⟨p, o1, none⟩ b).setCell ⟨p, o2, none⟩ c).setCell ⟨p, o3, none⟩ d).heap[k]? = w.heap[k]? := by
  rw [Below.heap_setCell _ _ _ _ (show k ≠ p from h), Below.heap_setCell _ _ _ _ (show k ≠ p from h), Below.heap_setCell _ _ _ _ (show k ≠ p from h), Below.heap_setCell _ _ _ _ (show k ≠ p from h)]
theorem ownsRow_set_other {w : World} {base g n cap m : Nat} {xs : List Value} (h : w.ownsRow base PET 4 (.slice (some ⟨g, 0, none⟩) n cap) n xs) (p : Addr) (hp : ¬ p.block = g) (u : Value) : (w.setCell p u).ownsRow base PET 4 (.slice (some ⟨g, 0, none⟩) n cap) n xs :=
  h.kept (row := some p.block) ⟨rfl, rfl, rfl, by simp [World.setCell], fun b hb hne => Below.heap_setCell _ _ _ _ (fun e => hne (by rw [e]))⟩ (.inr (fun e => hp (by have e : some g = some p.block := e; exact (Option.some.inj e).symm)))
theorem rb_set {W4 : World} {rb : Nat} {a b c d u : Value} (p0 : W4.cell? ⟨rb, 0, none⟩ = some a) (p1 : W4.cell? ⟨rb, 1, none⟩ = some b) (p2 : W4.cell? ⟨rb, 2, none⟩ = some c) (p3 : W4.cell? ⟨rb, 3, none⟩ = some d) :
    (W4.setCell ⟨rb, 2, none⟩ u).cell? ⟨rb, 0, none⟩ = some a ∧ (W4.setCell ⟨rb, 2, none⟩ u).cell? ⟨rb, 1, none⟩ = some b ∧ (W4.setCell ⟨rb, 2, none⟩ u).cell? ⟨rb, 2, none⟩ = some u ∧ (W4.setCell ⟨rb, 2, none⟩ u).cell? ⟨rb, 3, none⟩ = some d :=
  ⟨by simp [go_sem, p0], by simp [go_sem, p1], by simp [go_sem, p2], by simp [go_sem, p3]⟩
theorem rb_set_fr {W4 : World} {rb : Nat} {u : Value} (pf : ∀ o, W4.frozen? ⟨rb, o, none⟩ = false) : ∀ o, (W4.setCell ⟨rb, 2, none⟩ u).frozen? ⟨rb, o, none⟩ = false := fun o => by simp [go_sem, pf o]
theorem size_set4o (w : World) (p o0 o1 o2 o3 : Nat) (a b c d : Value) : ((((w.setCell ⟨p, o0, none⟩ a).setCell ⟨p, o1, none⟩ b).setCell ⟨p, o2, none⟩ c).setCell ⟨p, o3, none⟩ d).heap.size = w.heap.size := by simp [World.setCell]
theorem size_set1 (w : World) (p : Addr) (a : Value) : (w.setCell p a).heap.size = w.heap.size := by simp [World.setCell]
set_option maxHeartbeats 2000000 in
/-- the row has got one more: in whichever order it is stored -/
theorem push_mem {w W : World} {base rb z : Nat} {X : Nat → Prop} {L : Value} {pos d pos' d' m : Nat} {v : Value} {K ps : List (E × Value)} {hi : Nat} {y : E} {yv : Value} (h : Rd w base rb X L pos d v K hi)
    (u1 : W.os = w.os) (u2 : W.tape = w.tape) (u3 : W.output = w.output) (hs : w.heap.size ≤ W.heap.size) (hb : ∀ b, b < w.heap.size → b ≠ rb → W.heap[b]? = w.heap[b]?) (hz : W.heap[z]? = some (.cells zeroE PET (0, 0)))
    (e0 : W.cell? ⟨rb, 0, none⟩ = some L) (e1 : W.cell? ⟨rb, 1, none⟩ = some (.int .i64 pos')) (e2 : W.cell? ⟨rb, 2, none⟩ = some v) (e3 : W.cell? ⟨rb, 3, none⟩ = some (.int .i64 d')) (ef : ∀ o, W.frozen? ⟨rb, o, none⟩ = false)
    (hm : hi ≤ m) (hmw : m ≤ W.heap.size) (ha : y.a = ps.map (·.1)) (hp : OwnF PET m W (fun b => m ≤ b ∧ b < W.heap.size ∧ ¬ (some b = v.ownBlock ∨ X b)) yv ps) (hyb : ∀ k, yv.ownBlock = some k → ¬ (some k = v.ownBlock ∨ X k)) (hd : d' = cnt ((y, yv) :: K)) (hk : K.length + 1 ≤ pos') (hal : y.a.length ≤ 3) (hp1 : pos ≤ 1000001) :
    ∃ g9 c9 w9, (Builtin.append_ #[PES, PES] PES #[v, .slice (some ⟨z, 0, none⟩) 1 1]).run Tryz.prog W = .ok (.slice (some ⟨g9, 0, none⟩) (K.length + 1) c9) w9 ∧ ¬ rb = g9 ∧ ¬ g9 = rb ∧ w9.cell? ⟨rb, 2, none⟩ = some v ∧ w9.frozen? ⟨rb, 2, none⟩ = false ∧
      (w9.cell? ⟨g9, K.length * 4, none⟩ = some (.int .i64 0) ∧ w9.cell? ⟨g9, K.length * 4 + 1, none⟩ = some (.int .i64 0) ∧ w9.cell? ⟨g9, K.length * 4 + 2, none⟩ = some (.string ⟨#[]⟩) ∧ w9.cell? ⟨g9, K.length * 4 + 3, none⟩ = some (.slice none 0 0)) ∧ (∀ o, w9.frozen? ⟨g9, o, none⟩ = false) ∧
      (∀ Wf, (Wf = (((((w9.setCell ⟨g9, K.length * 4, none⟩ (.int .i64 y.kind)).setCell ⟨g9, K.length * 4 + 1, none⟩ (.int .i64 y.n)).setCell ⟨g9, K.length * 4 + 2, none⟩ (.string ⟨y.name.toArray⟩)).setCell ⟨g9, K.length * 4 + 3, none⟩ yv).setCell ⟨rb, 2, none⟩ (.slice (some ⟨g9, 0, none⟩) (K.length + 1) c9)) ∨
        Wf = (((((w9.setCell ⟨rb, 2, none⟩ (.slice (some ⟨g9, 0, none⟩) (K.length + 1) c9)).setCell ⟨g9, K.length * 4, none⟩ (.int .i64 y.kind)).setCell ⟨g9, K.length * 4 + 1, none⟩ (.int .i64 y.n)).setCell ⟨g9, K.length * 4 + 2, none⟩ (.string ⟨y.name.toArray⟩)).setCell ⟨g9, K.length * 4 + 3, none⟩ yv)) →
        Rd Wf base rb X L pos' d' (.slice (some ⟨g9, 0, none⟩) (K.length + 1) c9) ((y, yv) :: K) Wf.heap.size ∧ Kept rb base X w Wf ∧ (∀ b, b < W.heap.size → b ≠ rb → some b ≠ v.ownBlock → Wf.heap[b]? = W.heap[b]?) ∧ W.heap.size ≤ Wf.heap.size) := by
  have hrow := h.row
  have hlt := h.lt
  have hbs := h.bs
  have hxl := h.xl
  have hkl := h.kl
  have hrowW : W.ownsRow base PET 4 v K.length (flatF K.reverse) := by
    refine ⟨hrow.1, ?_⟩
    rcases hrow.2 with h2 | ⟨g, cap, cur, hv, hg, hh, r⟩
    · exact .inl h2
    · refine .inr ⟨g, cap, cur, hv, hg, ?_, r⟩
      have hgl := (hrow.lt g (by rw [hv]; rfl)).2
      rw [hb g hgl (by omega)]
      exact hh
  obtain ⟨g9, c9, w9, hr9, ho9, hg9, hat9⟩ := room_mem hrowW hz (by omega) (by omega)
  have hvl : ∀ k, v.ownBlock = some k → base ≤ k ∧ k < w.heap.size := fun k hk => hrow.lt k hk
  have hne9 : ¬ rb = g9 := fun e => by have := (ho9.lt g9 rfl).1; omega
  have hrr : w9.heap[rb]? = W.heap[rb]? := hg9.block rb (by omega) (fun e => by have := (hvl rb e.symm).1; omega)
  have hcc : ∀ o, w9.cell? ⟨rb, o, none⟩ = W.cell? ⟨rb, o, none⟩ := fun o => World.cell?_of_block (a := ⟨rb, o, none⟩) hrr
  have hff : ∀ o, w9.frozen? ⟨rb, o, none⟩ = false := fun o => (World.frozen?_of_block (a := ⟨rb, o, none⟩) hrr).trans (ef o)
  have hn4 : (flatF K.reverse).length = K.length * 4 := by rw [flatF_length, List.length_reverse]
  have hcell : ∀ j, j < 4 → w9.cell? ⟨g9, K.length * 4 + j, none⟩ = zeroL[j]? := fun j hj => by
    rw [World.ownsRow.cellAt ho9 _ (by omega), List.getElem?_append_right (by omega), hn4, Nat.add_sub_cancel_left]
  refine ⟨g9, c9, w9, hr9, hne9, fun e => hne9 e.symm, (hcc 2).trans e2, hff 2, ⟨hcell 0 (by omega), hcell 1 (by omega), hcell 2 (by omega), hcell 3 (by omega)⟩, fun o => World.ownsRow.frozenAt ho9 o, ?_⟩
  intro Wf hWf
  have main : Wf.os = w9.os ∧ Wf.tape = w9.tape ∧ Wf.output = w9.output ∧ Wf.heap.size = w9.heap.size ∧ (∀ b, b ≠ rb → b ≠ g9 → Wf.heap[b]? = w9.heap[b]?) ∧ Wf.ownsRow base PET 4 (.slice (some ⟨g9, 0, none⟩) (K.length + 1) c9) (K.length + 1) (flatF K.reverse ++ treeC (y, yv)) ∧ (Wf.cell? ⟨rb, 0, none⟩ = some L ∧ Wf.cell? ⟨rb, 1, none⟩ = some (.int .i64 pos') ∧ Wf.cell? ⟨rb, 2, none⟩ = some (.slice (some ⟨g9, 0, none⟩) (K.length + 1) c9) ∧ Wf.cell? ⟨rb, 3, none⟩ = some (.int .i64 d')) ∧ (∀ o, Wf.frozen? ⟨rb, o, none⟩ = false) := by
    have k0 := (hcc 0).trans e0
    have k1 := (hcc 1).trans e1
    have k2 := (hcc 2).trans e2
    have k3 := (hcc 3).trans e3
    have hne9' : ¬ g9 = rb := fun e => hne9 e.symm
    rcases hWf with rfl | rfl
    · have hc4 : ∀ o, ((((w9.setCell ⟨g9, K.length * 4, none⟩ (.int .i64 y.kind)).setCell ⟨g9, K.length * 4 + 1, none⟩ (.int .i64 y.n)).setCell ⟨g9, K.length * 4 + 2, none⟩ (.string ⟨y.name.toArray⟩)).setCell ⟨g9, K.length * 4 + 3, none⟩ yv).cell? ⟨rb, o, none⟩ = w9.cell? ⟨rb, o, none⟩ := fun o => World.cell?_of_block (a := ⟨rb, o, none⟩) (heap_set4o _ _ _ _ _ _ _ _ _ _ _ hne9)
      have hf4 : ∀ o, ((((w9.setCell ⟨g9, K.length * 4, none⟩ (.int .i64 y.kind)).setCell ⟨g9, K.length * 4 + 1, none⟩ (.int .i64 y.n)).setCell ⟨g9, K.length * 4 + 2, none⟩ (.string ⟨y.name.toArray⟩)).setCell ⟨g9, K.length * 4 + 3, none⟩ yv).frozen? ⟨rb, o, none⟩ = false := fun o => (World.frozen?_of_block (a := ⟨rb, o, none⟩) (heap_set4o _ _ _ _ _ _ _ _ _ _ _ hne9)).trans (hff o)
      have hrow4 := ownsRow_set4 ho9 hn4 y yv
      have hb4 : ∀ b, b ≠ g9 → ((((w9.setCell ⟨g9, K.length * 4, none⟩ (.int .i64 y.kind)).setCell ⟨g9, K.length * 4 + 1, none⟩ (.int .i64 y.n)).setCell ⟨g9, K.length * 4 + 2, none⟩ (.string ⟨y.name.toArray⟩)).setCell ⟨g9, K.length * 4 + 3, none⟩ yv).heap[b]? = w9.heap[b]? := fun b hb => heap_set4o _ _ _ _ _ _ _ _ _ _ _ hb
      refine ⟨rfl, rfl, rfl, (size_set1 _ _ _).trans (size_set4o _ _ _ _ _ _ _ _ _ _), fun b h1 h2 => (Below.heap_setCell _ _ _ _ (show b ≠ rb from h1)).trans (hb4 b h2), ownsRow_set_other (m := 0) hrow4 ⟨rb, 2, none⟩ hne9 _, rb_set ((hc4 0).trans k0) ((hc4 1).trans k1) ((hc4 2).trans k2) ((hc4 3).trans k3), rb_set_fr hf4⟩
    · obtain ⟨p0, p1, p2, p3⟩ := rb_set (u := .slice (some ⟨g9, 0, none⟩) (K.length + 1) c9) k0 k1 k2 k3
      have pf := rb_set_fr (u := .slice (some ⟨g9, 0, none⟩) (K.length + 1) c9) hff
      have hro := ownsRow_set_other (m := 0) ho9 ⟨rb, 2, none⟩ hne9 (.slice (some ⟨g9, 0, none⟩) (K.length + 1) c9)
      have hbo : ∀ b, b ≠ rb → (w9.setCell ⟨rb, 2, none⟩ (.slice (some ⟨g9, 0, none⟩) (K.length + 1) c9)).heap[b]? = w9.heap[b]? := fun b h1 => Below.heap_setCell _ _ _ _ (show b ≠ rb from h1)
      refine ⟨rfl, rfl, rfl, (size_set4o _ _ _ _ _ _ _ _ _ _).trans (size_set1 _ _ _), fun b h1 h2 => (heap_set4o _ _ _ _ _ _ _ _ _ _ _ h2).trans (hbo b h1), ownsRow_set4 hro hn4 y yv, ?_, ?_⟩
      · have hc4 : ∀ o, (((((w9.setCell ⟨rb, 2, none⟩ (.slice (some ⟨g9, 0, none⟩) (K.length + 1) c9)).setCell ⟨g9, K.length * 4, none⟩ (.int .i64 y.kind)).setCell ⟨g9, K.length * 4 + 1, none⟩ (.int .i64 y.n)).setCell ⟨g9, K.length * 4 + 2, none⟩ (.string ⟨y.name.toArray⟩)).setCell ⟨g9, K.length * 4 + 3, none⟩ yv).cell? ⟨rb, o, none⟩ = (w9.setCell ⟨rb, 2, none⟩ (.slice (some ⟨g9, 0, none⟩) (K.length + 1) c9)).cell? ⟨rb, o, none⟩ := fun o => World.cell?_of_block (a := ⟨rb, o, none⟩) (heap_set4o _ _ _ _ _ _ _ _ _ _ _ hne9)
        exact ⟨(hc4 0).trans p0, (hc4 1).trans p1, (hc4 2).trans p2, (hc4 3).trans p3⟩
      · exact fun o => (World.frozen?_of_block (a := ⟨rb, o, none⟩) (heap_set4o _ _ _ _ _ _ _ _ _ _ _ hne9)).trans (pf o)
  clear hWf
  obtain ⟨f1, f2, f3, fs, fb, frow, ⟨q0, q1, q2, q3⟩, qf⟩ := main
  have hsz9 := hg9.size
  have hnew : ∀ b, b < W.heap.size → some b ≠ v.ownBlock → ¬ b = g9 := fun b hb hne e => by
    rcases hat9 with e2 | e2
    · exact hne (by rw [e, e2])
    · omega
  have hWb : ∀ b, b < W.heap.size → b ≠ rb → some b ≠ v.ownBlock → Wf.heap[b]? = W.heap[b]? := fun b hb h1 h2 => (fb b h1 (hnew b hb h2)).trans (hg9.block b hb h2)
  have hX9 : ∀ b, ¬ (some b = v.ownBlock ∨ X b) → b < W.heap.size → ¬ (some b = Value.ownBlock (.slice (some ⟨g9, 0, none⟩) (K.length + 1) c9) ∨ X b) := fun b h1 h2 h3 => by
    rcases h3 with h3 | h3
    · exact hnew b h2 (fun e => h1 (.inl e)) (Option.some.inj (show some b = some g9 from h3))
    · exact h1 (.inr h3)
  refine ⟨h.pushed (by omega) (fun b hb1 hb2 hb3 => (hWb b (by omega) hb2 hb3).trans (hb b hb1 hb2)) frow ?_ q0 q1 q2 q3 qf hm (by omega) ha (hp.keep (fun k hk' => ?_) (fun b hs hl => ?_) (fun b hs hl => ⟨hs.1, by omega, hX9 b hs.2.2 hs.2.1⟩)) (fun k hk' => ?_) hd hk hal, ?_, hWb, by omega⟩
  · rcases hat9 with e | e
    · exact .inl e
    · exact .inr ⟨g9, by omega, rfl⟩
  · have h5 := hp.row.lt k hk'
    exact hWb k h5.2 (by have := h.stk.le; omega) (fun e => hyb k hk' (.inl e))
  · exact hWb b hl (by have := h.stk.le; omega) (fun e => hs.2.2 (.inl e))
  · exact hX9 k (hyb k hk') (hp.row.lt k hk').2
  · refine ⟨f1.trans (hg9.os.trans u1), f2.trans (hg9.tape.trans u2), f3.trans (hg9.output.trans u3), by omega, fun b hb1 hb2 hb3 => (hWb b (by omega) hb2 (fun e => ?_)).trans (hb b hb1 hb2)⟩
    have h5 := hvl b e.symm
    rcases hb3 with h6 | h6
    · omega
    · exact h.gx b e.symm h6
end Go.Proofs.YtepnafnljfjeoaaGreatDoor.Line

namespace Go.Proofs.YtepnafnljfjeoaaGreatDoor.Line
open Go.ChangeShapes Go.WideShapes Go.ChangeAt Go.RowKit
open Ex (E St)
set_option linter.unusedVariables false

theorem ownF_nil' (t : TypeId) (base : Nat) (w : World) (S : Nat → Prop) : OwnF t base w S (.slice none 0 0) [] := OwnF.nil _ _ _ _
theorem heap_drew (w : World) (b : Nat) : w.drew.heap[b]? = w.heap[b]? := rfl
theorem size_drew (w : World) : w.drew.heap.size = w.heap.size := rfl
theorem alloc_new (w : World) (a : Array Value) (t : TypeId) : (w.alloc (.cells a t)).heap[w.heap.size]? = some (.cells a t (0, 0)) := heap_alloc_new w _
set_option maxHeartbeats 8000000 in
set_option maxRecDepth 100000 in
theorem nest_any (L : Value) (w : World) (base rb : Nat) (X : Nat → Prop) (pos d : Nat) (v : Value) (K : List (E × Value)) (hi : Nat) (k : Int) (hR : Rd w base rb X L pos d v K hi) (hp1 : pos ≤ 1000000) (hk : k = 0 ∨ k = 4) (hd : d ≤ 20) :
    Calls Tryz.prog 75 #[.pointer (some ⟨rb, 0, none⟩), .int .i64 k] w fun e w' => (d = 20 ∧ e = .returned (.iface 95 (.int .i64 4)) ∧ w' = w) ∨ (d ≠ 20 ∧ e = .returned .nilIface ∧ ∃ v' hi', Rd w' base rb X L (pos + 1) (d + 1) v' ((.mk k 0 [] [], .slice none 0 0) :: K) hi' ∧ Kept rb base X w w') := by
  have HR := hide hR
  have hkl := hR.kl
  have h1 := hR.c1
  have h2 := hR.c2
  have h3 := hR.c3
  have f1 := hR.fr 1
  have f2 := hR.fr 2
  have f3 := hR.fr 3
  have hrl : rb < w.heap.size := by have := hR.lt; have := hR.bs; omega
  by_cases h20 : d = 20
  · subst h20
    have h3' : w.cell? ⟨rb, 3, none⟩ = some (.int .i64 20) := h3
    clear h3 hR
    go_enter Tryz.func75, Tryz.ntmps75
    go_wp2
    go_ret
    exact .inl ⟨trivial, rfl, rfl⟩
  · have q1 : ((d : Int) == 20) = false := by rw [beq_eq_false_iff_ne]; omega
    obtain ⟨va, vc, hv⟩ := hR.shape
    subst hv
    have hUb : ∀ b, b ≠ rb → ((w.setCell ⟨rb, 3, none⟩ (.int .i64 ((d : Int) + 1))).setCell ⟨rb, 1, none⟩ (.int .i64 ((pos : Int) + 1))).drew.heap[b]? = w.heap[b]? := fun b hb => (heap_drew _ b).trans ((Below.heap_setCell _ _ _ _ (show b ≠ rb from hb)).trans (Below.heap_setCell _ _ _ _ (show b ≠ rb from hb)))
    have hUs : ((w.setCell ⟨rb, 3, none⟩ (.int .i64 ((d : Int) + 1))).setCell ⟨rb, 1, none⟩ (.int .i64 ((pos : Int) + 1))).drew.heap.size = w.heap.size := (size_drew _).trans (by simp [World.setCell])
    have hz := alloc_new ((w.setCell ⟨rb, 3, none⟩ (.int .i64 ((d : Int) + 1))).setCell ⟨rb, 1, none⟩ (.int .i64 ((pos : Int) + 1))).drew zeroE PET
    rw [hUs] at hz
    have hA := alloc_below ((w.setCell ⟨rb, 3, none⟩ (.int .i64 ((d : Int) + 1))).setCell ⟨rb, 1, none⟩ (.int .i64 ((pos : Int) + 1))).drew (.cells zeroE PET)
    rw [hUs] at hA
    have hcc : ∀ o, (((w.setCell ⟨rb, 3, none⟩ (.int .i64 ((d : Int) + 1))).setCell ⟨rb, 1, none⟩ (.int .i64 ((pos : Int) + 1))).drew.alloc (.cells zeroE PET)).cell? ⟨rb, o, none⟩ = ((w.setCell ⟨rb, 3, none⟩ (.int .i64 ((d : Int) + 1))).setCell ⟨rb, 1, none⟩ (.int .i64 ((pos : Int) + 1))).cell? ⟨rb, o, none⟩ := fun o => World.cell?_of_block (a := ⟨rb, o, none⟩) ((hA.block rb hrl).trans (heap_drew _ rb))
    have hcf : ∀ o, (((w.setCell ⟨rb, 3, none⟩ (.int .i64 ((d : Int) + 1))).setCell ⟨rb, 1, none⟩ (.int .i64 ((pos : Int) + 1))).drew.alloc (.cells zeroE PET)).frozen? ⟨rb, o, none⟩ = false := fun o => (World.frozen?_of_block (a := ⟨rb, o, none⟩) ((hA.block rb hrl).trans (heap_drew _ rb))).trans (by simp [go_sem, hR.fr o])
    have hcnt : d + 1 = cnt (((.mk k 0 [] [] : E), .slice none 0 0) :: K) := by
      have hc2 : (E.mk k 0 [] []).kind = 0 ∨ (E.mk k 0 [] []).kind = 4 := hk
      simp only [cnt]
      rw [if_pos hc2, hR.dp]
      omega
    obtain ⟨g9, c9, w9, hr9, hne9, hne9', z2, zf, ⟨y0, y1, y2, y3⟩, xf, hfin⟩ := push_mem (W := ((w.setCell ⟨rb, 3, none⟩ (.int .i64 ((d : Int) + 1))).setCell ⟨rb, 1, none⟩ (.int .i64 ((pos : Int) + 1))).drew.alloc (.cells zeroE PET)) (z := w.heap.size) (pos' := pos + 1) (d' := d + 1) (m := hi) (y := .mk k 0 [] []) (yv := .slice none 0 0) (ps := []) hR rfl rfl rfl (by have := hA.size; omega) (fun b hb hne => (hA.block b hb).trans (hUb b hne)) hz ((hcc 0).trans (by simp [go_sem, hR.c0])) ((hcc 1).trans (by simp [go_sem, h1])) ((hcc 2).trans (by simp [go_sem, h2])) ((hcc 3).trans (by simp [go_sem, h3])) hcf (Nat.le_refl _) (by have := hA.size; have := hR.hi_le; omega) rfl (OwnF.nil _ _ _ _) (fun k hk => by cases hk) hcnt (by omega) (by simp [E.a]) (by omega)
    have x0 := xf (K.length * 4)
    have x1 := xf (K.length * 4 + 1)
    have x2 := xf (K.length * 4 + 2)
    have x3 := xf (K.length * 4 + 3)
    have HR9 := hide hr9
    have HFI := hide hfin
    clear hR hfin hr9 xf hcc hcf hA hz hUs hUb hcnt
    generalize hn : K.length = n at *
    have hnn : (n : Int) < n + 1 := by omega
    go_enter Tryz.func75, Tryz.ntmps75
    go_wp2_with fail
    go_region_law (refine step_append_runP rfl _ _ rfl rfl _ _ rfl rfl _ _ (unhide HR9) ?_)
    all_goals (
      go_wp2
      go_ret
      first
        | exact .inr ⟨h20, rfl, _, _, (unhide HFI _ (.inl rfl)).1, (unhide HFI _ (.inl rfl)).2.1⟩
        | exact .inr ⟨h20, rfl, _, _, (unhide HFI _ (.inr rfl)).1, (unhide HFI _ (.inr rfl)).2.1⟩)
end Go.Proofs.YtepnafnljfjeoaaGreatDoor.Line
