/- The project's reader in memory: what is open (Stk), the reader's block (Rd); what keeps them; one less, one more.
   The contracts of the project's reader: signAt, sign, kindOf, compares, binds, operationEnds. -/
import Derived.Test.YtepnafnljfjeoaaGreatDoorExSu
import Derived.Test.YtepnafnljfjeoaaGreatDoorPlainAll
import Derived.BigQuiet
import Derived.Deep.QuietTactic
namespace Go.Proofs.YtepnafnljfjeoaaGreatDoor.Line
open Go.ChangeShapes Go.WideShapes Go.ChangeAt Go.RowKit
open Ex (E St)
set_option linter.unusedVariables false

abbrev PES : TypeId := 22
theorem infoPE : (Tryz.prog.info? PET).map (fun i => (i.zero, i.size, i.bytes)) = some (some (.agg #[.int .i64 0, .int .i64 0, .string ⟨#[]⟩, .slice none 0 0]), 4, 56) := by kernel_rfl
/-- nothing has turned but the reader's block, what the call owns (from base on, outside X), new blocks -/
structure Kept (rb base : Nat) (X : Nat → Prop) (w w' : World) : Prop where
  os : w'.os = w.os
  tape : w'.tape = w.tape
  output : w'.output = w.output
  size : w.heap.size ≤ w'.heap.size
  block : ∀ b, b < w.heap.size → b ≠ rb → (b < base ∨ X b) → w'.heap[b]? = w.heap[b]?
theorem Kept.refl (rb base : Nat) (X : Nat → Prop) (w : World) : Kept rb base X w w := ⟨rfl, rfl, rfl, Nat.le_refl _, fun _ _ _ _ => rfl⟩
theorem Kept.trans {rb base : Nat} {X : Nat → Prop} {a b c : World} (h : Kept rb base X a b) (k : Kept rb base X b c) : Kept rb base X a c := ⟨k.os.trans h.os, k.tape.trans h.tape, k.output.trans h.output, Nat.le_trans h.size k.size, fun i hi hr hx => (k.block i (Nat.lt_of_lt_of_le hi h.size) hr hx).trans (h.block i hi hr hx)⟩
theorem Kept.of {rb base : Nat} {X : Nat → Prop} {w w' : World} (h : Below w.heap.size w w') : Kept rb base X w w' := ⟨h.os, h.tape, h.output, h.size, fun k hk _ _ => h.block k hk⟩
theorem Kept.mono {rb base base' : Nat} {X X' : Nat → Prop} {w w' : World} (h : Kept rb base' X' w w') (hb : ∀ b, b < w.heap.size → (b < base ∨ X b) → (b < base' ∨ X' b)) : Kept rb base X w w' := ⟨h.os, h.tape, h.output, h.size, fun k hk hr hx => h.block k hk hr (hb k hk hx)⟩
/-- a world that parts from another in the reader's block and in such as are the call's own -/
theorem Kept.by {rb base : Nat} {X : Nat → Prop} {w w' w2 : World} (h : Kept rb base X w w') (h1 : w2.os = w'.os) (h2 : w2.tape = w'.tape) (h3 : w2.output = w'.output) (hs : w'.heap.size ≤ w2.heap.size) (hb : ∀ b, b < w.heap.size → b ≠ rb → (b < base ∨ X b) → w2.heap[b]? = w'.heap[b]?) : Kept rb base X w w2 :=
  ⟨h1.trans h.os, h2.trans h.tape, h3.trans h.output, Nat.le_trans h.size hs, fun b hb' hr hx => (hb b hb' hr hx).trans (h.block b hb' hr hx)⟩
theorem Tks.kept {rb base : Nat} {X : Nat → Prop} {w w' : World} {v : Value} {l : List Words.T} (h : Tks w v l) (hb : Kept rb base X w w') (hne : ∀ p, v.ownBlock = some p → p < base ∧ p ≠ rb) : Tks w' v l := by
  rcases h with h | ⟨b, off, cap, rfl, hc, h⟩
  · exact .inl h
  · refine .inr ⟨b, off, cap, rfl, hc, fun i hi => ?_⟩
    obtain ⟨h0, h1, h2, h3⟩ := h i hi
    have hl := cell_lt h0
    obtain ⟨n1, n2⟩ := hne b rfl
    have hh := hb.block b hl n2 (.inl n1)
    exact ⟨(World.cell?_of_block (a := ⟨b, off + i * 4, none⟩) hh).trans h0, (World.cell?_of_block (a := ⟨b, off + i * 4 + 1, none⟩) hh).trans h1, (World.cell?_of_block (a := ⟨b, off + i * 4 + 2, none⟩) hh).trans h2, (World.cell?_of_block (a := ⟨b, off + i * 4 + 3, none⟩) hh).trans h3⟩

/-- what is open, the innermost first: the memory of each lies behind that of those ahead of it -/
inductive Stk (w : World) (X : Nat → Prop) (base : Nat) : List (E × Value) → Nat → Prop
  | nil (hi : Nat) (h : base ≤ hi) : Stk w X base [] hi
  | cons (y : E × Value) (ps l : List (E × Value)) (m hi : Nat) (hl : Stk w X base l m) (hm : m ≤ hi) (ha : y.1.a = ps.map (·.1)) (hp : OwnF PET m w (fun b => m ≤ b ∧ b < hi ∧ ¬ X b) y.2 ps) (hb : ∀ k, y.2.ownBlock = some k → k < hi ∧ ¬ X k) : Stk w X base (y :: l) hi
theorem Stk.le {w : World} {X : Nat → Prop} {base hi : Nat} {K : List (E × Value)} (h : Stk w X base K hi) : base ≤ hi := by
  induction h with
  | nil hi h => exact h
  | cons y ps l m hi hl hm ha hp hb ih => omega
theorem Stk.keep {w w' : World} {X X' : Nat → Prop} {base hi : Nat} {K : List (E × Value)} (h : Stk w X base K hi) : ∀ {hi' : Nat}, (∀ b, base ≤ b → b < hi → ¬ X b → w'.heap[b]? = w.heap[b]?) → (∀ b, base ≤ b → b < hi → ¬ X b → ¬ X' b) → hi ≤ hi' → Stk w' X' base K hi' := by
  induction h with
  | nil hi h => intro hi' _ _ hh; exact .nil _ (by omega)
  | cons y ps l m hi hl hm ha hp hb ih =>
    intro hi' hk hx hh
    have hbm := hl.le
    refine .cons y ps l m hi' (ih (fun b h1 h2 h3 => hk b h1 (by omega) h3) (fun b h1 h2 h3 => hx b h1 (by omega) h3) (Nat.le_refl _)) (by omega) ha (hp.keep (fun k hk' => ?_) (fun b hs _ => hk b (by omega) hs.2.1 hs.2.2) (fun b hs _ => ⟨hs.1, by omega, hx b (by omega) hs.2.1 hs.2.2⟩)) (fun k hk' => ?_)
    · have := hb k hk'
      exact hk k (by have := (hp.row.lt k hk').1; omega) this.1 this.2
    · have := hb k hk'
      exact ⟨by omega, hx k (by have := (hp.row.lt k hk').1; omega) this.1 this.2⟩
def cnt : List (E × Value) → Nat
  | [] => 0
  | y :: l => (if y.1.kind = 0 ∨ y.1.kind = 4 then 1 else 0) + cnt l
/-- the project's reader -/
structure Rd (w : World) (base rb : Nat) (X : Nat → Prop) (L : Value) (pos d : Nat) (v : Value) (K : List (E × Value)) (hi : Nat) : Prop where
  c0 : w.cell? ⟨rb, 0, none⟩ = some L
  c1 : w.cell? ⟨rb, 1, none⟩ = some (.int .i64 pos)
  c2 : w.cell? ⟨rb, 2, none⟩ = some v
  c3 : w.cell? ⟨rb, 3, none⟩ = some (.int .i64 d)
  fr : ∀ o, w.frozen? ⟨rb, o, none⟩ = false
  lt : rb < base
  bs : base ≤ w.heap.size
  row : w.ownsRow base PET 4 v K.length (flatF K.reverse)
  gx : ∀ k, v.ownBlock = some k → ¬ X k
  stk : Stk w (fun b => some b = v.ownBlock ∨ X b) base K hi
  hi_le : hi ≤ w.heap.size
  xl : ∀ b, X b → b < w.heap.size
  dp : d = cnt K
  kl : K.length ≤ pos
  al : ∀ y ∈ K, y.1.a.length ≤ 3
/-- other blocks have not turned, the reader's holds this now -/
theorem Rd.upd {w w' : World} {base rb : Nat} {X : Nat → Prop} {L : Value} {pos d pos' : Nat} {v : Value} {K : List (E × Value)} {hi : Nat} (h : Rd w base rb X L pos d v K hi) (hs : w.heap.size ≤ w'.heap.size) (hb : ∀ b, b < w.heap.size → b ≠ rb → w'.heap[b]? = w.heap[b]?)
    (e0 : w'.cell? ⟨rb, 0, none⟩ = some L) (e1 : w'.cell? ⟨rb, 1, none⟩ = some (.int .i64 pos')) (e2 : w'.cell? ⟨rb, 2, none⟩ = some v) (e3 : w'.cell? ⟨rb, 3, none⟩ = some (.int .i64 d)) (ef : ∀ o, w'.frozen? ⟨rb, o, none⟩ = false) (hp : pos ≤ pos') : Rd w' base rb X L pos' d v K hi := by
  have hne : ∀ b, base ≤ b → b ≠ rb := fun b hb' e => by have := h.lt; omega
  refine ⟨e0, e1, e2, e3, ef, h.lt, by have := h.bs; omega, ?_, h.gx, h.stk.keep (fun b h1 h2 _ => hb b (by have := h.hi_le; omega) (hne b h1)) (fun _ _ _ k => k) (Nat.le_refl _), by have := h.hi_le; omega, fun b hx => by have := h.xl b hx; omega, h.dp, by have := h.kl; omega, h.al⟩
  refine ⟨h.row.1, ?_⟩
  rcases h.row.2 with h2 | ⟨g, cap, cur, hv, hg, hh, r⟩
  · exact .inl h2
  · refine .inr ⟨g, cap, cur, hv, hg, ?_, r⟩
    have hgl := (h.row.lt g (by rw [hv]; rfl)).2
    rw [hb g hgl (hne g hg)]
    exact hh
theorem Rd.below {w w' : World} {base rb : Nat} {X : Nat → Prop} {L : Value} {pos d : Nat} {v : Value} {K : List (E × Value)} {hi : Nat} (h : Rd w base rb X L pos d v K hi) (hb : Below w.heap.size w w') : Rd w' base rb X L pos d v K hi := by
  have hr : rb < w.heap.size := by have := h.lt; have := h.bs; omega
  have hc : ∀ o, w'.cell? ⟨rb, o, none⟩ = w.cell? ⟨rb, o, none⟩ := fun o => World.cell?_of_block (a := ⟨rb, o, none⟩) (hb.block rb hr)
  exact h.upd hb.size (fun b hl _ => hb.block b hl) ((hc 0).trans h.c0) ((hc 1).trans h.c1) ((hc 2).trans h.c2) ((hc 3).trans h.c3) (fun o => (World.frozen?_of_block (a := ⟨rb, o, none⟩) (hb.block rb hr)).trans (h.fr o)) (Nat.le_refl _)
theorem Rd.drewN {w : World} {base rb : Nat} {X : Nat → Prop} {L : Value} {pos d : Nat} {v : Value} {K : List (E × Value)} {hi : Nat} (h : Rd w base rb X L pos d v K hi) (n : Nat) : Rd (w.drewN n) base rb X L pos d v K hi := h.below (below_drewN (Below.refl _ _) n)
theorem Rd.move {w : World} {base rb : Nat} {X : Nat → Prop} {L : Value} {pos d : Nat} {v : Value} {K : List (E × Value)} {hi : Nat} (h : Rd w base rb X L pos d v K hi) (k : Nat) : Rd (w.setCell ⟨rb, 1, none⟩ (.int .i64 ((pos + k : Nat) : Int))) base rb X L (pos + k) d v K hi := by
  refine h.upd (by simp [World.setCell]) (fun b _ hne => Below.heap_setCell _ _ _ _ (show b ≠ rb from hne)) (by simp [go_sem, h.c0]) (by simp [go_sem, h.c1]) (by simp [go_sem, h.c2]) (by simp [go_sem, h.c3]) (fun o => by simp [go_sem, h.fr o]) (by omega)
/-- the excluded blocks may be more (not the row's own) or less -/
theorem Rd.excl {w : World} {base rb : Nat} {X X' : Nat → Prop} {L : Value} {pos d : Nat} {v : Value} {K : List (E × Value)} {hi : Nat} (h : Rd w base rb X L pos d v K hi) (hx : ∀ b, base ≤ b → b < hi → ¬ X b → ¬ X' b) (hg : ∀ k, v.ownBlock = some k → ¬ X' k) (hl : ∀ b, X' b → b < w.heap.size) : Rd w base rb X' L pos d v K hi :=
  ⟨h.c0, h.c1, h.c2, h.c3, h.fr, h.lt, h.bs, h.row, hg, h.stk.keep (fun _ _ _ _ => rfl) (fun b h1 h2 h3 h4 => h4.elim (fun e => h3 (.inl e)) (hx b h1 h2 (fun e => h3 (.inr e)))) (Nat.le_refl _), h.hi_le, hl, h.dp, h.kl, h.al⟩
theorem Rd.high {w : World} {base rb : Nat} {X : Nat → Prop} {L : Value} {pos d : Nat} {v : Value} {K : List (E × Value)} {hi hi' : Nat} (h : Rd w base rb X L pos d v K hi) (hh : hi ≤ hi') (hw : hi' ≤ w.heap.size) : Rd w base rb X L pos d v K hi' :=
  ⟨h.c0, h.c1, h.c2, h.c3, h.fr, h.lt, h.bs, h.row, h.gx, h.stk.keep (fun _ _ _ _ => rfl) (fun _ _ _ k => k) hh, hw, h.xl, h.dp, h.kl, h.al⟩
theorem Rd.shape {w : World} {base rb : Nat} {X : Nat → Prop} {L : Value} {pos d : Nat} {v : Value} {K : List (E × Value)} {hi : Nat} (h : Rd w base rb X L pos d v K hi) : ∃ a cap, v = .slice a K.length cap := by
  rcases h.row.2 with ⟨rfl, h5⟩ | ⟨g, cap, cur, rfl, _⟩
  · exact ⟨none, 0, by rw [h5]⟩
  · exact ⟨_, _, rfl⟩
theorem flatF_last (K : List (E × Value)) (y : E × Value) : flatF (y :: K).reverse = flatF K.reverse ++ treeC y := by rw [List.reverse_cons, flatF_snoc]
/-- the innermost that is open -/
theorem Rd.top {w : World} {base rb : Nat} {X : Nat → Prop} {L : Value} {pos d : Nat} {v : Value} {y : E × Value} {K : List (E × Value)} {hi : Nat} (h : Rd w base rb X L pos d v (y :: K) hi) :
    ∃ g cap m ps, v = .slice (some ⟨g, 0, none⟩) (K.length + 1) cap ∧ K.length + 1 ≤ cap ∧ cap ≤ maxLen ∧ base ≤ g ∧ g < w.heap.size ∧ ¬ X g ∧
      (w.cell? ⟨g, K.length * 4, none⟩ = some (.int .i64 y.1.kind) ∧ w.cell? ⟨g, K.length * 4 + 1, none⟩ = some (.int .i64 y.1.n) ∧ w.cell? ⟨g, K.length * 4 + 2, none⟩ = some (.string ⟨y.1.name.toArray⟩) ∧ w.cell? ⟨g, K.length * 4 + 3, none⟩ = some y.2) ∧ (∀ o, w.frozen? ⟨g, o, none⟩ = false) ∧
      m ≤ hi ∧ base ≤ m ∧ y.1.a = ps.map (·.1) ∧ OwnF PET m w (fun b => m ≤ b ∧ b < hi ∧ ¬ (some b = some g ∨ X b)) y.2 ps ∧ (∀ k, y.2.ownBlock = some k → k < hi ∧ ¬ (some k = some g ∨ X k)) ∧ Stk w (fun b => some b = some g ∨ X b) base K m := by
  have hrow := h.row
  have hstk := h.stk
  rcases h.row.2 with ⟨rfl, h5⟩ | ⟨g, cap, cur, rfl, hg, hh, hc, hm, hcs, ht⟩
  · simp at h5
  · rw [List.length_cons] at hrow
    rw [flatF_last] at hrow
    have hlen : (flatF K.reverse).length = K.length * 4 := by rw [flatF_length, List.length_reverse]
    have hat : ∀ j, j < 4 → w.cell? ⟨g, K.length * 4 + j, none⟩ = (treeC y)[j]? := fun j hj => by
      rw [World.ownsRow.cellAt hrow _ (by omega), List.getElem?_append_right (by omega), hlen]
      congr 1
      omega
    cases hstk with
    | cons _ ps _ m _ hl hmh ha hp hb =>
      exact ⟨g, cap, m, ps, rfl, hc, hm, hg, (h.row.lt g rfl).2, h.gx g rfl, ⟨hat 0 (by omega), hat 1 (by omega), hat 2 (by omega), hat 3 (by omega)⟩, fun o => World.ownsRow.frozenAt hrow o, hmh, hl.le, ha, hp, hb, hl⟩
/-- one less is open -/
theorem Rd.pop {w : World} {base rb g cap m : Nat} {X : Nat → Prop} {L : Value} {pos d : Nat} {y : E × Value} {K : List (E × Value)} {hi : Nat} (h : Rd w base rb X L pos d (.slice (some ⟨g, 0, none⟩) (K.length + 1) cap) (y :: K) hi) (hl : Stk w (fun b => some b = some g ∨ X b) base K m) (hm : m ≤ hi) {w' : World}
    (hs : w.heap.size ≤ w'.heap.size) (hb : ∀ b, b < w.heap.size → b ≠ rb → (b < m ∨ b = g) → w'.heap[b]? = w.heap[b]?)
    (e0 : w'.cell? ⟨rb, 0, none⟩ = some L) (e1 : w'.cell? ⟨rb, 1, none⟩ = some (.int .i64 pos)) (e2 : w'.cell? ⟨rb, 2, none⟩ = some (.slice (some ⟨g, 0, none⟩) K.length cap)) (e3 : w'.cell? ⟨rb, 3, none⟩ = some (.int .i64 (cnt K))) (ef : ∀ o, w'.frozen? ⟨rb, o, none⟩ = false) :
    Rd w' base rb X L pos (cnt K) (.slice (some ⟨g, 0, none⟩) K.length cap) K m := by
  have hne : ∀ b, base ≤ b → b ≠ rb := fun b hb' e => by have := h.lt; omega
  have hhi := h.hi_le
  refine ⟨e0, e1, e2, e3, ef, h.lt, by have := h.bs; omega, ?_, h.gx, hl.keep (fun b h1 h2 _ => hb b (by omega) (hne b h1) (.inl h2)) (fun _ _ _ k => k) (Nat.le_refl _), by omega, fun b hx => by have := h.xl b hx; omega, rfl, by have := h.kl; simp at this; omega, fun z hz => h.al z (List.mem_cons_of_mem _ hz)⟩
  refine ⟨by rw [flatF_length, List.length_reverse], ?_⟩
  have hrow := h.row
  rcases h.row.2 with ⟨h2, _⟩ | ⟨g', cap', cur, hv, hg, hh, hc, hmx, hcs, ht⟩
  · simp at h2
  · have hgl := (h.row.lt g' (by rw [hv]; rfl)).2
    injection hv with hv1 hv2 hv3
    injection hv1 with hv1
    injection hv1 with hv1
    subst hv1 hv3
    refine .inr ⟨g, cap, cur, rfl, hg, ?_, by simp at hc; omega, hmx, hcs, ?_⟩
    · rw [hb g hgl (hne g hg) (.inr rfl)]
      exact hh
    · rw [flatF_last] at ht
      have hlen : (flatF K.reverse).length = K.length * 4 := by rw [flatF_length, List.length_reverse]
      have := congrArg (List.take (K.length * 4)) ht
      rw [List.take_take, Nat.min_eq_left (by simp; omega)] at this
      rw [this, ← hlen, List.take_left]
end Go.Proofs.YtepnafnljfjeoaaGreatDoor.Line

namespace Go.Proofs.YtepnafnljfjeoaaGreatDoor.Line
open Go.ChangeShapes Go.WideShapes Go.ChangeAt Go.RowKit
open Ex (E St)
set_option linter.unusedVariables false

theorem sg_at {T : List Words.T} {p : Nat} (hp : p < T.length) : Ex.sg T p = if T[p].kind = 3 then T[p].text else [] := by unfold Ex.sg; rw [List.getElem?_eq_getElem hp]
theorem sg_out {T : List Words.T} {p : Nat} (hp : ¬ p < T.length) : Ex.sg T p = [] := by unfold Ex.sg; rw [List.getElem?_eq_none (by omega)]
set_option maxHeartbeats 4000000 in
set_option maxRecDepth 100000 in
theorem signAt_any (T : List Words.T) (L : Value) (w : World) (p : Nat) (hT : Tks w L T) (hl : T.length ≤ 1000000) (hp1 : p ≤ 1000001) : Calls Tryz.prog 44 #[L, .int .i64 p] w fun e w' => e = .returned (.string ⟨(Ex.sg T p).toArray⟩) ∧ w' = w := by
  by_cases hp : p < T.length
  · rw [sg_at hp]
    rcases hT with ⟨_, _, _, hnil⟩ | ⟨b, off, cap, rfl, hcap, hcells⟩
    · exact absurd hp (by rw [hnil]; simp)
    obtain ⟨d0, d1, -, -⟩ := hcells p hp
    have hp2 : (p : Int) < T.length := by omega
    have q1 : decide (T.length ≤ p) = false := decide_eq_false (by omega)
    clear hcells
    generalize T[p].kind = k at *
    generalize T[p].text = x at *
    by_cases g1 : k = 3
    · rw [if_pos g1]
      have k1 : (k : Int) = 3 := by omega
      rw [k1] at d0
      clear k1 g1
      go_enter Tryz.func44, Tryz.ntmps44
      go_wp2
      go_ret
      exact ⟨rfl, rfl⟩
    · rw [if_neg g1]
      have k1 : ((k : Int) == 3) = false := by rw [beq_eq_false_iff_ne]; omega
      have k2 : ¬ (k : Int) = 3 := by omega
      have k3 : ((k : Int) != 3) = true := by simp [bne, k1]
      clear g1
      go_enter Tryz.func44, Tryz.ntmps44
      go_wp2
      go_ret
      exact ⟨rfl, rfl⟩
  · rw [sg_out hp]
    obtain ⟨a, cap, rfl⟩ := hT.shape
    have q1 : decide (T.length ≤ p) = true := decide_eq_true (by omega)
    clear hT
    go_enter Tryz.func44, Tryz.ntmps44
    go_wp2
    go_ret
    exact ⟨rfl, rfl⟩
set_option maxHeartbeats 4000000 in
set_option maxRecDepth 100000 in
theorem rsign_any (T : List Words.T) (L : Value) (w : World) (base rb : Nat) (X : Nat → Prop) (pos d : Nat) (v : Value) (K : List (E × Value)) (hi : Nat) (hR : Rd w base rb X L pos d v K hi) (hT : Tks w L T) (hl : T.length ≤ 1000000) (hp1 : pos ≤ 1000001) : Calls Tryz.prog 74 #[.pointer (some ⟨rb, 0, none⟩)] w fun e w' => e = .returned (.string ⟨(Ex.sg T pos).toArray⟩) ∧ ∃ n, w' = w.drewN n := by
  have HC : Hid (∀ n, Calls Tryz.prog 44 #[L, .int .i64 pos] (w.drewN n) fun e w' => e = .returned (.string ⟨(Ex.sg T pos).toArray⟩) ∧ w' = w.drewN n) := hide (fun n => signAt_any T L (w.drewN n) pos (hT.drewN n) hl hp1)
  obtain ⟨a, cap, hL⟩ := hT.shape
  have h1 := hR.c0
  have h2 := hR.c1
  subst hL
  clear hR hT
  generalize Ex.sg T pos = x at *
  go_enter Tryz.func74, Tryz.ntmps74
  go_wp2_with fail
  go_quiet ((go_at_call 44; refine Calls.quiet_of_same (unhide HC _)))
  go_wp2
  go_ret
  exact ⟨rfl, _, rfl⟩
set_option maxHeartbeats 4000000 in
theorem kindOf_any (c : List UInt8) (w : World) : Calls Tryz.prog 76 #[.string ⟨c.toArray⟩] w fun e w' => e = .returned (.int .i64 (Ex.opOf c)) ∧ w' = w := by
  unfold Ex.opOf
  by_cases c1 : c = [43]
  · subst c1
    go_enter Tryz.func76, Tryz.ntmps76
    go_wp2
    go_ret
    exact ⟨rfl, rfl⟩
  by_cases c2 : c = [45]
  · subst c2
    go_enter Tryz.func76, Tryz.ntmps76
    go_wp2
    go_ret
    exact ⟨rfl, rfl⟩
  by_cases c3 : c = [42]
  · subst c3
    go_enter Tryz.func76, Tryz.ntmps76
    go_wp2
    go_ret
    exact ⟨rfl, rfl⟩
  by_cases c4 : c = [47]
  · subst c4
    go_enter Tryz.func76, Tryz.ntmps76
    go_wp2
    go_ret
    exact ⟨rfl, rfl⟩
  · have k1 : (c == [43]) = false := beq_eq_false_iff_ne.2 c1
    have k2 : (c == [45]) = false := beq_eq_false_iff_ne.2 c2
    have k3 : (c == [42]) = false := beq_eq_false_iff_ne.2 c3
    have k4 : (c == [47]) = false := beq_eq_false_iff_ne.2 c4
    rw [if_neg c1, if_neg c2, if_neg c3, if_neg c4]
    clear c1 c2 c3 c4
    go_enter Tryz.func76, Tryz.ntmps76
    go_wp2
    go_ret
    exact ⟨rfl, rfl⟩
set_option maxHeartbeats 4000000 in
theorem binds_any (k : Int) (w : World) : Calls Tryz.prog 71 #[.int .i64 k] w fun e w' => e = .returned (.int .i64 (Ex.bindOf k)) ∧ w' = w := by
  unfold Ex.bindOf
  by_cases c1 : k = 4
  · subst c1
    go_enter Tryz.func71, Tryz.ntmps71
    go_wp2
    go_ret
    exact ⟨rfl, rfl⟩
  by_cases c2 : k = 7
  · subst c2
    go_enter Tryz.func71, Tryz.ntmps71
    go_wp2
    go_ret
    exact ⟨rfl, rfl⟩
  by_cases c3 : k = 8
  · subst c3
    go_enter Tryz.func71, Tryz.ntmps71
    go_wp2
    go_ret
    exact ⟨rfl, rfl⟩
  by_cases c4 : k = 5
  · subst c4
    go_enter Tryz.func71, Tryz.ntmps71
    go_wp2
    go_ret
    exact ⟨rfl, rfl⟩
  by_cases c5 : k = 6
  · subst c5
    go_enter Tryz.func71, Tryz.ntmps71
    go_wp2
    go_ret
    exact ⟨rfl, rfl⟩
  · have k1 : (k == 4) = false := beq_eq_false_iff_ne.2 c1
    have k2 : (k == 7) = false := beq_eq_false_iff_ne.2 c2
    have k3 : (k == 8) = false := beq_eq_false_iff_ne.2 c3
    have k4 : (k == 5) = false := beq_eq_false_iff_ne.2 c4
    have k5 : (k == 6) = false := beq_eq_false_iff_ne.2 c5
    rw [if_neg c1, if_neg (by simp [c2, c3]), if_neg (by simp [c4, c5])]
    clear c1 c2 c3 c4 c5
    go_enter Tryz.func71, Tryz.ntmps71
    go_wp2
    go_ret
    exact ⟨rfl, rfl⟩
def endsB (K : List (E × Value)) (nx : Int) : Bool := match K with
  | [] => false
  | y :: _ => decide (0 < Ex.bindOf y.1.kind) && decide (Ex.bindOf nx ≤ Ex.bindOf y.1.kind)
set_option maxHeartbeats 4000000 in
set_option maxRecDepth 100000 in
theorem opEnds_any (L : Value) (w : World) (base rb : Nat) (X : Nat → Prop) (pos d : Nat) (v : Value) (K : List (E × Value)) (hi : Nat) (nx : Int) (hR : Rd w base rb X L pos d v K hi) (hp1 : pos ≤ 1000001) : Calls Tryz.prog 77 #[.pointer (some ⟨rb, 0, none⟩), .int .i64 nx] w fun e w' => e = .returned (.bool (endsB K nx)) ∧ ∃ n, w' = w.drewN n := by
  have hkl := hR.kl
  have h2 := hR.c2
  cases K with
  | nil =>
    obtain ⟨a, cap, hv⟩ := hR.shape
    subst hv
    clear hR
    go_enter Tryz.func77, Tryz.ntmps77
    go_wp2
    go_ret
    exact ⟨rfl, 0, rfl⟩
  | cons y K =>
    obtain ⟨g, cap, m, ps, rfl, hcap, hmax, hg1, hg2, hgX, ⟨t0, -, -, -⟩, -, -, -, -, -, -, -⟩ := hR.top
    have HC : Hid (∀ n, Calls Tryz.prog 71 #[.int .i64 y.1.kind] (w.drewN n) fun e w' => e = .returned (.int .i64 (Ex.bindOf y.1.kind)) ∧ w' = w.drewN n) := hide (fun n => binds_any _ _)
    have HN : Hid (∀ w, Calls Tryz.prog 71 #[.int .i64 nx] w fun e w' => e = .returned (.int .i64 (Ex.bindOf nx)) ∧ w' = w) := hide (fun w => binds_any _ _)
    have hE : endsB (y :: K) nx = (decide (0 < Ex.bindOf y.1.kind) && decide (Ex.bindOf nx ≤ Ex.bindOf y.1.kind)) := rfl
    rw [hE]
    simp only [List.length_cons] at hkl
    have hlen : ((K.length + 1 : Nat) : Int) = (K.length : Int) + 1 := by omega
    clear hR hE
    generalize Ex.bindOf y.1.kind = A at *
    generalize Ex.bindOf nx = B at *
    generalize y.1.kind = kd at *
    generalize K.length = n at *
    by_cases hA : 0 < A
    · have q1 : decide (0 < A) = true := decide_eq_true hA
      rw [q1]
      by_cases hB : B ≤ A
      · have q2 : decide (B ≤ A) = true := decide_eq_true hB
        rw [q2]
        go_enter Tryz.func77, Tryz.ntmps77
        go_wp2_with fail
        go_quiet ((go_at_call 71; refine Calls.quiet_of_same (unhide HC _)))
        go_wp2_with fail
        refine (unhide HN _).mono ?_
        rintro e w1 ⟨rfl, rfl⟩
        go_wp2
        go_ret
        exact ⟨rfl, _, rfl⟩
      · have q2 : decide (B ≤ A) = false := decide_eq_false hB
        rw [q2]
        go_enter Tryz.func77, Tryz.ntmps77
        go_wp2_with fail
        go_quiet ((go_at_call 71; refine Calls.quiet_of_same (unhide HC _)))
        go_wp2_with fail
        refine (unhide HN _).mono ?_
        rintro e w1 ⟨rfl, rfl⟩
        go_wp2
        go_ret
        exact ⟨rfl, _, rfl⟩
    · have q1 : decide (0 < A) = false := decide_eq_false hA
      rw [q1]
      go_enter Tryz.func77, Tryz.ntmps77
      go_wp2_with fail
      go_quiet ((go_at_call 71; refine Calls.quiet_of_same (unhide HC _)))
      go_wp2
      go_ret
      exact ⟨rfl, _, rfl⟩
end Go.Proofs.YtepnafnljfjeoaaGreatDoor.Line
