/- A row of pairs of addresses of trees (OwnQ); one more; the last one taken off; what is left to be held against each other (Qs).
   The contract of the project's Same where the roots' kinds part.
   The contract of the project's Same: one tree in two places; two trees of which the roots part. -/
import Derived.Test.YtepnafnljfjeoaaGreatDoorTxA
import Derived.Deep.LoopGhost
import Derived.Deep.QuietTactic
import Derived.BigQuiet
import Derived.Deep.RegionHeld3
namespace Go.Proofs.YtepnafnljfjeoaaGreatDoor.Line
open Go.ChangeShapes Go.WideShapes Go.ChangeAt Go.RowKit
open Ex (E St)
set_option linter.unusedVariables false

abbrev Qp : Type := Addr × Addr
abbrev QE : TypeId := 107
abbrev QS : TypeId := 108
theorem infoQ : (Tryz.prog.info? QE).map (fun i => (i.zero, i.size, i.bytes)) = some (some (.agg #[.pointer none, .pointer none]), 2, 16) := by kernel_rfl
def qC (p : Qp) : List Value := [.pointer (some p.1), .pointer (some p.2)]
def flatQ (l : List Qp) : List Value := l.flatMap qC
theorem flatQ_length (l : List Qp) : (flatQ l).length = l.length * 2 := by
  induction l with
  | nil => rfl
  | cons t l ih => show (qC t ++ flatQ l).length = _; rw [List.length_append, ih, List.length_cons]; show 2 + l.length * 2 = _; omega
theorem flatQ_append (l m : List Qp) : flatQ (l ++ m) = flatQ l ++ flatQ m := by simp [flatQ]
theorem flatQ_at (l : List Qp) : ∀ (i : Nat) (h : i < l.length), (flatQ l)[i * 2]? = some (.pointer (some l[i].1)) ∧ (flatQ l)[i * 2 + 1]? = some (.pointer (some l[i].2)) := by
  induction l with
  | nil => intro i h; simp at h
  | cons t l ih =>
    intro i h
    have e : flatQ (t :: l) = .pointer (some t.1) :: .pointer (some t.2) :: flatQ l := rfl
    cases i with
    | zero => rw [e]; exact ⟨rfl, rfl⟩
    | succ i =>
      have := ih i (by simpa using h)
      rw [e]
      rw [show (i + 1) * 2 = i * 2 + 2 by omega, show i * 2 + 2 + 1 = (i * 2 + 1) + 2 by omega]
      simpa using this
def OwnQ (base : Nat) (w : World) (v : Value) (l : List Qp) : Prop := w.ownsRow base QE 2 v l.length (flatQ l)
theorem OwnQ.below {base : Nat} {w w' : World} {v : Value} {l : List Qp} (h : OwnQ base w v l) (hb : Below w.heap.size w w') : OwnQ base w' v l := ownsRow_below h hb
theorem OwnQ.shape {base : Nat} {w : World} {v : Value} {l : List Qp} (h : OwnQ base w v l) : ∃ a cap, v = .slice a l.length cap := by
  rcases h.2 with ⟨rfl, h5⟩ | ⟨g, cap, cur, rfl, _⟩
  · exact ⟨none, 0, by rw [h5]⟩
  · exact ⟨_, _, rfl⟩
theorem append_q {base : Nat} {w : World} {v : Value} {l : List Qp} {p : Qp} (hs : OwnQ base w v l) (hb : base ≤ w.heap.size) (hl : l.length + 1 ≤ 1000000) :
    ∃ v' w', (Builtin.append_ #[QS, QS] QS #[v, .slice (some ⟨w.heap.size, 0, none⟩) 1 1]).run Tryz.prog (w.alloc (.cells #[.pointer (some p.1), .pointer (some p.2)] QE)) = .ok v' w' ∧ OwnQ base w' v' (l ++ [p]) ∧ Below base w w' ∧ Oth w w' v v' := by
  obtain ⟨i0, hi, hz0, hz1, hz2⟩ := info_parts infoQ
  obtain ⟨v', w', hr, ho, hgr, _, hat⟩ := run_append_own_at (P := Tryz.prog) (w.alloc (.cells #[.pointer (some p.1), .pointer (some p.2)] QE)) base QS QS QE i0 _ 2 16 Tryz.underlying108 hi hz0 hz1 hz2 rfl (by decide) v l.length (flatQ l) (World.ownsRow.alloc hs _) ⟨w.heap.size, 0, none⟩ 1 1 (qC p) rfl
    (World.news_of_block (cs := #[.pointer (some p.1), .pointer (some p.2)]) (t := QE) (fr := (0, 0)) (by show (w.heap.push _)[w.heap.size]? = _; exact Array.getElem?_push_size))
    (by
      intro u hu
      simp only [qC, List.mem_cons, List.not_mem_nil, or_false] at hu
      rcases hu with rfl | rfl <;> rfl) (by unfold maxLen; omega) (by omega) (by simp; omega)
  refine ⟨v', w', hr, ?_, ((Below.refl _ _).alloc hb _).grown hgr (by simp; omega) (fun j hj => (World.ownsRow.lt hs j hj).1), ⟨fun b hb hne => (hgr.block b (by simp; omega) hne).trans ((alloc_below w _).block b hb), ?_, by have := hgr.size; simp at this; omega⟩⟩
  rotate_left
  · rcases hat with e | e
    · exact .inl e
    · exact .inr ⟨_, by simp, e⟩
  unfold OwnQ
  rw [flatQ_append, List.length_append]
  exact ho
theorem OwnQ.pop {base : Nat} {w : World} {v : Value} {D : List Qp} {p : Qp} (h : OwnQ base w v (D ++ [p])) : ∃ g cap, v = .slice (some ⟨g, 0, none⟩) (D.length + 1) cap ∧ D.length + 1 ≤ cap ∧ base ≤ g ∧ g < w.heap.size ∧ w.cell? ⟨g, D.length * 2, none⟩ = some (.pointer (some p.1)) ∧ w.cell? ⟨g, D.length * 2 + 1, none⟩ = some (.pointer (some p.2)) ∧ OwnQ base w (.slice (some ⟨g, 0, none⟩) D.length cap) D := by
  have h' := h
  unfold OwnQ at h'
  rw [List.length_append, List.length_singleton] at h'
  rcases h'.2 with ⟨_, h5⟩ | ⟨g, cap, cur, rfl, hg, hh, hc, hm, hcs, ht⟩
  · simp at h5
  · have hat := flatQ_at (D ++ [p]) D.length (by simp)
    simp only [List.getElem_append_right (Nat.le_refl _), Nat.sub_self, List.getElem_singleton] at hat
    refine ⟨g, cap, rfl, hc, hg, (Array.getElem?_eq_some_iff.1 hh).1, (World.ownsRow.cellAt h' _ (by omega)).trans hat.1, (World.ownsRow.cellAt h' _ (by omega)).trans hat.2, flatQ_length D, .inr ⟨g, cap, cur, rfl, hg, hh, by omega, hm, hcs, ?_⟩⟩
    rw [flatQ_append] at ht
    have := congrArg (List.take (D.length * 2)) ht
    rw [List.take_take, Nat.min_eq_left (by omega)] at this
    rw [this, ← flatQ_length D, List.take_left]
/-- pairs of one tree each, in two places; their weights' sum -/
inductive Qs (w : World) (B : Nat) : List Qp → Nat → Prop
  | nil : Qs w B [] 0
  | cons (p q : Addr) (y : E) (l : List Qp) (n : Nat) (h1 : TreeAt w B p y) (h2 : TreeAt w B q y) (ho : OkE y) (hl : Qs w B l n) : Qs w B ((p, q) :: l) (wtE y + n)
theorem Qs.keep {w w' : World} {B : Nat} {l : List Qp} {k : Nat} (h : Qs w B l k) (hb : ∀ b, b < B → w'.heap[b]? = w.heap[b]?) : Qs w' B l k := by
  induction h with
  | nil => exact .nil
  | cons p q y l n h1 h2 ho hl ih => exact .cons p q y l n (h1.below hb) (h2.below hb) ho ih
theorem Qs.len {w : World} {B : Nat} {l : List Qp} {k : Nat} (h : Qs w B l k) : l.length ≤ k := by
  induction h with
  | nil => exact Nat.le_refl _
  | cons p q y l n h1 h2 ho hl ih =>
    have := wtE_pos y
    rw [List.length_cons]
    omega
/-- the pairs of a tree's parts, the first j of them -/
def qsL (pb po qb qo j : Nat) : List Qp := (List.range j).map fun i => (⟨pb, po + i * 4, none⟩, ⟨qb, qo + i * 4, none⟩)
theorem qsL_succ (pb po qb qo j : Nat) : qsL pb po qb qo (j + 1) = qsL pb po qb qo j ++ [(⟨pb, po + j * 4, none⟩, ⟨qb, qo + j * 4, none⟩)] := by
  simp [qsL, List.range_succ]
theorem qsL_length (pb po qb qo j : Nat) : (qsL pb po qb qo j).length = j := by simp [qsL]
theorem wtL_take : ∀ (a : List E) (j : Nat) (h : j < a.length), wtL (a.take (j + 1)) = wtL (a.take j) + wtE a[j] + 3 := by
  intro a
  induction a with
  | nil => intro j h; simp at h
  | cons y r ih =>
    intro j h
    cases j with
    | zero => simp [wtL]
    | succ j =>
      have := ih j (by simpa using h)
      simp only [List.take_succ_cons, wtL, List.getElem_cons_succ]
      omega
theorem qs_parts {w : World} {B pb po qb qo : Nat} {a : List E} {D : List Qp} {n : Nat} (hD : Qs w B D.reverse n) (h : ∀ i (hi : i < a.length), TreeAt w B ⟨pb, po + i * 4, none⟩ a[i] ∧ TreeAt w B ⟨qb, qo + i * 4, none⟩ a[i] ∧ OkE a[i]) : ∀ j, j ≤ a.length → ∃ m, Qs w B (D ++ qsL pb po qb qo j).reverse m ∧ m ≤ n + wtL (a.take j) := by
  intro j
  induction j with
  | zero => intro _; exact ⟨n, by simpa [qsL] using hD, by omega⟩
  | succ j ih =>
    intro hj
    obtain ⟨m, hm, hle⟩ := ih (by omega)
    obtain ⟨h1, h2, h3⟩ := h j (by omega)
    refine ⟨wtE a[j] + m, ?_, ?_⟩
    · rw [qsL_succ, ← List.append_assoc, List.reverse_append]
      exact .cons _ _ _ _ _ h1 h2 h3 hm
    · rw [wtL_take a j (by omega)]
      omega
theorem wtE_a (y : E) : wtE y = 3 + wtL y.a := by cases y; simp [wtE, E.a]
end Go.Proofs.YtepnafnljfjeoaaGreatDoor.Line

namespace Go.Proofs.YtepnafnljfjeoaaGreatDoor.Line
open Go.ChangeShapes Go.WideShapes Go.ChangeAt Go.RowKit
open Ex (E St)
set_option linter.unusedVariables false

theorem kind_start (w : World) (x y : E) (sx sy : Value) : ∀ W, W = ((w.alloc (.cells #[.int .i64 x.kind, .int .i64 x.n, .string ⟨x.name.toArray⟩, sx] PET)).alloc (.cells #[.int .i64 y.kind, .int .i64 y.n, .string ⟨y.name.toArray⟩, sy] PET)).alloc (.cells #[.pointer (some ⟨w.heap.size, 0, none⟩), .pointer (some ⟨w.heap.size + 1, 0, none⟩)] QE) → W.cell? ⟨w.heap.size, 0, none⟩ = some (.int .i64 x.kind) ∧ W.cell? ⟨w.heap.size + 1, 0, none⟩ = some (.int .i64 y.kind) ∧ W.cell? ⟨w.heap.size + 1 + 1, 0, none⟩ = some (.pointer (some ⟨w.heap.size, 0, none⟩)) ∧ W.cell? ⟨w.heap.size + 1 + 1, 1, none⟩ = some (.pointer (some ⟨w.heap.size + 1, 0, none⟩)) ∧ W.heap.size = w.heap.size + 1 + 1 + 1 ∧ Below w.heap.size w W := by
  intro W hW
  have hb1 := alloc_below w (.cells #[.int .i64 x.kind, .int .i64 x.n, .string ⟨x.name.toArray⟩, sx] PET)
  have hz1 : (w.alloc (.cells #[.int .i64 x.kind, .int .i64 x.n, .string ⟨x.name.toArray⟩, sx] PET)).heap.size = w.heap.size + 1 := by simp
  have hbx := box_new w x sx PET
  generalize (w.alloc (.cells #[.int .i64 x.kind, .int .i64 x.n, .string ⟨x.name.toArray⟩, sx] PET)) = w1 at *
  have hb2 := alloc_below w1 (.cells #[.int .i64 y.kind, .int .i64 y.n, .string ⟨y.name.toArray⟩, sy] PET)
  have hz2 : (w1.alloc (.cells #[.int .i64 y.kind, .int .i64 y.n, .string ⟨y.name.toArray⟩, sy] PET)).heap.size = w1.heap.size + 1 := by simp
  have hby := box_new w1 y sy PET
  rw [hz1] at hby
  generalize (w1.alloc (.cells #[.int .i64 y.kind, .int .i64 y.n, .string ⟨y.name.toArray⟩, sy] PET)) = w2 at *
  have hb3 := alloc_below w2 (.cells #[.pointer (some ⟨w.heap.size, 0, none⟩), .pointer (some ⟨w.heap.size + 1, 0, none⟩)] QE)
  have hz3 : (w2.alloc (.cells #[.pointer (some ⟨w.heap.size, 0, none⟩), .pointer (some ⟨w.heap.size + 1, 0, none⟩)] QE)).heap.size = w2.heap.size + 1 := by simp
  have hA := hbx.keep ((bthen hb2 hb3).block _ hbx.lt) (bthen hb2 hb3).size
  have hA2 := hby.keep (hb3.block _ hby.lt) hb3.size
  have e2 : w.heap.size + 1 + 1 = w2.heap.size := by omega
  subst hW
  refine ⟨hA.c0, hA2.c0, ?_, ?_, by omega, bthen hb1 (bthen hb2 hb3)⟩
  · rw [e2]; simp
  · rw [e2]; simp

set_option maxHeartbeats 8000000 in
set_option maxRecDepth 100000 in
theorem same_kind (x y : E) (sx sy : Value) (S S' : Nat → Prop) (w : World) (hx : Forest w S x.a sx) (hy : Forest w S' y.a sy) (hk : x.kind ≠ y.kind) : Calls Tryz.prog 22 #[treeV x sx, treeV y sy] w fun e w' => e = .returned (.bool false) ∧ Below w.heap.size w w' := by
  obtain ⟨xa, xc, hsx⟩ := hx.shape
  obtain ⟨ya, yc, hsy⟩ := hy.shape
  generalize hxl : x.a.length = xl at *
  generalize hyl : y.a.length = yl at *
  subst hsx hsy
  clear hx hy hxl hyl
  have q1 : (x.kind == y.kind) = false := beq_eq_false_iff_ne.2 hk
  have q2 : (x.kind != y.kind) = true := by simp [bne, q1]
  have HC := hide (kind_start w x y (.slice xa xl xc) (.slice ya yl yc))
  clear hk
  go_enter Tryz.func22, Tryz.ntmps22
  go_wp2_with fail
  obtain ⟨a0, a1, a2, a3, hz, hB⟩ := unhide HC _ rfl
  generalize (((w.alloc (.cells #[.int .i64 x.kind, .int .i64 x.n, .string ⟨x.name.toArray⟩, .slice xa xl xc] PET)).alloc (.cells #[.int .i64 y.kind, .int .i64 y.n, .string ⟨y.name.toArray⟩, .slice ya yl yc] PET)).alloc (.cells #[.pointer (some ⟨w.heap.size, 0, none⟩), .pointer (some ⟨w.heap.size + 1, 0, none⟩)] QE)) = W0 at *
  have HB := hide (And.intro hz hB)
  clear HC hz hB
  go_loopg [5] 0 (fun k v wr => v = .slice (some ⟨w.heap.size + 1 + 1, 0, none⟩) 1 1 ∧ wr = W0)
  case atStart => exact ⟨rfl, rfl⟩
  case round =>
    obtain ⟨rfl, hw⟩ := hrel
    subst hw
    have hal := alloc_below wr (.cells #[.pointer (some ⟨w.heap.size, 0, none⟩), .pointer (some ⟨w.heap.size + 1, 0, none⟩)] QE)
    have hz := (unhide HB).1
    have k0 : (wr.alloc (.cells #[.pointer (some ⟨w.heap.size, 0, none⟩), .pointer (some ⟨w.heap.size + 1, 0, none⟩)] QE)).cell? ⟨wr.heap.size, 0, none⟩ = some (.pointer (some ⟨w.heap.size, 0, none⟩)) := by simp
    have k1 : (wr.alloc (.cells #[.pointer (some ⟨w.heap.size, 0, none⟩), .pointer (some ⟨w.heap.size + 1, 0, none⟩)] QE)).cell? ⟨wr.heap.size, 1, none⟩ = some (.pointer (some ⟨w.heap.size + 1, 0, none⟩)) := by simp
    have b0 := (hal.cell (p := ⟨w.heap.size, 0, none⟩) (by show w.heap.size < _; omega)).trans a0
    have b1 := (hal.cell (p := ⟨w.heap.size + 1, 0, none⟩) (by show w.heap.size + 1 < _; omega)).trans a1
    have HE := hide (bthen (unhide HB).2 hal)
    clear hal hz HB
    go_wp2_with fail
    generalize (wr.alloc (.cells #[.pointer (some ⟨w.heap.size, 0, none⟩), .pointer (some ⟨w.heap.size + 1, 0, none⟩)] QE)) = W1 at *
    go_quiet (fail)
    go_wp2
    go_ret
    exact ⟨rfl, below_drewN (unhide HE) nq⟩
end Go.Proofs.YtepnafnljfjeoaaGreatDoor.Line

namespace Go.Proofs.YtepnafnljfjeoaaGreatDoor.Line
open Go.ChangeShapes Go.WideShapes Go.ChangeAt Go.RowKit
open Ex (E St)
set_option linter.unusedVariables false

structure MidS (w : World) (wr : World) (v : Value) (l : List Qp) (k : Nat) : Prop where
  own : OwnQ (w.heap.size + 1 + 1) wr v l
  qs : Qs wr (w.heap.size + 1 + 1) l.reverse k
  old : Below w.heap.size w wr
  sz : w.heap.size + 1 + 1 ≤ wr.heap.size
theorem MidS.below {w wr w2 : World} {v : Value} {l : List Qp} {k : Nat} (h : MidS w wr v l k) (hb : Below wr.heap.size wr w2) : MidS w w2 v l k := by
  have hs := h.sz
  have hs2 := hb.size
  exact ⟨h.own.below hb, h.qs.keep (fun b hl => hb.block b (by omega)), bthen h.old hb, by omega⟩
theorem midS_start {w : World} {x : E} {sx sy : Value} {S S' : Nat → Prop} (hf : Forest w S x.a sx) (hg : Forest w S' x.a sy) (ho : OkE x) : MidS w (((w.alloc (.cells #[.int .i64 x.kind, .int .i64 x.n, .string ⟨x.name.toArray⟩, sx] PET)).alloc (.cells #[.int .i64 x.kind, .int .i64 x.n, .string ⟨x.name.toArray⟩, sy] PET)).alloc (.cells #[.pointer (some ⟨w.heap.size, 0, none⟩), .pointer (some ⟨w.heap.size + 1, 0, none⟩)] QE)) (.slice (some ⟨w.heap.size + 1 + 1, 0, none⟩) 1 1) [(⟨w.heap.size, 0, none⟩, ⟨w.heap.size + 1, 0, none⟩)] (wtE x) := by
  have hb1 := alloc_below w (.cells #[.int .i64 x.kind, .int .i64 x.n, .string ⟨x.name.toArray⟩, sx] PET)
  have hz1 : (w.alloc (.cells #[.int .i64 x.kind, .int .i64 x.n, .string ⟨x.name.toArray⟩, sx] PET)).heap.size = w.heap.size + 1 := by simp
  have hbx := box_new w x sx PET
  generalize (w.alloc (.cells #[.int .i64 x.kind, .int .i64 x.n, .string ⟨x.name.toArray⟩, sx] PET)) = w1 at *
  have hb2 := alloc_below w1 (.cells #[.int .i64 x.kind, .int .i64 x.n, .string ⟨x.name.toArray⟩, sy] PET)
  have hz2 : (w1.alloc (.cells #[.int .i64 x.kind, .int .i64 x.n, .string ⟨x.name.toArray⟩, sy] PET)).heap.size = w1.heap.size + 1 := by simp
  have hby := box_new w1 x sy PET
  rw [hz1] at hby
  generalize (w1.alloc (.cells #[.int .i64 x.kind, .int .i64 x.n, .string ⟨x.name.toArray⟩, sy] PET)) = w2 at *
  have hb3 := alloc_below w2 (.cells #[.pointer (some ⟨w.heap.size, 0, none⟩), .pointer (some ⟨w.heap.size + 1, 0, none⟩)] QE)
  have hz3 : (w2.alloc (.cells #[.pointer (some ⟨w.heap.size, 0, none⟩), .pointer (some ⟨w.heap.size + 1, 0, none⟩)] QE)).heap.size = w2.heap.size + 1 := by simp
  have hown := World.ownsRow_lit (e := QE) (size := 2) (base := w.heap.size + 1 + 1) w2 #[.pointer (some ⟨w.heap.size, 0, none⟩), .pointer (some ⟨w.heap.size + 1, 0, none⟩)] 1 (by omega) (by decide) rfl
  rw [hz2, hz1] at hown
  have hb13 := bthen hb2 hb3
  have hbw := bthen hb1 hb13
  have hA := hbx.keep (hb13.block _ hbx.lt) hb13.size
  have hA2 := hby.keep (hb3.block _ hby.lt) hb3.size
  have hF : Forest (w2.alloc (.cells #[.pointer (some ⟨w.heap.size, 0, none⟩), .pointer (some ⟨w.heap.size + 1, 0, none⟩)] QE)) (fun b => b < w.heap.size + 1 + 1) x.a sx := (hf.mono (S' := fun b => b < w.heap.size + 1 + 1) (fun b _ hl => by omega)).old hbw
  have hG : Forest (w2.alloc (.cells #[.pointer (some ⟨w.heap.size, 0, none⟩), .pointer (some ⟨w.heap.size + 1, 0, none⟩)] QE)) (fun b => b < w.heap.size + 1 + 1) x.a sy := (hg.mono (S' := fun b => b < w.heap.size + 1 + 1) (fun b _ hl => by omega)).old hbw
  refine ⟨hown, ?_, hbw, by omega⟩
  exact Qs.cons _ _ x _ _ ⟨w.heap.size, 0, sx, rfl, by omega, ⟨hA.c0, hA.c1, hA.c2, hA.c3⟩, hF⟩ ⟨w.heap.size + 1, 0, sy, rfl, by omega, ⟨hA2.c0, hA2.c1, hA2.c2, hA2.c3⟩, hG⟩ ho .nil
theorem step_append_runQ {ops : Array Oper} {o : Oper} {a : Act} {w : World} {K : Act → World → Prop} {Q : Exit → Act → World → Prop} {P : Prop} (hgd : o.guard = none) (s x : Operand)
    (ho : o.op = .call { callee := .builtin .append, args := #[s, x], argTypes := #[QS, QS] }) (hty : o.type = QS) (sv xv : Value) (hs : a.eval s = sv) (hx : a.eval x = xv) (v' : Value) (w' : World)
    (hr : (Builtin.append_ #[QS, QS] QS #[sv, xv]).run Tryz.prog w = .ok v' w') (h : K (a.put o.dst v') w') : if Region.wanted o (yielded ops a.tmps) = true then Oper.wp Tryz.prog o a w K Q else P := by
  have hw : Region.wanted o (yielded ops a.tmps) = true := by simp [Region.wanted, hgd]
  rw [if_pos hw]
  unfold Oper.wp execOp
  simp only [ho, hty, resolve, invoke, builtin, Sem.run_bind, Sem.run_pure, Result.andThen_ok, List.map_toArray, List.map_cons, List.map_nil, hs, hx, hr]
  exact h

set_option maxHeartbeats 8000000 in
set_option maxRecDepth 100000 in
theorem same_true (x : E) (sx sy : Value) (S S' : Nat → Prop) (w : World) (hx : Forest w S x.a sx) (hy : Forest w S' x.a sy) (ho : OkE x) (hw : wtE x ≤ 90000) : Calls Tryz.prog 22 #[treeV x sx, treeV x sy] w fun e w' => e = .returned (.bool true) ∧ Below w.heap.size w w' := by
  have HM := hide (midS_start hx hy ho)
  obtain ⟨xa, xc, hsx⟩ := hx.shape
  obtain ⟨ya, yc, hsy⟩ := hy.shape
  generalize hxl : x.a.length = xl at *
  subst hsx hsy
  clear hx hy ho hxl
  go_enter Tryz.func22, Tryz.ntmps22
  go_wp2_with fail
  generalize (((w.alloc (.cells #[.int .i64 x.kind, .int .i64 x.n, .string ⟨x.name.toArray⟩, .slice xa xl xc] PET)).alloc (.cells #[.int .i64 x.kind, .int .i64 x.n, .string ⟨x.name.toArray⟩, .slice ya xl yc] PET)).alloc (.cells #[.pointer (some ⟨w.heap.size, 0, none⟩), .pointer (some ⟨w.heap.size + 1, 0, none⟩)] QE)) = W0 at *
  go_loopg [5] (wtE x) (fun k v wr => k ≤ 90000 ∧ ∃ (l : List Qp), Hid (MidS w wr v l k))
  case atStart => exact ⟨hw, _, HM⟩
  case round =>
    obtain ⟨hgk, l, HMM⟩ := hrel
    rcases List.eq_nil_or_concat l with rfl | ⟨D, pc, hl⟩
    · obtain ⟨va, vc, hv⟩ := (unhide HMM).own.shape
      rw [List.length_nil] at hv
      subst hv
      go_wp2
      go_ret
      exact ⟨rfl, (unhide HMM).old⟩
    · rw [List.concat_eq_append] at hl
      subst hl
      obtain ⟨g, cap, hv, hcap, hg1, hg2, t0, t1, hpop⟩ := (unhide HMM).own.pop
      subst hv
      have hln : D.length + 1 ≤ gk := by have := (unhide HMM).qs.len; simpa using this
      obtain ⟨p, q⟩ := pc
      obtain ⟨y, n1, htp, htq, hoy, hkn, hlr⟩ : ∃ y n1, TreeAt wr (w.heap.size + 1 + 1) p y ∧ TreeAt wr (w.heap.size + 1 + 1) q y ∧ OkE y ∧ gk = wtE y + n1 ∧ Qs wr (w.heap.size + 1 + 1) D.reverse n1 := by
        have h2 := (unhide HMM).qs
        rw [List.reverse_append] at h2
        generalize hgr : gk = gr at h2
        cases h2 with
        | cons _ _ y l n h1 h2 ho hl => exact ⟨y, n, h1, h2, ho, rfl, hl⟩
      obtain ⟨b, o, sa, sc, pb, po, hpe, hbl, hpbl, hat, hrow, hparts⟩ := htp.open (by omega)
      obtain ⟨b', o', sa', sc', qb, qo, hqe, hbl', hqbl, hat', hrow', hparts'⟩ := htq.open (by omega)
      subst hpe hqe
      dsimp only at t0 t1
      have hal := alloc_below wr (.cells #[.pointer (some ⟨b, o, none⟩), .pointer (some ⟨b', o', none⟩)] QE)
      have hsz := (unhide HMM).sz
      have hz : (wr.alloc (.cells #[.pointer (some ⟨b, o, none⟩), .pointer (some ⟨b', o', none⟩)] QE)).heap.size = wr.heap.size + 1 := by simp
      have k0 : (wr.alloc (.cells #[.pointer (some ⟨b, o, none⟩), .pointer (some ⟨b', o', none⟩)] QE)).cell? ⟨wr.heap.size, 0, none⟩ = some (.pointer (some ⟨b, o, none⟩)) := by simp
      have k1 : (wr.alloc (.cells #[.pointer (some ⟨b, o, none⟩), .pointer (some ⟨b', o', none⟩)] QE)).cell? ⟨wr.heap.size, 1, none⟩ = some (.pointer (some ⟨b', o', none⟩)) := by simp
      obtain ⟨c0, c1, c2, c3⟩ := hat.below hal (by omega)
      obtain ⟨d0, d1, d2, d3⟩ := hat'.below hal (by omega)
      have HP1 := hide (hpop.below hal)
      have HM1 := hide ((unhide HMM).below hal)
      have HPA : Hid (∀ i (hi : i < y.a.length), (sa = some ⟨pb, po, none⟩ ∧ y.a.length ≤ sc) ∧ (sa' = some ⟨qb, qo, none⟩ ∧ y.a.length ≤ sc')) := hide (fun i hi => ⟨⟨(hrow i hi).1, (hrow i hi).2.1⟩, ⟨(hrow' i hi).1, (hrow' i hi).2.1⟩⟩)
      have HQP := hide (fun j hj => qs_parts (pb := pb) (po := po) (qb := qb) (qo := qo) (a := y.a) hlr (fun i hi => ⟨hparts i hi, hparts' i hi, hoy.part _ (List.getElem_mem hi)⟩) j hj)
      have HKN := hide hkn
      have hyl := hoy.len
      have hcap2 : (D.length : Int) + 1 ≤ cap := by omega
      have hgb : g < wr.heap.size := hg2
      clear hkn hlr htp htq hoy hrow hrow' hparts hparts' hat hat' hpop
      generalize hdl : D.length = n at *
      generalize hnn : y.a.length = m at *
      generalize hyk : y.kind = yk at *
      generalize hyn : y.n = yn at *
      generalize hym : y.name = ym at *
      clear hyk hyn hym
      go_wp2_with fail
      generalize (wr.alloc (.cells #[.pointer (some ⟨b, o, none⟩), .pointer (some ⟨b', o', none⟩)] QE)) = W1 at *
      go_quiet (fail)
      have hd := below_drewN (Below.refl W1.heap.size W1) nq
      have hbx : wr.heap.size < (W1.drewN nq).heap.size := by have := hd.size; omega
      have k0' : (W1.drewN nq).cell? ⟨wr.heap.size, 0, none⟩ = some (.pointer (some ⟨b, o, none⟩)) := k0
      have k1' : (W1.drewN nq).cell? ⟨wr.heap.size, 1, none⟩ = some (.pointer (some ⟨b', o', none⟩)) := k1
      have c3' : (W1.drewN nq).cell? ⟨b, o + 3, none⟩ = some (.slice sa m sc) := c3
      have d3' : (W1.drewN nq).cell? ⟨b', o' + 3, none⟩ = some (.slice sa' m sc') := d3
      have HP2 := hide ((unhide HP1).below hd)
      have HBW := hide (bthen hal hd)
      have hB2 : w.heap.size + 1 + 1 ≤ (W1.drewN nq).heap.size := by omega
      clear k0 k1 c0 c1 c2 c3 d0 d1 d2 d3 HP1 hd hz t0 t1 HM1 hal
      generalize W1.drewN nq = W2 at *
      have HC := hide (And.intro k0' (And.intro k1' (And.intro c3' d3')))
      clear k1' d3'
      generalize hbq : wr.heap.size = bq at hbx HC k0' ⊢
      have HBQ := hide hbq
      have hgq : g < bq := by omega
      have HFIN : Hid (∀ W3 u, OwnQ (w.heap.size + 1 + 1) W3 u (D ++ qsL pb po qb qo m) → Below (w.heap.size + 1 + 1) W2 W3 → ∃ k', k' < gk ∧ MidS w W3 u (D ++ qsL pb po qb qo m) k') := hide (fun W3 u h1 h2 => by
        obtain ⟨k, hk, hle⟩ := unhide HQP m (Nat.le_refl _)
        have e1 := wtE_a y
        have e2 := unhide HKN
        rw [List.take_of_length_le (by omega)] at hle
        have hs3 := h2.size
        exact ⟨k, by omega, h1, hk.keep (fun b hb => (h2.block b hb).trans ((unhide HBW).block b (by omega))), ((unhide HMM).old.trans ((unhide HBW).mono (by omega))).trans (h2.mono (by omega)), by omega⟩)
      clear hbq HMM HQP HKN HBW hsz hg2 hgb
      go_wp2_with fail
      go_loopw [5, 82] (fun u i W3 => ∃ j : Nat, i = .int .i64 j ∧ j ≤ m ∧ Hid (OwnQ (w.heap.size + 1 + 1) W3 u (D ++ qsL pb po qb qo j) ∧ Below (w.heap.size + 1 + 1) W2 W3 ∧ Oth W2 W3 (.slice (some ⟨g, 0, none⟩) n cap) u)) (fun _ i _ => m - (intOf i).toNat)
      case atStart => exact ⟨0, rfl, Nat.zero_le _, hide ⟨by simpa [qsL] using unhide HP2, Below.refl _ _, Oth.of (Below.refl _ _)⟩⟩
      case round =>
        obtain ⟨j, rfl, hj, HO⟩ := hrel
        obtain ⟨ua, uc, hus⟩ := (unhide HO).1.shape
        rw [List.length_append, qsL_length, hdl] at hus
        subst hus
        by_cases hlt : j < m
        · have hlt2 : (j : Int) < m := by omega
          have q1 : decide (j < m) = true := decide_eq_true hlt
          obtain ⟨⟨e1, e2⟩, e3, e4⟩ := unhide HPA j hlt
          subst e1 e3
          have hbk : ∀ z, wr.cell? ⟨bq, z, none⟩ = W2.cell? ⟨bq, z, none⟩ := fun z => World.cell?_of_block (a := ⟨bq, z, none⟩) ((unhide HO).2.2.keep bq hbx (fun e => by have : bq = g := Option.some.inj e; omega))
          have f0 := (hbk 0).trans (unhide HC).1
          have f1 := (hbk 1).trans (unhide HC).2.1
          have f2 := ((unhide HO).2.1.cell (p := ⟨b, o + 3, none⟩) hbl).trans (unhide HC).2.2.1
          have f3 := ((unhide HO).2.1.cell (p := ⟨b', o' + 3, none⟩) hbl').trans (unhide HC).2.2.2
          have hsr : w.heap.size + 1 + 1 ≤ wr.heap.size := Nat.le_trans hB2 (unhide HO).2.1.size
          have hd9 := below_drewN (Below.refl wr.heap.size wr) 1
          obtain ⟨v9, w9, hr9, ho9, hb9, hq9⟩ := append_q (p := (⟨pb, po + j * 4, none⟩, ⟨qb, qo + j * 4, none⟩)) ((unhide HO).1.below hd9) hsr (by rw [List.length_append, qsL_length]; omega)
          have HO9 : Hid (OwnQ (w.heap.size + 1 + 1) w9 v9 (D ++ qsL pb po qb qo (j + 1)) ∧ Below (w.heap.size + 1 + 1) W2 w9 ∧ Oth W2 w9 (.slice (some ⟨g, 0, none⟩) n cap) v9) := hide ⟨by rw [qsL_succ, ← List.append_assoc]; exact ho9, (unhide HO).2.1.trans ((hd9.mono hsr).trans hb9), (unhide HO).2.2.trans ((Oth.of hd9).trans hq9)⟩
          have hbk9 : ∀ z, w9.cell? ⟨bq, z, none⟩ = W2.cell? ⟨bq, z, none⟩ := fun z => World.cell?_of_block (a := ⟨bq, z, none⟩) ((unhide HO9).2.2.keep bq hbx (fun e => by have : bq = g := Option.some.inj e; omega))
          have H9 : Hid (w9.cell? ⟨bq, 0, none⟩ = some (.pointer (some ⟨b, o, none⟩)) ∧ w9.cell? ⟨bq, 1, none⟩ = some (.pointer (some ⟨b', o', none⟩)) ∧ w9.cell? ⟨b, o + 3, none⟩ = some (.slice (some ⟨pb, po, none⟩) m sc) ∧ w9.cell? ⟨b', o' + 3, none⟩ = some (.slice (some ⟨qb, qo, none⟩) m sc')) := hide ⟨(hbk9 0).trans (unhide HC).1, (hbk9 1).trans (unhide HC).2.1, ((unhide HO9).2.1.cell (p := ⟨b, o + 3, none⟩) hbl).trans (unhide HC).2.2.1, ((unhide HO9).2.1.cell (p := ⟨b', o' + 3, none⟩) hbl').trans (unhide HC).2.2.2⟩
          have HR9 := hide hr9
          obtain ⟨a9, c9, hv9⟩ := ho9.shape
          generalize hn9 : (List.length _) = n9 at hv9
          subst hv9
          clear hbk hbk9 ho9 hb9 hq9 hr9 hd9 hn9 c3' k0' HO HC
          go_wp2_with fail
          go_region_held3 (fun W => W.cell? ⟨bq, 0, none⟩ = some (.pointer (some ⟨b, o, none⟩)) ∧ W.cell? ⟨bq, 1, none⟩ = some (.pointer (some ⟨b', o', none⟩)) ∧ W.cell? ⟨b, o + 3, none⟩ = some (.slice (some ⟨pb, po, none⟩) m sc) ∧ W.cell? ⟨b', o' + 3, none⟩ = some (.slice (some ⟨qb, qo, none⟩) m sc'))
            (first | exact unhide H9 | go_keep)
            ((refine step_append_runQ rfl _ _ rfl rfl _ _ rfl rfl _ _ (unhide HR9) ?_))
          all_goals (
            go_wp2
            go_roundw
            case rel => exact ⟨j + 1, by go_num, by omega, HO9⟩
            case measure => simp [intOf]; omega)
        · have q1 : decide (j < m) = false := decide_eq_false hlt
          have hjm : j = m := by omega
          obtain ⟨k', hk', hM'⟩ := unhide HFIN wr (.slice ua (n + j) uc) (by rw [← hjm]; exact (unhide HO).1) (unhide HO).2.1
          have HM' := hide hM'
          clear hM' hjm
          go_wp2
          go_roundg k'
          case measure => exact hk'
          case rel => exact ⟨by omega, _, HM'⟩
end Go.Proofs.YtepnafnljfjeoaaGreatDoor.Line
