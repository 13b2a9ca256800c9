/- Nodes in the order in which a walk tells them, each with how deep it is.
   A walk's memory: what is left to be gone over; who is told of each node (Visitor). -/
import Derived.Test.YthkbchefjagbbaaGreatDoorStGaA
import Derived.Test.YthkbchefjagbbaaGreatDoorTrOpsA
namespace Go.Proofs.YthkbchefjagbbaaGreatDoor.Line
open Ex (E St)
set_option linter.unusedVariables false

mutual
def PN.pre : PN → Nat → List (PN × Nat)
  | .mk line en ps body els mid, d => (.mk line en ps body els mid, d) :: (preL body (d + 1) ++ preL els (d + 1))
def preL : List PN → Nat → List (PN × Nat)
  | [], _ => []
  | n :: l, d => n.pre d ++ preL l d
end
theorem preL_nil (d : Nat) : preL [] d = [] := by rw [preL]
theorem preL_cons (n : PN) (l : List PN) (d : Nat) : preL (n :: l) d = (n, d) :: (preL n.body (d + 1) ++ preL n.els (d + 1) ++ preL l d) := by
  cases n with
  | mk line en ps body els mid => rw [preL, PN.pre]; rfl
theorem preL_append (l m : List PN) (d : Nat) : preL (l ++ m) d = preL l d ++ preL m d := by
  induction l with
  | nil => rw [preL_nil]; rfl
  | cons n l ih => rw [List.cons_append, preL_cons, preL_cons, ih]; simp
/-- what is left to be gone over: the next list first -/
def restP (K : List (List PN × Nat)) : List (PN × Nat) := K.flatMap fun x => preL x.1 x.2
theorem restP_nil (d : Nat) (K : List (List PN × Nat)) : restP (([], d) :: K) = restP K := by
  show preL [] d ++ restP K = _
  rw [preL_nil]; rfl
theorem restP_cons (n : PN) (l : List PN) (d : Nat) (K : List (List PN × Nat)) : restP ((n :: l, d) :: K) = (n, d) :: restP ((n.body, d + 1) :: (n.els, d + 1) :: (l, d) :: K) := by
  show preL (n :: l) d ++ restP K = (n, d) :: (preL n.body (d + 1) ++ (preL n.els (d + 1) ++ (preL l d ++ restP K)))
  rw [preL_cons]
  simp
theorem restP_one (l : List PN) (d : Nat) : restP [(l, d)] = preL l d := by
  show preL l d ++ [] = _
  rw [List.append_nil]
end Go.Proofs.YthkbchefjagbbaaGreatDoor.Line

namespace Go.Proofs.YthkbchefjagbbaaGreatDoor.Line
open Go.ChangeShapes Go.WideShapes Go.ChangeAt Go.RowKit
open Ex (E St)
set_option linter.unusedVariables false

abbrev RST : TypeId := 226
abbrev RSS : TypeId := 227
theorem infoRS : (Tryz.prog.info? RST).map (fun i => (i.zero, i.size, i.bytes)) = some (some (.agg #[.slice none 0 0, .int .i64 0]), 2, 32) := by kernel_rfl
/-- but for blocks of X, and new ones, nothing has turned -/
structure Upd (X : Nat → Prop) (w w' : World) : Prop where
  os : w'.os = w.os
  tape : w'.tape = w.tape
  output : w'.output = w.output
  size : w.heap.size ≤ w'.heap.size
  block : ∀ b, b < w.heap.size → ¬ X b → w'.heap[b]? = w.heap[b]?
theorem Upd.refl (X : Nat → Prop) (w : World) : Upd X w w := ⟨rfl, rfl, rfl, Nat.le_refl _, fun _ _ _ => rfl⟩
theorem Upd.trans {X : Nat → Prop} {a b c : World} (h : Upd X a b) (k : Upd X b c) : Upd X a c := ⟨k.os.trans h.os, k.tape.trans h.tape, k.output.trans h.output, Nat.le_trans h.size k.size, fun i h1 h2 => (k.block i (Nat.lt_of_lt_of_le h1 h.size) h2).trans (h.block i h1 h2)⟩
theorem Upd.mono {X Y : Nat → Prop} {w w' : World} (h : Upd X w w') (hxy : ∀ b, b < w.heap.size → X b → Y b) : Upd Y w w' := ⟨h.os, h.tape, h.output, h.size, fun b h1 h2 => h.block b h1 (fun hx => h2 (hxy b h1 hx))⟩
theorem Upd.below {X : Nat → Prop} {w w' : World} (h : Below w.heap.size w w') : Upd X w w' := ⟨h.os, h.tape, h.output, h.size, fun b h1 _ => h.block b h1⟩
theorem Upd.toBelow {X : Nat → Prop} {w w' : World} (h : Upd X w w') (hx : ∀ b, b < w.heap.size → ¬ X b) : Below w.heap.size w w' := ⟨h.os, h.tape, h.output, h.size, fun b h1 => h.block b h1 (hx b h1)⟩
theorem Upd.set {X : Nat → Prop} (w : World) (p : Addr) (u : Value) (hp : X p.block) : Upd X w (w.setCell p u) := ⟨rfl, rfl, rfl, by simp [World.setCell], fun b _ hb => Below.heap_setCell _ _ _ _ (fun e => hb (e ▸ hp))⟩
theorem Upd.grown {X : Nat → Prop} {w w' : World} {row : Option Nat} (h : w.grownBy w' row) (hr : ∀ k, row = some k → X k) : Upd X w w' := ⟨h.os, h.tape, h.output, h.size, fun b h1 hb => h.block b h1 (fun e => hb (hr b e.symm))⟩
theorem Nodes.upd {X S : Nat → Prop} {w w' : World} {l : List PN} {v : Value} (h : Nodes w S l v) (hu : Upd X w w') (hx : ∀ b, S b → ¬ X b) : Nodes w' S l v := h.keep (fun b hb hl => hu.block b hl (hx b hb)) (fun _ h _ => h)
/-- one that is told of each node: what holds when those of a list have been told (J), and when it wants no more (Jend); A: blocks that it leaves alone -/
structure Visitor (F : FuncId) (caps : Array Value) (L0 : List (PN × Nat)) (S : Nat → Prop) (J Jend : List (PN × Nat) → (Nat → Prop) → World → Prop) : Prop where
  frame : ∀ vis A W W', J vis A W → Upd A W W' → J vis A W'
  fresh : ∀ vis A A' W, J vis A W → (∀ b, A' b → A b ∨ W.heap.size ≤ b) → J vis A' W
  enter : ∀ args W, (callFunc F args).run Tryz.prog W = .ok (.enter F args) W
  endLess : ∀ vis A A' W, Jend vis A W → (∀ b, A' b → A b) → Jend vis A' W
  call : ∀ vis A W n (d : Nat) c, J vis A W → (∀ b, S b → A b) → Node1 W S c n → d ≤ 1000000 → vis.length ≤ 1000000 → (∃ rest, L0 = vis ++ (n, d) :: rest) →
    Calls Tryz.prog F (#[.agg c.cells.toArray, .int .i64 d] ++ caps) W fun e W' => ∃ r, e = .returned (.bool r) ∧ Upd (fun b => ¬ A b) W W' ∧ (r = true → J (vis ++ [(n, d)]) A W') ∧ (r = false → Jend (vis ++ [(n, d)]) A W')
abbrev Ent : Type := List PN × Nat × Value
def entC (x : Ent) : List Value := [x.2.2, .int .i64 x.2.1]
def flatQ (K : List Ent) : List Value := K.flatMap entC
theorem flatQ_length (K : List Ent) : (flatQ K).length = K.length * 2 := by
  induction K with
  | nil => rfl
  | cons t l ih => show (entC t ++ flatQ l).length = _; rw [List.length_append, ih, List.length_cons]; show 2 + l.length * 2 = _; omega
theorem flatQ_append (l m : List Ent) : flatQ (l ++ m) = flatQ l ++ flatQ m := by simp [flatQ]
theorem flatQ_rev (x : Ent) (K : List Ent) : flatQ (x :: K).reverse = flatQ K.reverse ++ entC x := by
  rw [List.reverse_cons, flatQ_append]; simp [flatQ]
theorem flatQ_rev_len (K : List Ent) : (flatQ K.reverse).length = K.length * 2 := by rw [flatQ_length, List.length_reverse]
/-- where a walk stands -/
structure WInv (w wr : World) (S A0 : Nat → Prop) (J : List (PN × Nat) → (Nat → Prop) → World → Prop) (l0 : List PN) (lv : Value) (K : List Ent) (vis : List (PN × Nat)) : Prop where
  row : wr.ownsRow w.heap.size RST 2 lv K.length (flatQ K.reverse)
  nodes : ∀ x ∈ K, Nodes wr S x.1 x.2.2
  deep : ∀ x ∈ K, x.2.1 ≤ vis.length
  total : preL l0 0 = vis ++ restP (K.map fun x => (x.1, x.2.1))
  j : J vis (fun b => A0 b ∨ some b = lv.ownBlock) wr
  upd : Upd (fun b => ¬ A0 b) w wr
  klen : K.length ≤ 2 * vis.length + 1
theorem WInv.shape {w wr : World} {S A0 : Nat → Prop} {J : List (PN × Nat) → (Nat → Prop) → World → Prop} {l0 : List PN} {lv : Value} {x : Ent} {K : List Ent} {vis : List (PN × Nat)} (h : WInv w wr S A0 J l0 lv (x :: K) vis) : ∃ g cap, lv = .slice (some ⟨g, 0, none⟩) (K.length + 1) cap ∧ K.length + 1 ≤ cap ∧ w.heap.size ≤ g ∧ g < wr.heap.size ∧ wr.cell? ⟨g, K.length * 2, none⟩ = some x.2.2 ∧ wr.cell? ⟨g, K.length * 2 + 1, none⟩ = some (.int .i64 x.2.1) ∧ (∀ o, wr.frozen? ⟨g, o, none⟩ = false) := by
  have hrow := h.row
  rcases hrow.2 with ⟨e, h5⟩ | ⟨g, cap, cur, e, hg, hh, hc, _⟩
  · simp at h5
  · subst e
    have hl := flatQ_rev_len K
    refine ⟨g, cap, rfl, hc, hg, (hrow.lt g rfl).2, ?_, ?_, fun o => World.ownsRow.frozenAt hrow o⟩
    · rw [World.ownsRow.cellAt hrow _ (by rw [List.length_cons]; omega), flatQ_rev, List.getElem?_append_right (by omega), hl, Nat.sub_self]; rfl
    · rw [World.ownsRow.cellAt hrow _ (by rw [List.length_cons]; omega), flatQ_rev, List.getElem?_append_right (by omega), hl, Nat.add_sub_cancel_left]; rfl
theorem row_shrink {w : World} {base g n size cap : Nat} {e : TypeId} {xs ys : List Value} (h : w.ownsRow base e size (.slice (some ⟨g, 0, none⟩) (n + 1) cap) (n + 1) (xs ++ ys)) (hx : xs.length = n * size) : w.ownsRow base e size (.slice (some ⟨g, 0, none⟩) n cap) n xs := by
  rcases h.2 with ⟨e, _⟩ | ⟨g', cp, cur, e, hg, hh, hc, hm, hs, ht⟩
  · cases e
  · injection e with e1 e2 e3
    injection e1 with e1
    injection e1 with e1
    subst e1 e3
    refine ⟨hx, .inr ⟨g, cap, cur, rfl, hg, hh, by omega, hm, hs, ?_⟩⟩
    have h8 := congrArg (List.take (n * size)) ht
    rw [List.take_take, Nat.min_eq_left (Nat.mul_le_mul_right _ (by omega)), List.take_left' hx] at h8
    exact h8
/-- a list that is gone over is left -/
theorem WInv.pop {w wr : World} {S A0 : Nat → Prop} {J : List (PN × Nat) → (Nat → Prop) → World → Prop} {l0 : List PN} {d : Nat} {v : Value} {g cap : Nat} {K : List Ent} {vis : List (PN × Nat)} (h : WInv w wr S A0 J l0 (.slice (some ⟨g, 0, none⟩) (K.length + 1) cap) (([], d, v) :: K) vis) : WInv w wr S A0 J l0 (.slice (some ⟨g, 0, none⟩) K.length cap) K vis := by
  have hrow := h.row
  rw [flatQ_rev, List.length_cons] at hrow
  refine ⟨row_shrink hrow (flatQ_rev_len K), fun x hx => h.nodes x (List.mem_cons_of_mem _ hx), fun x hx => h.deep x (List.mem_cons_of_mem _ hx), ?_, h.j, h.upd, by have := h.klen; rw [List.length_cons] at this; omega⟩
  have := h.total
  rw [List.map_cons, restP_nil] at this
  exact this
/-- nodes but the first one -/
theorem Nodes.tail {W : World} {S : Nat → Prop} {n : PN} {l : List PN} {b off cap : Nat} (h : Nodes W S (n :: l) (.slice (some ⟨b, off, none⟩) (l.length + 1) cap)) : Nodes W S l (.slice (if cap = 1 then some ⟨b, off, none⟩ else some ⟨b, off + 34, none⟩) l.length (cap - 1)) := by
  cases h with
  | row _ _ _ _ cs hS hcap hmax hl hc h1 h2 hb he =>
    by_cases h0 : l.length = 0
    · rw [h0, List.length_eq_zero_iff.1 h0]; exact .nil _ _
    · rw [List.length_cons] at hcap
      rw [if_neg (by omega)]
      refine .row l b (off + 34) (cap - 1) (fun i => cs (i + 1)) hS (by omega) (by omega) (by omega) (fun i hi => ?_) (fun i hi => h1 (i + 1) (by simp; omega)) (fun i hi => h2 (i + 1) (by simp; omega)) (fun i hi => hb (i + 1) (by simp; omega)) (fun i hi => he (i + 1) (by simp; omega))
      have := hc (i + 1) (by simp; omega)
      rw [show off + 34 + i * 34 = off + (i + 1) * 34 by omega]
      exact this
/-- the first one -/
theorem Nodes.head {W : World} {S : Nat → Prop} {n : PN} {l : List PN} {v : Value} (h : Nodes W S (n :: l) v) : ∃ b off cap c, v = .slice (some ⟨b, off, none⟩) (l.length + 1) cap ∧ l.length + 1 ≤ cap ∧ cap ≤ maxLen ∧ S b ∧ b < W.heap.size ∧ W.rangeAt b off c.cells ∧ Node1 W S c n := by
  cases h with
  | row _ b off cap cs hS hcap hmax hl hc h1 h2 hb he =>
    have hr := hc 0 hl
    rw [Nat.zero_mul, Nat.add_zero] at hr
    exact ⟨b, off, cap, cs 0, rfl, hcap, hmax, hS, range_lt hr, hr, ⟨(h1 0 hl).1, (h1 0 hl).2.1, (h1 0 hl).2.2, h2 0 hl, hb 0 hl, he 0 hl⟩⟩
/-- a node is told: what is in it is to be gone over next -/
theorem WInv.push2 {F : FuncId} {caps : Array Value} {L0 : List (PN × Nat)} {w W2 : World} {S A0 : Nat → Prop} {J Jend : List (PN × Nat) → (Nat → Prop) → World → Prop} (V : Visitor F caps L0 S J Jend) {l0 : List PN} {n : PN} {l' : List PN} {d : Nat} {tv ev bv : Value} {g q cap : Nat} {K : List Ent} {vis' : List (PN × Nat)}
    (hrow : W2.ownsRow w.heap.size RST 2 (.slice (some ⟨g, 0, none⟩) (K.length + 1) cap) (K.length + 1) (flatQ ((l', d, tv) :: K).reverse)) (hb : Nodes W2 S n.body bv) (he : Nodes W2 S n.els ev) (ht : Nodes W2 S l' tv) (hK : ∀ x ∈ K, Nodes W2 S x.1 x.2.2) (hg : w.heap.size ≤ g) (hS : ∀ b, S b → b < w.heap.size)
    (hd : ∀ x ∈ K, x.2.1 ≤ vis'.length) (hdd : d + 1 ≤ vis'.length) (htot : preL l0 0 = vis' ++ restP ((n.body, d + 1) :: (n.els, d + 1) :: (l', d) :: K.map fun x => (x.1, x.2.1))) (hJ : J vis' (fun b => A0 b ∨ b = g ∨ b = q) W2) (hU : Upd (fun b => ¬ A0 b) w W2) (hA : ∀ b, A0 b → b < w.heap.size) (hkl : K.length + 3 ≤ 2 * vis'.length + 1) (hv : vis'.length ≤ 1000000) :
    ∃ v' w9, (Builtin.append_ #[RSS, RSS] RSS #[.slice (some ⟨g, 0, none⟩) (K.length + 1) cap, .slice (some ⟨W2.heap.size, 0, none⟩) 2 2]).run Tryz.prog (W2.alloc (.cells #[ev, .int .i64 ((d : Int) + 1), bv, .int .i64 ((d : Int) + 1)] RST)) = .ok v' w9 ∧
      WInv w w9 S A0 J l0 v' ((n.body, d + 1, bv) :: (n.els, d + 1, ev) :: (l', d, tv) :: K) vis' := by
  obtain ⟨i0, hi, hz0, hz1, hz2⟩ := info_parts infoRS
  obtain ⟨a1, c1, e1⟩ := hb.shape
  obtain ⟨a2, c2, e2⟩ := he.shape
  have hgl := (hrow.lt g rfl).2
  have hws := hU.size
  have hsz : (W2.alloc (.cells #[ev, .int .i64 ((d : Int) + 1), bv, .int .i64 ((d : Int) + 1)] RST)).heap.size = W2.heap.size + 1 := by simp
  have ba := alloc_below W2 (.cells #[ev, .int .i64 ((d : Int) + 1), bv, .int .i64 ((d : Int) + 1)] RST)
  obtain ⟨v', w9, hr, ho, hgr, hnil, hat⟩ := run_append_own_at (P := Tryz.prog) (W2.alloc (.cells #[ev, .int .i64 ((d : Int) + 1), bv, .int .i64 ((d : Int) + 1)] RST)) w.heap.size RSS RSS RST i0 _ 2 32 Tryz.underlying227 hi hz0 hz1 hz2 rfl (by decide) _ _ _ (hrow.alloc _) ⟨W2.heap.size, 0, none⟩ 2 2 [ev, .int .i64 ((d : Int) + 1), bv, .int .i64 ((d : Int) + 1)] rfl
    (World.news_of_block (cs := #[ev, .int .i64 ((d : Int) + 1), bv, .int .i64 ((d : Int) + 1)]) (t := RST) (fr := (0, 0)) (heap_alloc_last W2 _))
    (by intro u hu; rw [e1, e2] at hu; simp only [List.mem_cons, List.not_mem_nil, or_false] at hu; rcases hu with rfl | rfl | rfl | rfl <;> rfl) (by unfold maxLen; omega) (by omega) (by omega)
  rw [hsz] at hat
  have hup : Upd (fun b => b = g) W2 w9 := ⟨hgr.os.trans ba.os, hgr.tape.trans ba.tape, hgr.output.trans ba.output, Nat.le_trans ba.size hgr.size, fun b h1 h2 => (hgr.block b (by omega) (fun e => h2 (Option.some.inj e))).trans (ba.block b h1)⟩
  have hN : ∀ {l : List PN} {v : Value}, Nodes W2 S l v → Nodes w9 S l v := fun h => h.upd hup (fun b hb2 e => by have := hS b hb2; omega)
  refine ⟨v', w9, hr, ⟨?_, fun x hx => ?_, fun x hx => ?_, htot, ?_, hU.trans (hup.mono (fun b _ e ha => by have := hA b ha; omega)), by simp only [List.length_cons]; omega⟩⟩
  · rw [flatQ_rev, flatQ_rev]
    simp only [List.length_cons] at ho ⊢
    rw [List.append_assoc]
    exact ho
  · rcases List.mem_cons.1 hx with rfl | hx
    · exact hN hb
    rcases List.mem_cons.1 hx with rfl | hx
    · exact hN he
    rcases List.mem_cons.1 hx with rfl | hx
    · exact hN ht
    · exact hN (hK x hx)
  · rcases List.mem_cons.1 hx with rfl | hx
    · exact hdd
    rcases List.mem_cons.1 hx with rfl | hx
    · exact hdd
    rcases List.mem_cons.1 hx with rfl | hx
    · show d ≤ _; omega
    · exact hd x hx
  · have h1 := V.fresh vis' _ (fun b => (A0 b ∨ b = g ∨ b = q) ∨ some b = v'.ownBlock) W2 hJ (fun b hb2 => by
      rcases hb2 with hb2 | hb2
      · exact .inl hb2
      · rcases hat with e | e
        · rw [e] at hb2
          exact .inl (.inr (.inl (Option.some.inj hb2)))
        · rw [e] at hb2
          injection hb2 with hb2
          exact .inr (by omega))
    have h2 := V.frame vis' _ W2 w9 h1 (hup.mono (fun b _ e => .inl (.inr (.inl e))))
    exact V.fresh vis' _ _ w9 h2 (fun b hb2 => by
      rcases hb2 with hb2 | hb2
      · exact .inl (.inl (.inl hb2))
      · exact .inl (.inr hb2))
/-- the first node is taken: the others are left where it stood; all is ready for it to be told -/
theorem WInv.take1 {F : FuncId} {caps : Array Value} {L0 : List (PN × Nat)} {w wr W3 : World} {S A0 : Nat → Prop} {J Jend : List (PN × Nat) → (Nat → Prop) → World → Prop} (V : Visitor F caps L0 S J Jend) {l0 : List PN} {n : PN} {l' : List PN} {d b off ncap g cap : Nat} {K : List Ent} {vis : List (PN × Nat)} {c : NC}
    (h : WInv w wr S A0 J l0 (.slice (some ⟨g, 0, none⟩) (K.length + 1) cap) ((n :: l', d, .slice (some ⟨b, off, none⟩) (l'.length + 1) ncap) :: K) vis) (hc : Node1 wr S c n) (hg : w.heap.size ≤ g) (hS : ∀ b, S b → b < w.heap.size) (hA : ∀ b, A0 b → b < w.heap.size) (hb3 : Below wr.heap.size wr W3) (hq : wr.heap.size < W3.heap.size) (hrg : W3.rangeAt wr.heap.size 0 c.cells) (TV : Value) (hTV : TV = .slice (if ncap = 1 then some ⟨b, off, none⟩ else some ⟨b, off + 34, none⟩) l'.length (ncap - 1)) :
    (W3.setCell ⟨g, K.length * 2, none⟩ TV).ownsRow w.heap.size RST 2 (.slice (some ⟨g, 0, none⟩) (K.length + 1) cap) (K.length + 1) (flatQ ((l', d, TV) :: K).reverse) ∧ Nodes (W3.setCell ⟨g, K.length * 2, none⟩ TV) S l' TV ∧ (∀ x ∈ K, Nodes (W3.setCell ⟨g, K.length * 2, none⟩ TV) S x.1 x.2.2) ∧ Node1 (W3.setCell ⟨g, K.length * 2, none⟩ TV) S c n ∧
      J vis (fun b => A0 b ∨ b = g ∨ b = wr.heap.size) (W3.setCell ⟨g, K.length * 2, none⟩ TV) ∧ Upd (fun b => ¬ A0 b) w (W3.setCell ⟨g, K.length * 2, none⟩ TV) ∧ (W3.setCell ⟨g, K.length * 2, none⟩ TV).rangeAt wr.heap.size 0 c.cells ∧ wr.heap.size < (W3.setCell ⟨g, K.length * 2, none⟩ TV).heap.size ∧ g < wr.heap.size := by
  subst hTV
  have hrow := h.row
  have hgl := (hrow.lt g rfl).2
  have hws := h.upd.size
  have hu : Upd (fun b => b = g) wr (W3.setCell ⟨g, K.length * 2, none⟩ (.slice (if ncap = 1 then some ⟨b, off, none⟩ else some ⟨b, off + 34, none⟩) l'.length (ncap - 1))) := (Upd.below hb3).trans (Upd.set W3 _ _ rfl)
  have hsg : ∀ q, S q → ¬ q = g := fun q hq e => by have := hS q hq; omega
  refine ⟨?_, ((h.nodes _ List.mem_cons_self).tail).upd hu hsg, fun x hx => (h.nodes x (List.mem_cons_of_mem _ hx)).upd hu hsg, hc.keep (fun q hq hl => hu.block q hl (hsg q hq)) (fun _ h _ => h), ?_, h.upd.trans (hu.mono (fun q _ e ha => by have := hA q ha; omega)), range_keep hrg (set_heap (by omega)), by simp [World.setCell]; exact hq, hgl⟩
  · have h3 : W3.ownsRow w.heap.size RST 2 (.slice (some ⟨g, 0, none⟩) (K.length + 1) cap) (K.length + 1) (flatQ ((n :: l', d, .slice (some ⟨b, off, none⟩) (l'.length + 1) ncap) :: K).reverse) := ownsRow_of hrow (fun k hk => by
      have : g = k := Option.some.inj hk
      subst this
      exact hb3.block g hgl)
    have h4 := (h3.stored (K.length * 2) (.slice (if ncap = 1 then some ⟨b, off, none⟩ else some ⟨b, off + 34, none⟩) l'.length (ncap - 1))).1
    rw [flatQ_rev, List.set_append_right _ _ (Nat.le_of_eq (flatQ_rev_len K)), flatQ_rev_len, Nat.sub_self] at h4
    rw [flatQ_rev]
    exact h4
  · have h1 := V.fresh vis _ (fun b => A0 b ∨ b = g ∨ b = wr.heap.size) wr h.j (fun q hq => by
      rcases hq with hq | hq | hq
      · exact .inl (.inl hq)
      · exact .inl (.inr (by rw [hq]; rfl))
      · exact .inr (by omega))
    exact V.frame vis _ wr _ h1 (hu.mono (fun q _ e => .inr (.inl e)))
end Go.Proofs.YthkbchefjagbbaaGreatDoor.Line
