/- Nodes in memory: 34 cells each; nodes that are read alone (Nodes); rows of them that a call owns (OwnL).
   A row of nodes gets one more, and the row's place is told of it: what memory is then, in whichever order it is stored.
   The builder of blocks in memory: what is done, what is open (Opens, BlAt); one more open, one more put in, one closed. -/
import Derived.Test.YthkbchefjagbbaaGreatDoorStGaA
import Derived.Deep.MidRow
import Derived.Maps.AppendAt
namespace Go.Proofs.YthkbchefjagbbaaGreatDoor.Line
open Go.ChangeShapes Go.WideShapes Go.ChangeAt Go.RowKit
open Ex (E St)
set_option linter.unusedVariables false

abbrev NDT : TypeId := 85
abbrev NDS : TypeId := 82
abbrev zeroND : Array Value := #[.int .i64 0, .int .i64 0, .int .i64 0, .slice none 0 0, .int .i64 0, .int .i64 0, .string ⟨#[]⟩, .slice none 0 0, .int .i64 0, .int .i64 0, .string ⟨#[]⟩, .slice none 0 0, .string ⟨#[]⟩, .int .i64 0, .int .i64 0, .string ⟨#[]⟩, .slice none 0 0, .int .i64 0, .int .i64 0, .string ⟨#[]⟩, .slice none 0 0, .string ⟨#[]⟩, .int .i64 0, .int .i64 0, .string ⟨#[]⟩, .slice none 0 0, .int .i64 0, .int .i64 0, .string ⟨#[]⟩, .slice none 0 0, .int .i64 0, .slice none 0 0, .slice none 0 0, .int .i64 0]
theorem infoND : (Tryz.prog.info? NDT).map (fun i => (i.zero, i.size, i.bytes)) = some (some (.agg zeroND), 34, 480) := by kernel_rfl
theorem sizeND : (Tryz.prog.info? NDT).map (·.size) = some 34 := by kernel_rfl
/-- a node's cells -/
structure NC where
  line : Nat
  en : Nat
  cs : Array Value
  bv : Value
  ev : Value
  mid : Int
def NC.cells (c : NC) : List Value := .int .i64 c.line :: .int .i64 c.en :: (c.cs.toList ++ [c.bv, c.ev, .int .i64 c.mid])
theorem NC.len {c : NC} (h : c.cs.size = 29) : c.cells.length = 34 := by simp [NC.cells, h]
def flatN (l : List NC) : List Value := l.flatMap NC.cells
theorem flatN_length (l : List NC) (h : ∀ c ∈ l, c.cs.size = 29) : (flatN l).length = l.length * 34 := by
  induction l with
  | nil => rfl
  | cons t l ih =>
    show (NC.cells t ++ flatN l).length = _
    rw [List.length_append, ih (fun c hc => h c (List.mem_cons_of_mem _ hc)), NC.len (h t List.mem_cons_self), List.length_cons]
    omega
theorem flatN_append (l m : List NC) : flatN (l ++ m) = flatN l ++ flatN m := by simp [flatN]
theorem flatN_one (c : NC) : flatN [c] = c.cells := by simp [flatN]
theorem flatN_get (l : List NC) (h : ∀ c ∈ l, c.cs.size = 29) : ∀ (i : Nat) (hi : i < l.length) (j : Nat), j < 34 → (flatN l)[i * 34 + j]? = l[i].cells[j]? := by
  induction l with
  | nil => intro i hi; simp at hi
  | cons t l ih =>
    intro i hi j hj
    have ht : t.cells.length = 34 := NC.len (h t List.mem_cons_self)
    have e : flatN (t :: l) = t.cells ++ flatN l := rfl
    cases i with
    | zero => rw [e, List.getElem?_append_left (by omega)]; simp
    | succ i =>
      rw [e, List.getElem?_append_right (by omega), ht, show (i + 1) * 34 + j - 34 = i * 34 + j by omega]
      exact ih (fun c hc => h c (List.mem_cons_of_mem _ hc)) i (by simpa using hi) j hj
/-- nodes in memory, to be read alone: in blocks of S -/
inductive Nodes (W : World) (S : Nat → Prop) : List PN → Value → Prop
  | nil (a : Option Addr) (cap : Nat) : Nodes W S [] (.slice a 0 cap)
  | row (l : List PN) (b off cap : Nat) (cs : Nat → NC) (hS : S b) (hcap : l.length ≤ cap) (hmax : cap ≤ maxLen) (hl : 0 < l.length)
      (hc : ∀ i (h : i < l.length), W.rangeAt b (off + i * 34) (cs i).cells)
      (h1 : ∀ i (h : i < l.length), (cs i).line = l[i].line ∧ (cs i).en = l[i].en ∧ (cs i).mid = l[i].mid)
      (h2 : ∀ i (h : i < l.length), HoldsF S W (cs i).cs l[i].ps.full)
      (hb : ∀ i (h : i < l.length), Nodes W S l[i].body (cs i).bv)
      (he : ∀ i (h : i < l.length), Nodes W S l[i].els (cs i).ev) : Nodes W S l (.slice (some ⟨b, off, none⟩) l.length cap)
theorem Nodes.shape {W : World} {S : Nat → Prop} {l : List PN} {v : Value} (h : Nodes W S l v) : ∃ a cap, v = .slice a l.length cap := by
  cases h with
  | nil a cap => exact ⟨a, cap, rfl⟩
  | row _ b off cap cs hS hcap hmax hl hc h1 h2 hb he => exact ⟨_, _, rfl⟩
theorem range_keep {W W' : World} {b o : Nat} {cs : List Value} (h : W.rangeAt b o cs) (hb : W'.heap[b]? = W.heap[b]?) : W'.rangeAt b o cs := fun j v hv => (World.cell?_of_block (a := ⟨b, o + j, none⟩) hb).trans (h j v hv)
theorem range_lt {W : World} {b o : Nat} {c : NC} (h : W.rangeAt b o c.cells) : b < W.heap.size := cell_lt (h 0 _ rfl)
theorem Nodes.keep {W W' : World} {S S' : Nat → Prop} {l : List PN} {v : Value} (h : Nodes W S l v) (hk : ∀ b, S b → b < W.heap.size → W'.heap[b]? = W.heap[b]?) (hs : ∀ b, S b → b < W.heap.size → S' b) : Nodes W' S' l v := by
  induction h with
  | nil a cap => exact .nil a cap
  | row l b off cap cs hS hcap hmax hl hc h1 h2 hb he ihb ihe =>
    have hlt : b < W.heap.size := range_lt (hc 0 hl)
    exact .row l b off cap cs (hs b hS hlt) hcap hmax hl (fun i hi => range_keep (hc i hi) (hk b hS hlt)) h1 (fun i hi => (h2 i hi).keep hk hs) ihb ihe
theorem Nodes.old {W W' : World} {S : Nat → Prop} {l : List PN} {v : Value} (h : Nodes W S l v) (hb : Below W.heap.size W W') : Nodes W' S l v := h.keep (fun b _ hl => hb.block b hl) (fun _ h _ => h)
theorem Nodes.mono {W : World} {S S' : Nat → Prop} {l : List PN} {v : Value} (h : Nodes W S l v) (hs : ∀ b, S b → b < W.heap.size → S' b) : Nodes W S' l v := h.keep (fun _ _ _ => rfl) hs
/-- one node: what its cells say -/
structure Node1 (W : World) (S : Nat → Prop) (c : NC) (n : PN) : Prop where
  line : c.line = n.line
  en : c.en = n.en
  mid : c.mid = n.mid
  st : HoldsF S W c.cs n.ps.full
  body : Nodes W S n.body c.bv
  els : Nodes W S n.els c.ev
theorem Node1.keep {W W' : World} {S S' : Nat → Prop} {c : NC} {n : PN} (h : Node1 W S c n) (hk : ∀ b, S b → b < W.heap.size → W'.heap[b]? = W.heap[b]?) (hs : ∀ b, S b → b < W.heap.size → S' b) : Node1 W' S' c n :=
  ⟨h.line, h.en, h.mid, h.st.keep hk hs, h.body.keep hk hs, h.els.keep hk hs⟩
theorem Node1.one {W : World} {S : Nat → Prop} {c : NC} {n : PN} (h : Node1 W S c n) : ∀ v ∈ c.cells, v.oneCell' = true := by
  obtain ⟨a1, c1, e1⟩ := h.body.shape
  obtain ⟨a2, c2, e2⟩ := h.els.shape
  have hs := Array.all_eq_true_iff_forall_mem.1 h.st.size.2
  intro v hv
  unfold NC.cells at hv
  rw [e1, e2] at hv
  rcases List.mem_cons.1 hv with rfl | hv
  · rfl
  rcases List.mem_cons.1 hv with rfl | hv
  · rfl
  rcases List.mem_append.1 hv with hv | hv
  · exact hs v (by simpa using hv)
  · rcases List.mem_cons.1 hv with rfl | hv
    · rfl
    rcases List.mem_cons.1 hv with rfl | hv
    · rfl
    rw [List.mem_singleton.1 hv]; rfl
/-- nodes in a row of a call's own: in blocks from lo on, below hi, not go -/
def Lies (lo hi go : Nat) (v : Value) (b : Nat) : Prop := lo ≤ b ∧ b < hi ∧ b ≠ go ∧ some b ≠ v.ownBlock
structure OwnL (W : World) (lo hi go : Nat) (v : Value) (ps : List (NC × PN)) : Prop where
  row : W.ownsRow lo NDT 34 v ps.length (flatN (ps.map (·.1)))
  blk : ∀ k, v.ownBlock = some k → k < hi ∧ k ≠ go
  one : ∀ p ∈ ps, Node1 W (Lies lo hi go v) p.1 p.2
theorem OwnL.nil (W : World) (lo hi go : Nat) : OwnL W lo hi go (.slice none 0 0) [] := ⟨World.ownsRow_nil _ _ _ _, fun k hk => by simp [Value.ownBlock] at hk, fun p hp => by cases hp⟩
theorem OwnL.shape {W : World} {lo hi go : Nat} {v : Value} {ps : List (NC × PN)} (h : OwnL W lo hi go v ps) : ∃ a cap, v = .slice a ps.length cap := by
  rcases h.row.2 with ⟨rfl, h5⟩ | ⟨g, cap, cur, rfl, _⟩
  · exact ⟨none, 0, by rw [h5]⟩
  · exact ⟨_, _, rfl⟩
theorem OwnL.sizes {W : World} {lo hi go : Nat} {v : Value} {ps : List (NC × PN)} (h : OwnL W lo hi go v ps) : ∀ c ∈ ps.map (·.1), c.cs.size = 29 := fun c hc => by
  obtain ⟨p, hp, rfl⟩ := List.mem_map.1 hc
  exact (h.one p hp).st.size.1
theorem ownsRow_of {W W' : World} {base n size : Nat} {e : TypeId} {v : Value} {xs : List Value} (h : W.ownsRow base e size v n xs) (hb : ∀ k, v.ownBlock = some k → W'.heap[k]? = W.heap[k]?) : W'.ownsRow base e size v n xs := by
  refine ⟨h.1, ?_⟩
  rcases h.2 with h2 | ⟨g, cap, cur, hv, hg, hh, r⟩
  · exact .inl h2
  · refine .inr ⟨g, cap, cur, hv, hg, ?_, r⟩
    rw [hb g (by rw [hv]; rfl)]
    exact hh
theorem OwnL.keep {W W' : World} {lo hi hi' go go' : Nat} {v : Value} {ps : List (NC × PN)} (h : OwnL W lo hi go v ps) (hk : ∀ b, lo ≤ b → b < hi → b ≠ go → W'.heap[b]? = W.heap[b]?) (hhi : hi ≤ hi') (hgo : ∀ b, lo ≤ b → b < hi → b < W.heap.size → b ≠ go → b ≠ go') : OwnL W' lo hi' go' v ps := by
  refine ⟨ownsRow_of h.row (fun k hk' => hk k (h.row.lt k hk').1 (h.blk k hk').1 (h.blk k hk').2), fun k hk' => ⟨Nat.lt_of_lt_of_le (h.blk k hk').1 hhi, hgo k (h.row.lt k hk').1 (h.blk k hk').1 (h.row.lt k hk').2 (h.blk k hk').2⟩, fun p hp => (h.one p hp).keep (fun b hb _ => hk b hb.1 hb.2.1 hb.2.2.1) (fun b hb hl => ⟨hb.1, Nat.lt_of_lt_of_le hb.2.1 hhi, hgo b hb.1 hb.2.1 hl hb.2.2.1, hb.2.2.2⟩)⟩
/-- such nodes may be read -/
theorem OwnL.nodes {W : World} {lo hi go : Nat} {v : Value} {ps : List (NC × PN)} (h : OwnL W lo hi go v ps) : Nodes W (fun b => lo ≤ b ∧ b < hi ∧ b ≠ go) (ps.map (·.2)) v := by
  have hsz := h.sizes
  have hlen : (ps.map (·.2)).length = ps.length := List.length_map ..
  rcases h.row.2 with ⟨rfl, h5⟩ | ⟨g, cap, cur, hv, hg, hh, hc, hm, r⟩
  · rw [List.length_eq_zero_iff.1 h5]; exact .nil _ _
  · by_cases h0 : ps.length = 0
    · rw [hv, h0, List.length_eq_zero_iff.1 h0]; exact .nil _ _
    · have hrow := h.row
      have hblk := h.blk
      have hone := h.one
      subst hv
      rw [show (.slice (some ⟨g, 0, none⟩) ps.length cap : Value) = .slice (some ⟨g, 0, none⟩) (ps.map (·.2)).length cap from by rw [hlen]]
      refine .row _ g 0 cap (fun i => (ps[i]?.map (·.1)).getD ⟨0, 0, #[], .nilIface, .nilIface, 0⟩) ⟨hg, hblk g rfl⟩ (by omega) hm (by omega) (fun i hi => ?_) (fun i hi => ?_) (fun i hi => ?_) (fun i hi => ?_) (fun i hi => ?_)
      all_goals
        rw [hlen] at hi
        have h1 := hone ps[i] (List.getElem_mem hi)
        simp only [List.getElem_map, List.getElem?_eq_getElem hi, Option.map_some, Option.getD_some]
      · intro j u hu
        have hj : j < 34 := by
          have := (List.getElem?_eq_some_iff.1 hu).1
          rwa [NC.len h1.st.size.1] at this
        rw [Nat.zero_add, World.ownsRow.cellAt hrow _ (by omega), flatN_get _ hsz i (by rw [List.length_map]; exact hi) j hj, List.getElem_map]
        exact hu
      · exact ⟨h1.line, h1.en, h1.mid⟩
      · exact h1.st.keep (fun _ _ _ => rfl) (fun b hb _ => ⟨hb.1, hb.2.1, hb.2.2.1⟩)
      · exact h1.body.mono (fun b hb _ => ⟨hb.1, hb.2.1, hb.2.2.1⟩)
      · exact h1.els.mono (fun b hb _ => ⟨hb.1, hb.2.1, hb.2.2.1⟩)
end Go.Proofs.YthkbchefjagbbaaGreatDoor.Line

namespace Go.Proofs.YthkbchefjagbbaaGreatDoor.Line
open Go.ChangeShapes Go.WideShapes Go.ChangeAt Go.RowKit
open Ex (E St)
set_option linter.unusedVariables false

theorem setCell_comm (w : World) (a b : Addr) (u v : Value) (h : a.block ≠ b.block) : (w.setCell a u).setCell b v = (w.setCell b v).setCell a u := by
  unfold World.setCell
  simp only [World.mk.injEq, and_true]
  apply Array.ext_getElem?
  intro i
  simp only [Array.getElem?_modify]
  by_cases h1 : b.block = i
  · by_cases h2 : a.block = i
    · exact absurd (h2.trans h1.symm) h
    · simp [h1, h2]
  · by_cases h2 : a.block = i
    · simp [h1, h2]
    · simp [h1, h2]
theorem setCells_comm (a : Addr) (u : Value) (g : Nat) (h : a.block ≠ g) : ∀ (vs : List Value) (o : Nat) (w : World), (w.setCell a u).setCells g o vs = (w.setCells g o vs).setCell a u
  | [], _, _ => rfl
  | v :: r, o, w => by
    show ((w.setCell a u).setCell ⟨g, o, none⟩ v).setCells g (o + 1) r = ((w.setCell ⟨g, o, none⟩ v).setCells g (o + 1) r).setCell a u
    rw [setCell_comm w a ⟨g, o, none⟩ u v h]
    exact setCells_comm a u g h r (o + 1) _
theorem heap_setCells (g k : Nat) (h : k ≠ g) : ∀ (vs : List Value) (o : Nat) (w : World), (w.setCells g o vs).heap[k]? = w.heap[k]?
  | [], _, _ => rfl
  | v :: r, o, w => (heap_setCells g k h r (o + 1) (w.setCell ⟨g, o, none⟩ v)).trans (Below.heap_setCell _ _ _ _ (show k ≠ g from h))
theorem meta_setCells (g : Nat) : ∀ (vs : List Value) (o : Nat) (w : World), (w.setCells g o vs).os = w.os ∧ (w.setCells g o vs).tape = w.tape ∧ (w.setCells g o vs).output = w.output ∧ (w.setCells g o vs).heap.size = w.heap.size
  | [], _, _ => ⟨rfl, rfl, rfl, rfl⟩
  | v :: r, o, w => by
    obtain ⟨h1, h2, h3, h4⟩ := meta_setCells g r (o + 1) (w.setCell ⟨g, o, none⟩ v)
    exact ⟨h1, h2, h3, h4.trans (by simp [World.setCell])⟩
def setL : List Value → Nat → List Value → List Value
  | xs, _, [] => xs
  | xs, o, v :: r => setL (xs.set o v) (o + 1) r
theorem setL_end : ∀ (vs xs zs : List Value), zs.length = vs.length → setL (xs ++ zs) xs.length vs = xs ++ vs
  | [], xs, zs, h => by rw [List.length_eq_zero_iff.1 h]; rfl
  | v :: r, xs, zs, h => by
    cases zs with
    | nil => simp at h
    | cons z zs =>
      show setL ((xs ++ z :: zs).set xs.length v) (xs.length + 1) r = _
      rw [List.set_append_right _ _ (Nat.le_refl _), Nat.sub_self, List.set_cons_zero]
      have := setL_end r (xs ++ [v]) zs (by simpa using h)
      rw [List.length_append, List.length_singleton, List.append_assoc, List.append_assoc] at this
      exact this
theorem ownsRow_setCells {base g n cap size : Nat} {e : TypeId} : ∀ (vs : List Value) (o : Nat) (w : World) (xs : List Value), w.ownsRow base e size (.slice (some ⟨g, 0, none⟩) n cap) n xs → (w.setCells g o vs).ownsRow base e size (.slice (some ⟨g, 0, none⟩) n cap) n (setL xs o vs)
  | [], _, _, _, h => h
  | v :: r, o, w, xs, h => ownsRow_setCells r (o + 1) _ _ (h.stored o v).1
theorem stepN_append {ops : Array Oper} {o : Oper} {a : Act} {w : World} {K : Act → World → Prop} {Q : Exit → Act → World → Prop} {P : Prop} (hgd : o.guard = none) (s x : Operand)
    (ho : o.op = .call { callee := .builtin .append, args := #[s, x], argTypes := #[NDS, NDS] }) (hty : o.type = NDS) (sv xv : Value) (hs : a.eval s = sv) (hx : a.eval x = xv) (v' : Value) (w' : World)
    (hr : (Builtin.append_ #[NDS, NDS] NDS #[sv, xv]).run Tryz.prog w = .ok v' w') (h : K (a.put o.dst v') w') : if Region.wanted o (yielded ops a.tmps) = true then Oper.wp Tryz.prog o a w K Q else P := by
  have hw : Region.wanted o (yielded ops a.tmps) = true := by simp [Region.wanted, hgd]
  rw [if_pos hw]
  unfold Oper.wp execOp
  simp only [ho, hty, resolve, invoke, builtin, Sem.run_bind, Sem.run_pure, Result.andThen_ok, List.map_toArray, List.map_cons, List.map_nil, hs, hx, hr]
  exact h
theorem undND : ∃ d, Tryz.prog.underlying NDT = some d ∧ d.isRow = true := ⟨_, Tryz.underlying85, rfl⟩
/-- a store of a whole node, as a step of a region that draws -/
theorem stepN_store {ops : Array Oper} {o : Oper} {a : Act} {w : World} {K : Act → World → Prop} {Q : Exit → Act → World → Prop} {P : Prop} (hgd : o.guard = none) (x y : Operand) (ho : o.op = .store NDT x y) (b off : Nat) (cells : List Value)
    (hx : a.eval x = .pointer (some ⟨b, off, none⟩)) (hy : a.eval y = .agg cells.toArray) (ht : w.there b off 34) (hl : cells.length = 34) (h1 : ∀ v ∈ cells, v.oneCell' = true)
    (h : K (a.put o.dst undef) (w.setCells b off cells)) : if Region.wanted o (yielded ops a.tmps) = true then Oper.wp Tryz.prog o a w K Q else P := by
  have hw : Region.wanted o (yielded ops a.tmps) = true := by simp [Region.wanted, hgd]
  rw [if_pos hw]
  exact wp_store_mid NDT x y ho b off cells.toArray hx hy (by rw [List.size_toArray, hl]; exact ht) (by rw [List.size_toArray, hl]; exact sizeND) (all_oneCell_toArray h1) (by rw [List.toList_toArray]; exact h)
/-- a load of a whole node yields the same in every world that has it -/
theorem yieldsN_load {ops : Array Oper} {S : World → Prop} {op : Oper} {a : Act} (hgd : op.guard = none) (x : Operand) (ho : op.op = .load NDT x) (b o : Nat) (hx : a.eval x = .pointer (some ⟨b, o, none⟩)) (cs : List Value) (hl : cs.length = 34) (hS : ∀ w, S w → w.rangeAt b o cs) :
    YieldsIf Tryz.prog ops S op (.agg cs.toArray) a := by
  obtain ⟨d, hu, hd⟩ := undND
  exact yieldsIf_load_mid (by simp [Region.wanted, hgd]) NDT x ho b o hx cs d hS hu hd (by rw [hl]; exact sizeND)
theorem wpListN_load {ops : Array Oper} {rest : List Oper} {op : Oper} {a : Act} {w : World} {Q : Exit → Act → World → Prop} (hgd : op.guard = none) (x : Operand) (ho : op.op = .load NDT x) (b o : Nat) (hx : a.eval x = .pointer (some ⟨b, o, none⟩)) (cs : List Value) (hl : cs.length = 34) (hc : w.rangeAt b o cs)
    (h : wpList Tryz.prog ops Q rest (a.put op.dst (.agg cs.toArray)) w) : wpList Tryz.prog ops Q (op :: rest) a w := by
  obtain ⟨d, hu, hd⟩ := undND
  exact wpList_load_mid hgd NDT x ho b o hx cs d hc hu hd (by rw [hl]; exact sizeND) h
/-- what a row's growth leaves: the row's new value is stored at (cb, co), the new node at the row's end -/
structure GrewN (W : World) (base z : Nat) (v : Value) (n : Nat) (xs c : List Value) (cb co g9 c9 : Nat) (w9 : World) : Prop where
  run : (Builtin.append_ #[NDS, NDS] NDS #[v, .slice (some ⟨z, 0, none⟩) 1 1]).run Tryz.prog W = .ok (.slice (some ⟨g9, 0, none⟩) (n + 1) c9) w9
  ne : ¬ cb = g9
  old9 : ∀ b, b < W.heap.size → some b ≠ v.ownBlock → w9.heap[b]? = W.heap[b]?
  cell : w9.cell? ⟨cb, co, none⟩ = some v
  fr : w9.frozen? ⟨cb, co, none⟩ = false
  there1 : w9.there g9 (n * 34) 34
  there2 : ∀ u, (w9.setCell ⟨cb, co, none⟩ u).there g9 (n * 34) 34
  cell2 : (w9.setCells g9 (n * 34) c).cell? ⟨cb, co, none⟩ = some v
  fr2 : (w9.setCells g9 (n * 34) c).frozen? ⟨cb, co, none⟩ = false
  swap : ∀ u, (w9.setCells g9 (n * 34) c).setCell ⟨cb, co, none⟩ u = (w9.setCell ⟨cb, co, none⟩ u).setCells g9 (n * 34) c
  row : ((w9.setCell ⟨cb, co, none⟩ (.slice (some ⟨g9, 0, none⟩) (n + 1) c9)).setCells g9 (n * 34) c).ownsRow base NDT 34 (.slice (some ⟨g9, 0, none⟩) (n + 1) c9) (n + 1) (xs ++ c)
  old : ∀ b, b < W.heap.size → some b ≠ v.ownBlock → ((w9.setCell ⟨cb, co, none⟩ (.slice (some ⟨g9, 0, none⟩) (n + 1) c9)).setCells g9 (n * 34) c).heap[b]? = (W.setCell ⟨cb, co, none⟩ (.slice (some ⟨g9, 0, none⟩) (n + 1) c9)).heap[b]?
  at9 : some g9 = v.ownBlock ∨ g9 = W.heap.size
  size : W.heap.size ≤ ((w9.setCell ⟨cb, co, none⟩ (.slice (some ⟨g9, 0, none⟩) (n + 1) c9)).setCells g9 (n * 34) c).heap.size
  lt9 : g9 < ((w9.setCell ⟨cb, co, none⟩ (.slice (some ⟨g9, 0, none⟩) (n + 1) c9)).setCells g9 (n * 34) c).heap.size
  fixed : ((w9.setCell ⟨cb, co, none⟩ (.slice (some ⟨g9, 0, none⟩) (n + 1) c9)).setCells g9 (n * 34) c).os = W.os ∧ ((w9.setCell ⟨cb, co, none⟩ (.slice (some ⟨g9, 0, none⟩) (n + 1) c9)).setCells g9 (n * 34) c).tape = W.tape ∧ ((w9.setCell ⟨cb, co, none⟩ (.slice (some ⟨g9, 0, none⟩) (n + 1) c9)).setCells g9 (n * 34) c).output = W.output
theorem grow_nd {W : World} {base z n : Nat} {v : Value} {xs c : List Value} {cb co : Nat} (h : W.ownsRow base NDT 34 v n xs) (hz : W.heap[z]? = some (.cells zeroND NDT (0, 0))) (hb : base ≤ W.heap.size) (hn : n ≤ 1000000)
    (hc : W.cell? ⟨cb, co, none⟩ = some v) (hf : W.frozen? ⟨cb, co, none⟩ = false) (hne : some cb ≠ v.ownBlock) (hcl : c.length = 34) :
    ∃ g9 c9 w9, GrewN W base z v n xs c cb co g9 c9 w9 := by
  obtain ⟨i0, hi, hz0, hz1, hz2⟩ := info_parts infoND
  have hcb := cell_lt hc
  obtain ⟨v', w9, hr, ho, hg, hnil, hat⟩ := run_append_own_at (P := Tryz.prog) W base NDS NDS NDT i0 _ 34 480 Tryz.underlying82 hi hz0 hz1 hz2 rfl (by decide) v n xs h ⟨z, 0, none⟩ 1 1 zeroND.toList rfl
    (World.news_of_block (cs := zeroND) (t := NDT) (fr := (0, 0)) hz)
    (fun u hu => (Array.all_eq_true_iff_forall_mem.1 (show zeroND.all (·.oneCell') = true by kernel_rfl)) u (by simpa using hu)) (by unfold maxLen; omega) (by omega) hb
  rcases ho.2 with ⟨rfl, h5⟩ | ⟨g9, c9, cur, rfl, hgb, hh9, hcap, hmax, hcs, htk⟩
  · exact absurd h5 (Nat.succ_ne_zero n)
  have hat' : some g9 = v.ownBlock ∨ g9 = W.heap.size := by
    rcases hat with e | e
    · exact .inl e
    · exact .inr (Option.some.inj (show some g9 = some _ from e))
  have hne9 : ¬ cb = g9 := fun e => by
    rcases hat' with e2 | e2
    · exact hne (by rw [e, e2])
    · omega
  have hbb := hg.block cb hcb hne
  have hlen : xs.length = n * 34 := h.1
  have hl9 : g9 < w9.heap.size := (ho.lt g9 rfl).2
  have ht : w9.there g9 (n * 34) 34 := fun j hj => by
    refine ⟨?_, World.ownsRow.frozenAt ho _⟩
    rw [World.ownsRow.cellAt ho _ (by omega), List.getElem?_eq_getElem (by rw [List.length_append, hlen]; show n * 34 + j < n * 34 + 34; omega)]
    rfl
  have ht2 : ∀ u, (w9.setCell ⟨cb, co, none⟩ u).there g9 (n * 34) 34 := fun u j hj => by
    have hk : (w9.setCell ⟨cb, co, none⟩ u).heap[g9]? = w9.heap[g9]? := Below.heap_setCell _ _ _ _ (fun e => hne9 e.symm)
    exact ⟨by rw [World.cell?_of_block (a := ⟨g9, n * 34 + j, none⟩) hk]; exact (ht j hj).1, by rw [World.frozen?_of_block (a := ⟨g9, n * 34 + j, none⟩) hk]; exact (ht j hj).2⟩
  have hk2 := heap_setCells g9 cb hne9 c (n * 34) w9
  have hc9 : w9.cell? ⟨cb, co, none⟩ = some v := (World.cell?_of_block (a := ⟨cb, co, none⟩) hbb).trans hc
  have hf9 : w9.frozen? ⟨cb, co, none⟩ = false := (World.frozen?_of_block (a := ⟨cb, co, none⟩) hbb).trans hf
  refine ⟨g9, c9, w9, hr, hne9, hg.block, hc9, hf9, ht, ht2, (World.cell?_of_block (a := ⟨cb, co, none⟩) hk2).trans hc9, (World.frozen?_of_block (a := ⟨cb, co, none⟩) hk2).trans hf9, fun u => (setCells_comm ⟨cb, co, none⟩ u g9 hne9 c (n * 34) w9).symm, ?_, ?_, hat', ?_, ?_, ?_⟩
  · have h1 : (w9.setCell ⟨cb, co, none⟩ (.slice (some ⟨g9, 0, none⟩) (n + 1) c9)).ownsRow base NDT 34 (.slice (some ⟨g9, 0, none⟩) (n + 1) c9) (n + 1) (xs ++ zeroND.toList) := ownsRow_of ho (fun k hk => by
      have : g9 = k := Option.some.inj hk
      subst this
      exact Below.heap_setCell _ _ _ _ (fun e => hne9 e.symm))
    have h2 := ownsRow_setCells c (n * 34) _ _ h1
    rw [← hlen, setL_end c xs zeroND.toList (by rw [hcl]; rfl)] at h2
    rw [← hlen]
    exact h2
  · intro b hb1 hb2
    have hbg : b ≠ g9 := fun e => by
      rcases hat' with e2 | e2
      · exact hb2 (by rw [e, e2])
      · omega
    rw [heap_setCells g9 b hbg]
    by_cases e : b = cb
    · subst e
      simp only [World.setCell, Array.getElem?_modify, hbb]
    · rw [Below.heap_setCell _ _ _ _ (show b ≠ cb from e), Below.heap_setCell _ _ _ _ (show b ≠ cb from e)]
      exact hg.block b hb1 hb2
  · rw [(meta_setCells g9 c (n * 34) _).2.2.2]
    have := hg.size
    simp [World.setCell]
    exact this
  · rw [(meta_setCells g9 c (n * 34) _).2.2.2]
    simp [World.setCell]
    exact hl9
  · obtain ⟨e1, e2, e3, _⟩ := meta_setCells g9 c (n * 34) (w9.setCell ⟨cb, co, none⟩ (.slice (some ⟨g9, 0, none⟩) (n + 1) c9))
    exact ⟨e1.trans hg.os, e2.trans hg.tape, e3.trans hg.output⟩
end Go.Proofs.YthkbchefjagbbaaGreatDoor.Line

namespace Go.Proofs.YthkbchefjagbbaaGreatDoor.Line
open Go.ChangeShapes Go.WideShapes Go.ChangeAt Go.RowKit
open Ex (E St)
set_option linter.unusedVariables false

theorem cells_body (c : NC) (h : c.cs.size = 29) (v : Value) : c.cells.set 31 v = ({ c with bv := v } : NC).cells := by
  have hl : c.cs.toList.length = 29 := by simpa using h
  show (Value.int .i64 c.line :: .int .i64 c.en :: (c.cs.toList ++ [c.bv, c.ev, .int .i64 c.mid])).set 31 v = _
  rw [List.set_cons_succ, List.set_cons_succ, List.set_append_right _ _ (by omega), hl]
  rfl
theorem cells_els (c : NC) (h : c.cs.size = 29) (v : Value) : c.cells.set 32 v = ({ c with ev := v } : NC).cells := by
  have hl : c.cs.toList.length = 29 := by simpa using h
  show (Value.int .i64 c.line :: .int .i64 c.en :: (c.cs.toList ++ [c.bv, c.ev, .int .i64 c.mid])).set 32 v = _
  rw [List.set_cons_succ, List.set_cons_succ, List.set_append_right _ _ (by omega), hl]
  rfl
theorem cells_mid (c : NC) (h : c.cs.size = 29) (k : Int) : c.cells.set 33 (.int .i64 k) = ({ c with mid := k } : NC).cells := by
  have hl : c.cs.toList.length = 29 := by simpa using h
  show (Value.int .i64 c.line :: .int .i64 c.en :: (c.cs.toList ++ [c.bv, c.ev, .int .i64 c.mid])).set 33 _ = _
  rw [List.set_cons_succ, List.set_cons_succ, List.set_append_right _ _ (by omega), hl]
  rfl
theorem cells_en (c : NC) (k : Nat) : c.cells.set 1 (.int .i64 k) = ({ c with en := k } : NC).cells := rfl
theorem cells_at (c : NC) (h : c.cs.size = 29) : c.cells[0]? = some (.int .i64 c.line) ∧ c.cells[1]? = some (.int .i64 c.en) ∧ c.cells[2]? = c.cs[0]? ∧ c.cells[31]? = some c.bv ∧ c.cells[32]? = some c.ev ∧ c.cells[33]? = some (.int .i64 c.mid) := by
  have hl : c.cs.toList.length = 29 := by simpa using h
  refine ⟨rfl, rfl, ?_, ?_, ?_, ?_⟩
  · show (c.cs.toList ++ [c.bv, c.ev, .int .i64 c.mid])[0]? = _
    rw [List.getElem?_append_left (by omega)]; simp
  · show (c.cs.toList ++ [c.bv, c.ev, .int .i64 c.mid])[29]? = _
    rw [List.getElem?_append_right (by omega), hl]; rfl
  · show (c.cs.toList ++ [c.bv, c.ev, .int .i64 c.mid])[30]? = _
    rw [List.getElem?_append_right (by omega), hl]; rfl
  · show (c.cs.toList ++ [c.bv, c.ev, .int .i64 c.mid])[31]? = _
    rw [List.getElem?_append_right (by omega), hl]; rfl
theorem flatN_last (xs : List NC) (c : NC) (h : ∀ x ∈ xs, x.cs.size = 29) (j : Nat) (hj : j < 34) (hc : c.cs.size = 29) : (flatN (xs ++ [c]))[xs.length * 34 + j]? = c.cells[j]? := by
  rw [flatN_append, flatN_one, List.getElem?_append_right (by rw [flatN_length xs h]; omega), flatN_length xs h, Nat.add_sub_cancel_left]
theorem flatN_set (xs : List NC) (c c' : NC) (h : ∀ x ∈ xs, x.cs.size = 29) (j : Nat) (v : Value) (e : c.cells.set j v = c'.cells) : (flatN (xs ++ [c])).set (xs.length * 34 + j) v = flatN (xs ++ [c']) := by
  rw [flatN_append, flatN_one, List.set_append_right _ _ (by rw [flatN_length xs h]; omega), flatN_length xs h, Nat.add_sub_cancel_left, e, flatN_append, flatN_one]

/-- what is done, and what is open (the innermost first): what each has lies between two numbers -/
inductive Opens (W : World) (base go : Nat) (dv : Value) (D : List (NC × PN)) : List (NC × PN) → Nat → Prop
  | nil (hi : Nat) (hle : base ≤ hi) (h : OwnL W base hi go dv D) : Opens W base go dv D [] hi
  | cons (c : NC) (n : PN) (K B E : List (NC × PN)) (m s q hi : Nat) (h : Opens W base go dv D K m) (hms : m ≤ s) (hsq : s ≤ q) (hqh : q ≤ hi) (h1 : c.line = n.line ∧ c.en = n.en ∧ c.mid = n.mid)
      (st : HoldsF (fun b => m ≤ b ∧ b < s ∧ b ≠ go) W c.cs n.ps.full) (hb : OwnL W s q go c.bv B) (he : OwnL W q hi go c.ev E) (eb : n.body = B.map (·.2)) (ee : n.els = E.map (·.2)) (h0 : n.mid < 0 → E = [] ∧ c.ev = .slice none 0 0) : Opens W base go dv D ((c, n) :: K) hi
theorem Opens.le {W : World} {base go : Nat} {dv : Value} {D K : List (NC × PN)} {hi : Nat} (h : Opens W base go dv D K hi) : base ≤ hi := by
  induction h with
  | nil hi hle h => exact hle
  | cons c n K B E m s q hi h hms hsq hqh h1 st hb he eb ee h0 ih => omega
theorem Opens.sizes {W : World} {base go : Nat} {dv : Value} {D K : List (NC × PN)} {hi : Nat} (h : Opens W base go dv D K hi) : ∀ x ∈ K.map (·.1), x.cs.size = 29 := by
  induction h with
  | nil hi hle h => intro x hx; cases hx
  | cons c n K B E m s q hi h hms hsq hqh h1 st hb he eb ee h0 ih =>
    intro x hx
    rcases List.mem_cons.1 hx with rfl | hx
    · exact st.size.1
    · exact ih x hx
theorem Opens.keep {W W' : World} {base go go' : Nat} {dv : Value} {D K : List (NC × PN)} {hi hi' : Nat} (h : Opens W base go dv D K hi) (hk : ∀ b, base ≤ b → b < hi → b ≠ go → W'.heap[b]? = W.heap[b]?) (hhi : hi ≤ hi') (hgo : ∀ b, b < hi → b < W.heap.size → b ≠ go → b ≠ go') : Opens W' base go' dv D K hi' := by
  induction h generalizing hi' with
  | nil hi hle h => exact .nil hi' (Nat.le_trans hle hhi) (h.keep (fun b h1 h2 h3 => hk b h1 h2 h3) hhi (fun b _ h2 h3 h4 => hgo b h2 h3 h4))
  | cons c n K B E m s q hi h hms hsq hqh h1 st hb he eb ee h0 ih =>
    have hbm := h.le
    refine .cons c n K B E m s q hi' (ih (fun b b1 b2 b3 => hk b b1 (by omega) b3) (Nat.le_refl _) (fun b b2 b3 b4 => hgo b (by omega) b3 b4)) hms hsq (by omega) h1 (st.keep (fun b hb' _ => hk b (by omega) (by omega) hb'.2.2) (fun b hb' hl => ⟨hb'.1, hb'.2.1, hgo b (by omega) hl hb'.2.2⟩)) (hb.keep (fun b b1 b2 b3 => hk b (by omega) (by omega) b3) (Nat.le_refl _) (fun b _ b2 b3 b4 => hgo b (by omega) b3 b4)) (he.keep (fun b b1 b2 b3 => hk b (by omega) (by omega) b3) hhi (fun b _ b2 b3 b4 => hgo b (by omega) b3 b4)) eb ee h0
/-- the builder: its block bb, what it has made from base on -/
structure BlAt (W : World) (bb base : Nat) (dv ov : Value) (D K : List (NC × PN)) (go hi : Nat) : Prop where
  c0 : W.cell? ⟨bb, 0, none⟩ = some dv
  c1 : W.cell? ⟨bb, 1, none⟩ = some ov
  fr : ∀ o, W.frozen? ⟨bb, o, none⟩ = false
  bl : bb < base
  hl : hi ≤ W.heap.size
  orow : W.ownsRow base NDT 34 ov K.length (flatN (K.reverse.map (·.1)))
  og : (ov.ownBlock = none ∧ go = bb) ∨ (ov.ownBlock = some go ∧ base ≤ go)
  gl : go < W.heap.size
  stk : Opens W base go dv D K hi
  deep : K.length ≤ 8
/-- but for the builder's block and what it has made nothing has turned -/
structure Fr (bb base : Nat) (w w' : World) : Prop where
  os : w'.os = w.os
  tape : w'.tape = w.tape
  output : w'.output = w.output
  size : w.heap.size ≤ w'.heap.size
  block : ∀ b, b < base → b ≠ bb → w'.heap[b]? = w.heap[b]?
theorem Fr.refl (bb base : Nat) (w : World) : Fr bb base w w := ⟨rfl, rfl, rfl, Nat.le_refl _, fun _ _ _ => rfl⟩
theorem Fr.trans {bb base : Nat} {a b c : World} (h : Fr bb base a b) (k : Fr bb base b c) : Fr bb base a c := ⟨k.os.trans h.os, k.tape.trans h.tape, k.output.trans h.output, Nat.le_trans h.size k.size, fun i h1 h2 => (k.block i h1 h2).trans (h.block i h1 h2)⟩
theorem Fr.below {bb base : Nat} {a b : World} (h : Below a.heap.size a b) (hb : base ≤ a.heap.size) : Fr bb base a b := ⟨h.os, h.tape, h.output, h.size, fun i h1 _ => h.block i (by omega)⟩
theorem BlAt.lt {W : World} {bb base : Nat} {dv ov : Value} {D K : List (NC × PN)} {go hi : Nat} (h : BlAt W bb base dv ov D K go hi) : base ≤ hi ∧ base ≤ W.heap.size ∧ bb < W.heap.size := by
  have h1 := h.stk.le
  have h2 := h.hl
  have h3 := h.bl
  exact ⟨h1, by omega, by omega⟩
theorem BlAt.below {W W' : World} {bb base : Nat} {dv ov : Value} {D K : List (NC × PN)} {go hi : Nat} (h : BlAt W bb base dv ov D K go hi) (hb : Below W.heap.size W W') : BlAt W' bb base dv ov D K go hi := by
  obtain ⟨l1, l2, l3⟩ := h.lt
  have hh := h.hl
  refine ⟨(hb.cell (p := ⟨bb, 0, none⟩) l3).trans h.c0, (hb.cell (p := ⟨bb, 1, none⟩) l3).trans h.c1, fun o => (hb.frozen (p := ⟨bb, o, none⟩) l3).trans (h.fr o), h.bl, Nat.le_trans hh hb.size, ownsRow_of h.orow (fun k hk => hb.block k (h.orow.lt k hk).2), h.og, Nat.lt_of_lt_of_le h.gl hb.size, h.stk.keep (fun b _ h2 _ => hb.block b (by omega)) (Nat.le_refl _) (fun _ _ _ h => h), h.deep⟩
theorem BlAt.wide {W : World} {bb base : Nat} {dv ov : Value} {D K : List (NC × PN)} {go hi : Nat} (h : BlAt W bb base dv ov D K go hi) : BlAt W bb base dv ov D K go W.heap.size := by
  have hh := h.hl
  have hg := h.gl
  exact ⟨h.c0, h.c1, h.fr, h.bl, Nat.le_refl _, h.orow, h.og, hg, h.stk.keep (fun _ _ _ _ => rfl) hh (fun _ _ _ h => h), h.deep⟩
theorem BlAt.shape {W : World} {bb base : Nat} {dv ov : Value} {D K : List (NC × PN)} {go hi : Nat} (h : BlAt W bb base dv ov D K go hi) : (∃ a cap, ov = .slice a K.length cap) ∧ (0 < K.length → ∃ cap, ov = .slice (some ⟨go, 0, none⟩) K.length cap ∧ K.length ≤ cap ∧ base ≤ go ∧ go < W.heap.size) := by
  rcases h.orow.2 with ⟨rfl, h5⟩ | ⟨g, cap, cur, rfl, hg, hh, hc, _⟩
  · exact ⟨⟨none, 0, by rw [h5]⟩, fun hp => absurd h5 (by omega)⟩
  · rcases h.og with ⟨e, _⟩ | ⟨e, e2⟩
    · cases e
    · have : g = go := Option.some.inj e
      subst this
      exact ⟨⟨_, _, rfl⟩, fun _ => ⟨cap, rfl, hc, e2, (h.orow.lt g rfl).2⟩⟩
theorem rev_cons (c : NC) (n : PN) (K : List (NC × PN)) : ((c, n) :: K).reverse.map (·.1) = K.reverse.map (·.1) ++ [c] := by simp
theorem rev_len (K : List (NC × PN)) : (K.reverse.map (·.1)).length = K.length := by simp
theorem Opens.rsizes {W : World} {base go : Nat} {dv : Value} {D K : List (NC × PN)} {hi : Nat} (h : Opens W base go dv D K hi) : ∀ x ∈ K.reverse.map (·.1), x.cs.size = 29 := fun x hx => h.sizes x (by
  obtain ⟨p, hp, rfl⟩ := List.mem_map.1 hx
  exact List.mem_map.2 ⟨p, List.mem_reverse.1 hp, rfl⟩)
/-- the cells of the innermost one -/
theorem BlAt.top {W : World} {bb base : Nat} {dv ov : Value} {D K : List (NC × PN)} {c : NC} {n : PN} {go hi : Nat} (h : BlAt W bb base dv ov D ((c, n) :: K) go hi) : W.rangeAt go (K.length * 34) c.cells ∧ (∀ o, W.frozen? ⟨go, o, none⟩ = false) ∧ c.cs.size = 29 ∧ go < W.heap.size ∧ base ≤ go := by
  obtain ⟨cap, rfl, hc, hb, hl⟩ := h.shape.2 (by simp)
  have hs := h.stk.rsizes
  rw [rev_cons] at hs
  have hcs : c.cs.size = 29 := hs c (by simp)
  refine ⟨fun j v hv => ?_, fun o => World.ownsRow.frozenAt h.orow o, hcs, hl, hb⟩
  have hj : j < 34 := by
    have := (List.getElem?_eq_some_iff.1 hv).1
    rwa [NC.len hcs] at this
  rw [World.ownsRow.cellAt h.orow _ (by rw [List.length_cons]; omega), rev_cons, ← rev_len K, flatN_last _ c (fun x hx => hs x (List.mem_append_left _ hx)) j hj hcs]
  exact hv
end Go.Proofs.YthkbchefjagbbaaGreatDoor.Line
