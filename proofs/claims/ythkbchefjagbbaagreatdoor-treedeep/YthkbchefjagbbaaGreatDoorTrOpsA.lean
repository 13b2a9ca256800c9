/- What the builder's steps make of its memory: one more open, one more put in, one closed, a choice's middle.
   Contracts of the builder's small functions: innermost, atHead. -/
import Derived.Test.YthkbchefjagbbaaGreatDoorTreeMemA
namespace Go.Proofs.YthkbchefjagbbaaGreatDoor.Line
open Go.ChangeShapes Go.WideShapes Go.ChangeAt Go.RowKit
open Ex (E St)
set_option linter.unusedVariables false

/-- the world behind a row's growth -/
abbrev grownW (w9 : World) (cb co g9 n c9 : Nat) (c : List Value) : World := (w9.setCell ⟨cb, co, none⟩ (.slice (some ⟨g9, 0, none⟩) (n + 1) c9)).setCells g9 (n * 34) c
theorem set_heap {W : World} {b cb co : Nat} {u : Value} (h : b ≠ cb) : (W.setCell ⟨cb, co, none⟩ u).heap[b]? = W.heap[b]? := Below.heap_setCell _ _ _ _ (show b ≠ cb from h)
theorem OwnL.grow {W : World} {lo hi go : Nat} {v : Value} {P : List (NC × PN)} {c2 : NC} {n2 : PN} {cb co z : Nat} (h : OwnL W lo hi go v P) (h2 : Node1 W (fun b => hi ≤ b ∧ b < W.heap.size ∧ b ≠ go) c2 n2)
    (hc : W.cell? ⟨cb, co, none⟩ = some v) (hf : W.frozen? ⟨cb, co, none⟩ = false) (hcb : ∀ b, lo ≤ b → b < W.heap.size → b ≠ go → b ≠ cb) (hz : W.heap[z]? = some (.cells zeroND NDT (0, 0))) (hlo : lo ≤ hi) (hhi : hi ≤ W.heap.size) (hgo : go < W.heap.size) (hP : P.length ≤ 1000000) :
    ∃ g9 c9 w9, GrewN W lo z v P.length (flatN (P.map (·.1))) c2.cells cb co g9 c9 w9 ∧ OwnL (grownW w9 cb co g9 P.length c9 c2.cells) lo (grownW w9 cb co g9 P.length c9 c2.cells).heap.size go (.slice (some ⟨g9, 0, none⟩) (P.length + 1) c9) (P ++ [(c2, n2)]) := by
  have hne : some cb ≠ v.ownBlock := fun e => by
    have h3 := h.row.lt cb e.symm
    exact hcb cb h3.1 h3.2 (h.blk cb e.symm).2 rfl
  obtain ⟨g9, c9, w9, G⟩ := grow_nd h.row hz (by omega) hP hc hf hne (NC.len h2.st.size.1)
  refine ⟨g9, c9, w9, G, ?_, fun k hk => ?_, fun p hp => ?_⟩
  · rw [List.map_append, flatN_append, List.length_append]
    show World.ownsRow _ _ _ _ _ _ (_ ++ flatN [c2])
    rw [flatN_one]
    exact G.row
  · have : g9 = k := Option.some.inj hk
    subst this
    refine ⟨G.lt9, fun e => ?_⟩
    rcases G.at9 with e2 | e2
    · exact (h.blk g9 e2.symm).2 e
    · omega
  · have hold : ∀ b, lo ≤ b → b < W.heap.size → b ≠ go → some b ≠ v.ownBlock → (grownW w9 cb co g9 P.length c9 c2.cells).heap[b]? = W.heap[b]? := fun b b1 b2 b3 b4 => (G.old b b2 b4).trans (set_heap (hcb b b1 b2 b3))
    have hnew : ∀ b, b < W.heap.size → some b ≠ v.ownBlock → some b ≠ Value.ownBlock (.slice (some ⟨g9, 0, none⟩) (P.length + 1) c9) := fun b b1 b2 e => by
      have e : b = g9 := Option.some.inj e
      rcases G.at9 with e2 | e2
      · exact b2 (by rw [e, e2])
      · omega
    have hsz : W.heap.size ≤ (grownW w9 cb co g9 P.length c9 c2.cells).heap.size := G.size
    rcases List.mem_append.1 hp with hp | hp
    · refine (h.one p hp).keep (fun b hb hl => hold b hb.1 hl hb.2.2.1 hb.2.2.2) (fun b hb hl => ⟨hb.1, ?_, hb.2.2.1, hnew b hl hb.2.2.2⟩)
      show b < (grownW w9 cb co g9 P.length c9 c2.cells).heap.size
      omega
    · rw [List.mem_singleton.1 hp]
      have hv : ∀ b, hi ≤ b → some b ≠ v.ownBlock := fun b hb e => by have := (h.blk b e.symm).1; omega
      refine h2.keep (fun b hb hl => hold b (by omega) hl hb.2.2 (hv b hb.1)) (fun b hb hl => ⟨by omega, ?_, hb.2.2, hnew b hl (hv b hb.1)⟩)
      show b < (grownW w9 cb co g9 P.length c9 c2.cells).heap.size
      omega
theorem grown_cell {W w9 : World} {base z n : Nat} {v : Value} {xs c : List Value} {cb co g9 c9 : Nat} (G : GrewN W base z v n xs c cb co g9 c9 w9) {b o : Nat} (hb : b < W.heap.size) (hv : some b ≠ v.ownBlock) : (grownW w9 cb co g9 n c9 c).cell? ⟨b, o, none⟩ = (W.setCell ⟨cb, co, none⟩ (.slice (some ⟨g9, 0, none⟩) (n + 1) c9)).cell? ⟨b, o, none⟩ := World.cell?_of_block (a := ⟨b, o, none⟩) (G.old b hb hv)
theorem grown_frozen {W w9 : World} {base z n : Nat} {v : Value} {xs c : List Value} {cb co g9 c9 : Nat} (G : GrewN W base z v n xs c cb co g9 c9 w9) {b o : Nat} (hb : b < W.heap.size) (hv : some b ≠ v.ownBlock) : (grownW w9 cb co g9 n c9 c).frozen? ⟨b, o, none⟩ = (W.setCell ⟨cb, co, none⟩ (.slice (some ⟨g9, 0, none⟩) (n + 1) c9)).frozen? ⟨b, o, none⟩ := World.frozen?_of_block (a := ⟨b, o, none⟩) (G.old b hb hv)
/-- one more is open -/
theorem BlAt.push {W : World} {bb base z : Nat} {dv ov : Value} {D K : List (NC × PN)} {go hi : Nat} {c : NC} {n : PN} (h : BlAt W bb base dv ov D K go hi) (hz : W.heap[z]? = some (.cells zeroND NDT (0, 0))) (hk : K.length < 8) (h1 : c.line = n.line ∧ c.en = n.en ∧ c.mid = n.mid)
    (st : HoldsF (fun b => hi ≤ b ∧ b ≠ go) W c.cs n.ps.full) (hbv : c.bv = .slice none 0 0) (hev : c.ev = .slice none 0 0) (hb : n.body = []) (he : n.els = []) :
    ∃ g9 c9 w9, GrewN W base z ov K.length (flatN (K.reverse.map (·.1))) c.cells bb 1 g9 c9 w9 ∧ BlAt (grownW w9 bb 1 g9 K.length c9 c.cells) bb base dv (.slice (some ⟨g9, 0, none⟩) (K.length + 1) c9) D ((c, n) :: K) g9 (grownW w9 bb 1 g9 K.length c9 c.cells).heap.size ∧ Fr bb base W (grownW w9 bb 1 g9 K.length c9 c.cells) := by
  obtain ⟨l1, l2, l3⟩ := h.lt
  have hh := h.hl
  have hbl := h.bl
  have hgl := h.gl
  have hne : some bb ≠ ov.ownBlock := fun e => by
    rcases h.og with ⟨e2, _⟩ | ⟨e2, e3⟩
    · rw [e2] at e; cases e
    · rw [e2] at e; injection e with e; omega
  have hgo : ∀ b, base ≤ b → b ≠ go → some b ≠ ov.ownBlock := fun b hb hne2 e => by
    rcases h.og with ⟨e2, _⟩ | ⟨e2, e3⟩
    · rw [e2] at e; cases e
    · rw [e2] at e; injection e with e; exact hne2 e
  have hob : ∀ b, b < base → some b ≠ ov.ownBlock := fun b hb e => by have := (h.orow.lt b e.symm).1; omega
  obtain ⟨g9, c9, w9, G⟩ := grow_nd h.orow hz l2 (by omega) h.c1 (h.fr 1) hne (NC.len st.size.1)
  have hsz : W.heap.size ≤ (grownW w9 bb 1 g9 K.length c9 c.cells).heap.size := G.size
  have hold : ∀ b, base ≤ b → b < W.heap.size → b ≠ go → (grownW w9 bb 1 g9 K.length c9 c.cells).heap[b]? = W.heap[b]? := fun b b1 b2 b3 => (G.old b b2 (hgo b b1 b3)).trans (set_heap (by omega))
  have hg9 : ∀ b, b < W.heap.size → b ≠ go → b ≠ g9 := fun b b1 b2 e => by
    rcases G.at9 with e2 | e2
    · rcases h.og with ⟨e3, _⟩ | ⟨e3, e4⟩
      · rw [e3] at e2; cases e2
      · rw [e3] at e2; injection e2 with e2; omega
    · omega
  have hgb : base ≤ g9 := (G.row.lt g9 rfl).1
  have hc : ∀ o, (grownW w9 bb 1 g9 K.length c9 c.cells).cell? ⟨bb, o, none⟩ = (W.setCell ⟨bb, 1, none⟩ (.slice (some ⟨g9, 0, none⟩) (K.length + 1) c9)).cell? ⟨bb, o, none⟩ := fun o => grown_cell G l3 hne
  refine ⟨g9, c9, w9, G, ⟨?_, ?_, fun o => ?_, hbl, Nat.le_refl _, ?_, .inr ⟨rfl, hgb⟩, G.lt9, ?_, by rw [List.length_cons]; omega⟩, ⟨G.fixed.1, G.fixed.2.1, G.fixed.2.2, hsz, fun b b1 b2 => (G.old b (by omega) (hob b b1)).trans (set_heap b2)⟩⟩
  · rw [hc 0]; simp [go_sem, h.c0]
  · rw [hc 1]; simp [go_sem, h.c1]
  · rw [grown_frozen G l3 hne]; simp [go_sem, h.fr o]
  · rw [rev_cons, flatN_append, flatN_one, List.length_cons]
    exact G.row
  · refine .cons c n K [] [] hi W.heap.size (grownW w9 bb 1 g9 K.length c9 c.cells).heap.size _ (h.stk.keep (fun b b1 b2 b3 => hold b b1 (by omega) b3) (Nat.le_refl _) (fun b b2 b3 b4 => hg9 b b3 b4)) hh hsz (Nat.le_refl _) h1 (st.keep (fun b b1 b2 => hold b (by omega) b2 b1.2) (fun b b1 b2 => ⟨b1.1, b2, hg9 b b2 b1.2⟩)) ?_ ?_ (by rw [hb]; rfl) (by rw [he]; rfl) (fun _ => ⟨rfl, hev⟩)
    · rw [hbv]; exact OwnL.nil _ _ _ _
    · rw [hev]; exact OwnL.nil _ _ _ _
/-- one more is done -/
theorem BlAt.finish {W : World} {bb base z : Nat} {dv ov : Value} {D : List (NC × PN)} {go m : Nat} {c2 : NC} {n2 : PN} (h : BlAt W bb base dv ov D [] go m) (hz : W.heap[z]? = some (.cells zeroND NDT (0, 0))) (h2 : Node1 W (fun b => m ≤ b ∧ b < W.heap.size ∧ b ≠ go) c2 n2) (hD : D.length ≤ 1000000) :
    ∃ g9 c9 w9, GrewN W base z dv D.length (flatN (D.map (·.1))) c2.cells bb 0 g9 c9 w9 ∧ BlAt (grownW w9 bb 0 g9 D.length c9 c2.cells) bb base (.slice (some ⟨g9, 0, none⟩) (D.length + 1) c9) ov (D ++ [(c2, n2)]) [] go (grownW w9 bb 0 g9 D.length c9 c2.cells).heap.size ∧ Fr bb base W (grownW w9 bb 0 g9 D.length c9 c2.cells) := by
  obtain ⟨l1, l2, l3⟩ := h.lt
  have hh := h.hl
  have hbl := h.bl
  have hgl := h.gl
  have hown : OwnL W base m go dv D := by
    cases h.stk with
    | nil _ _ hD => exact hD
  obtain ⟨g9, c9, w9, G, hO⟩ := hown.grow h2 h.c0 (h.fr 0) (fun b b1 _ _ => by omega) hz l1 hh (by omega) hD
  have hsz : W.heap.size ≤ (grownW w9 bb 0 g9 D.length c9 c2.cells).heap.size := G.size
  have hob : ∀ b, b < base → some b ≠ dv.ownBlock := fun b hb e => by have := (hown.row.lt b e.symm).1; omega
  have hc : ∀ o, (grownW w9 bb 0 g9 D.length c9 c2.cells).cell? ⟨bb, o, none⟩ = (W.setCell ⟨bb, 0, none⟩ (.slice (some ⟨g9, 0, none⟩) (D.length + 1) c9)).cell? ⟨bb, o, none⟩ := fun o => grown_cell G l3 (hob bb hbl)
  have hgo : ∀ k, ov.ownBlock = some k → (grownW w9 bb 0 g9 D.length c9 c2.cells).heap[k]? = W.heap[k]? := fun k hk => by
    have hkl := h.orow.lt k hk
    refine (G.old k hkl.2 (fun e => ?_)).trans (set_heap (by omega))
    rcases h.og with ⟨e3, _⟩ | ⟨e3, e4⟩
    · rw [e3] at hk; cases hk
    · rw [e3] at hk
      injection hk with hk
      exact (hown.blk k e.symm).2 hk.symm
  refine ⟨g9, c9, w9, G, ⟨?_, ?_, fun o => ?_, hbl, Nat.le_refl _, ownsRow_of h.orow hgo, h.og, ?_, .nil _ ?_ hO, by simp⟩, ⟨G.fixed.1, G.fixed.2.1, G.fixed.2.2, hsz, fun b b1 b2 => (G.old b (by omega) (hob b b1)).trans (set_heap b2)⟩⟩
  · rw [hc 0]; simp [go_sem, h.c0]
  · rw [hc 1]; simp [go_sem, h.c1]
  · rw [grown_frozen G l3 (hob bb hbl)]; simp [go_sem, h.fr o]
  · show go < (grownW w9 bb 0 g9 D.length c9 c2.cells).heap.size; omega
  · show base ≤ (grownW w9 bb 0 g9 D.length c9 c2.cells).heap.size; omega
/-- one more is put into the innermost one: at its body -/
theorem BlAt.putBody {W : World} {bb base z : Nat} {dv ov : Value} {D K : List (NC × PN)} {go m : Nat} {c c2 : NC} {r n2 : PN} (h : BlAt W bb base dv ov D ((c, r) :: K) go m) (hz : W.heap[z]? = some (.cells zeroND NDT (0, 0))) (h2 : Node1 W (fun b => m ≤ b ∧ b < W.heap.size ∧ b ≠ go) c2 n2) (hm : r.mid < 0) (hB : r.body.length ≤ 1000000) :
    ∃ lo xs len a cap, c.bv = .slice a len cap ∧ ∃ g9 c9 w9, GrewN W lo z c.bv len xs c2.cells go (K.length * 34 + 31) g9 c9 w9 ∧ BlAt (grownW w9 go (K.length * 34 + 31) g9 len c9 c2.cells) bb base dv ov D (({ c with bv := .slice (some ⟨g9, 0, none⟩) (len + 1) c9 }, r.putIn n2) :: K) go (grownW w9 go (K.length * 34 + 31) g9 len c9 c2.cells).heap.size ∧ Fr bb base W (grownW w9 go (K.length * 34 + 31) g9 len c9 c2.cells) := by
  obtain ⟨l1, l2, l3⟩ := h.lt
  have hh := h.hl
  have hbl := h.bl
  have hgl := h.gl
  obtain ⟨t1, t2, t3, t4, t5⟩ := h.top
  have hsz := h.stk.rsizes
  rw [rev_cons] at hsz
  obtain ⟨cap, rfl, -, -, -⟩ := h.shape.2 (by simp)
  obtain ⟨q0, q1, q2, q3, q4, q5⟩ := cells_at c t3
  cases h.stk with
  | cons _ _ _ B E m0 s q _ hst hms hsq hqh h1 st hb he eb ee h0 =>
    have hbase := hst.le
    obtain ⟨rfl, hev⟩ := h0 hm
    have hlB : B.length = r.body.length := by rw [eb, List.length_map]
    have hb' : OwnL W s m go c.bv B := hb.keep (fun _ _ _ _ => rfl) hqh (fun _ _ _ _ h => h)
    obtain ⟨ba, bc, hbv⟩ := hb'.shape
    obtain ⟨g9, c9, w9, G, hO⟩ := hb'.grow h2 (t1 31 _ q3) (t2 _) (fun b _ _ b3 => b3) hz (by omega) hh t4 (by omega)
    have hsz9 : W.heap.size ≤ (grownW w9 go (K.length * 34 + 31) g9 B.length c9 c2.cells).heap.size := G.size
    have hob : ∀ b, b < s → some b ≠ c.bv.ownBlock := fun b hb2 e => by have := (hb'.row.lt b e.symm).1; omega
    have hgb : some go ≠ c.bv.ownBlock := fun e => (hb'.blk go e.symm).2 rfl
    have hold : ∀ b, b < s → b ≠ go → (grownW w9 go (K.length * 34 + 31) g9 B.length c9 c2.cells).heap[b]? = W.heap[b]? := fun b b1 b2 => (G.old b (by omega) (hob b b1)).trans (set_heap b2)
    have hbb : bb ≠ go := by omega
    refine ⟨s, _, B.length, ba, bc, hbv, g9, c9, w9, G, ⟨?_, ?_, fun o => ?_, hbl, Nat.le_refl _, ?_, h.og, ?_, ?_, by have := h.deep; simpa using this⟩, ⟨G.fixed.1, G.fixed.2.1, G.fixed.2.2, hsz9, fun b b1 b2 => hold b (by omega) (by omega)⟩⟩
    · exact (World.cell?_of_block (a := ⟨bb, 0, none⟩) (hold bb (by omega) hbb)).trans h.c0
    · exact (World.cell?_of_block (a := ⟨bb, 1, none⟩) (hold bb (by omega) hbb)).trans h.c1
    · exact (World.frozen?_of_block (a := ⟨bb, o, none⟩) (hold bb (by omega) hbb)).trans (h.fr o)
    · have h5 := (h.orow.stored (K.length * 34 + 31) (.slice (some ⟨g9, 0, none⟩) (B.length + 1) c9)).1
      rw [rev_cons, ← rev_len K, flatN_set _ c _ (fun x hx => hsz x (List.mem_append_left _ hx)) 31 _ (cells_body c t3 _)] at h5
      rw [rev_len] at h5
      rw [rev_cons]
      refine ownsRow_of h5 (fun k hk => ?_)
      have : go = k := Option.some.inj hk
      subst this
      exact G.old go t4 hgb
    · show go < (grownW w9 go (K.length * 34 + 31) g9 B.length c9 c2.cells).heap.size; omega
    · refine .cons _ _ K (B ++ [(c2, n2)]) [] m0 s (grownW w9 go (K.length * 34 + 31) g9 B.length c9 c2.cells).heap.size _ (hst.keep (fun b b1 b2 b3 => hold b (by omega) b3) (Nat.le_refl _) (fun _ _ _ h => h)) hms (by show s ≤ (grownW w9 go (K.length * 34 + 31) g9 B.length c9 c2.cells).heap.size; omega) (Nat.le_refl _) ?_ ?_ hO ?_ ?_ ?_ ?_
      · unfold PN.putIn; rw [if_pos hm]; exact h1
      · have e : (r.putIn n2).ps = r.ps := by unfold PN.putIn; split <;> rfl
        rw [e]
        exact st.keep (fun b b1 b2 => hold b (by omega) b1.2.2) (fun _ h _ => h)
      · show OwnL _ _ _ _ c.ev []
        rw [hev]; exact OwnL.nil _ _ _ _
      · unfold PN.putIn; rw [if_pos hm]
        show r.body ++ [n2] = _
        rw [eb, List.map_append]; rfl
      · unfold PN.putIn; rw [if_pos hm]
        exact ee
      · intro _; exact ⟨rfl, hev⟩
/-- one more is put into the innermost one: at its other side -/
theorem BlAt.putEls {W : World} {bb base z : Nat} {dv ov : Value} {D K : List (NC × PN)} {go m : Nat} {c c2 : NC} {r n2 : PN} (h : BlAt W bb base dv ov D ((c, r) :: K) go m) (hz : W.heap[z]? = some (.cells zeroND NDT (0, 0))) (h2 : Node1 W (fun b => m ≤ b ∧ b < W.heap.size ∧ b ≠ go) c2 n2) (hm : ¬ r.mid < 0) (hE : r.els.length ≤ 1000000) :
    ∃ lo xs len a cap, c.ev = .slice a len cap ∧ ∃ g9 c9 w9, GrewN W lo z c.ev len xs c2.cells go (K.length * 34 + 32) g9 c9 w9 ∧ BlAt (grownW w9 go (K.length * 34 + 32) g9 len c9 c2.cells) bb base dv ov D (({ c with ev := .slice (some ⟨g9, 0, none⟩) (len + 1) c9 }, r.putIn n2) :: K) go (grownW w9 go (K.length * 34 + 32) g9 len c9 c2.cells).heap.size ∧ Fr bb base W (grownW w9 go (K.length * 34 + 32) g9 len c9 c2.cells) := by
  obtain ⟨l1, l2, l3⟩ := h.lt
  have hh := h.hl
  have hbl := h.bl
  have hgl := h.gl
  obtain ⟨t1, t2, t3, t4, t5⟩ := h.top
  have hsz := h.stk.rsizes
  rw [rev_cons] at hsz
  obtain ⟨cap, rfl, -, -, -⟩ := h.shape.2 (by simp)
  obtain ⟨q0, q1, q2, q3, q4, q5⟩ := cells_at c t3
  cases h.stk with
  | cons _ _ _ B E m0 s q _ hst hms hsq hqh h1 st hb he eb ee h0 =>
    have hbase := hst.le
    have hlE : E.length = r.els.length := by rw [ee, List.length_map]
    obtain ⟨ba, bc, hev⟩ := he.shape
    obtain ⟨g9, c9, w9, G, hO⟩ := he.grow h2 (t1 32 _ q4) (t2 _) (fun b _ _ b3 => b3) hz (by omega) hh t4 (by omega)
    have hsz9 : W.heap.size ≤ (grownW w9 go (K.length * 34 + 32) g9 E.length c9 c2.cells).heap.size := G.size
    have hob : ∀ b, b < q → some b ≠ c.ev.ownBlock := fun b hb2 e => by have := (he.row.lt b e.symm).1; omega
    have hgb : some go ≠ c.ev.ownBlock := fun e => (he.blk go e.symm).2 rfl
    have hold : ∀ b, b < q → b ≠ go → (grownW w9 go (K.length * 34 + 32) g9 E.length c9 c2.cells).heap[b]? = W.heap[b]? := fun b b1 b2 => (G.old b (by omega) (hob b b1)).trans (set_heap b2)
    have hbb : bb ≠ go := by omega
    refine ⟨q, _, E.length, ba, bc, hev, g9, c9, w9, G, ⟨?_, ?_, fun o => ?_, hbl, Nat.le_refl _, ?_, h.og, ?_, ?_, by have := h.deep; simpa using this⟩, ⟨G.fixed.1, G.fixed.2.1, G.fixed.2.2, hsz9, fun b b1 b2 => hold b (by omega) (by omega)⟩⟩
    · exact (World.cell?_of_block (a := ⟨bb, 0, none⟩) (hold bb (by omega) hbb)).trans h.c0
    · exact (World.cell?_of_block (a := ⟨bb, 1, none⟩) (hold bb (by omega) hbb)).trans h.c1
    · exact (World.frozen?_of_block (a := ⟨bb, o, none⟩) (hold bb (by omega) hbb)).trans (h.fr o)
    · have h5 := (h.orow.stored (K.length * 34 + 32) (.slice (some ⟨g9, 0, none⟩) (E.length + 1) c9)).1
      rw [rev_cons, ← rev_len K, flatN_set _ c _ (fun x hx => hsz x (List.mem_append_left _ hx)) 32 _ (cells_els c t3 _)] at h5
      rw [rev_len] at h5
      rw [rev_cons]
      refine ownsRow_of h5 (fun k hk => ?_)
      have : go = k := Option.some.inj hk
      subst this
      exact G.old go t4 hgb
    · show go < (grownW w9 go (K.length * 34 + 32) g9 E.length c9 c2.cells).heap.size; omega
    · refine .cons _ _ K B (E ++ [(c2, n2)]) m0 s q _ (hst.keep (fun b b1 b2 b3 => hold b (by omega) b3) (Nat.le_refl _) (fun _ _ _ h => h)) hms hsq (by show q ≤ (grownW w9 go (K.length * 34 + 32) g9 E.length c9 c2.cells).heap.size; omega) ?_ ?_ (hb.keep (fun b b1 b2 b3 => hold b (by omega) b3) (Nat.le_refl _) (fun _ _ _ _ h => h)) hO ?_ ?_ ?_
      · unfold PN.putIn; rw [if_neg hm]; exact h1
      · have e : (r.putIn n2).ps = r.ps := by unfold PN.putIn; split <;> rfl
        rw [e]
        exact st.keep (fun b b1 b2 => hold b (by omega) b1.2.2) (fun _ h _ => h)
      · unfold PN.putIn; rw [if_neg hm]
        exact eb
      · unfold PN.putIn; rw [if_neg hm]
        show r.els ++ [n2] = _
        rw [ee, List.map_append]; rfl
      · unfold PN.putIn; rw [if_neg hm]
        intro h; exact absurd h hm
/-- the innermost one has its middle -/
theorem BlAt.mid {W : World} {bb base : Nat} {dv ov : Value} {D K : List (NC × PN)} {go m : Nat} {c : NC} {r : PN} (h : BlAt W bb base dv ov D ((c, r) :: K) go m) (k : Nat) :
    BlAt (W.setCell ⟨go, K.length * 34 + 33, none⟩ (.int .i64 k)) bb base dv ov D (({ c with mid := k }, r.setMid k) :: K) go m ∧ Fr bb base W (W.setCell ⟨go, K.length * 34 + 33, none⟩ (.int .i64 k)) := by
  obtain ⟨l1, l2, l3⟩ := h.lt
  have hh := h.hl
  have hbl := h.bl
  have hgl := h.gl
  obtain ⟨t1, t2, t3, t4, t5⟩ := h.top
  have hsz := h.stk.rsizes
  rw [rev_cons] at hsz
  obtain ⟨cap, rfl, -, -, -⟩ := h.shape.2 (by simp)
  have hw : (W.setCell ⟨go, K.length * 34 + 33, none⟩ (.int .i64 k)).heap.size = W.heap.size := by simp [World.setCell]
  have hold : ∀ b, b ≠ go → (W.setCell ⟨go, K.length * 34 + 33, none⟩ (.int .i64 k)).heap[b]? = W.heap[b]? := fun b hb => set_heap hb
  have hbb : bb ≠ go := by omega
  refine ⟨⟨(World.cell?_of_block (a := ⟨bb, 0, none⟩) (hold bb hbb)).trans h.c0, (World.cell?_of_block (a := ⟨bb, 1, none⟩) (hold bb hbb)).trans h.c1, fun o => (World.frozen?_of_block (a := ⟨bb, o, none⟩) (hold bb hbb)).trans (h.fr o), hbl, by omega, ?_, h.og, by omega, ?_, h.deep⟩, ⟨rfl, rfl, rfl, by omega, fun b b1 b2 => hold b (by omega)⟩⟩
  · have h5 := (h.orow.stored (K.length * 34 + 33) (.int .i64 k)).1
    rw [rev_cons, ← rev_len K, flatN_set _ c _ (fun x hx => hsz x (List.mem_append_left _ hx)) 33 _ (cells_mid c t3 k)] at h5
    rw [rev_len] at h5
    rw [rev_cons]
    exact h5
  · cases h.stk with
    | cons _ _ _ B E m0 s q _ hst hms hsq hqh h1 st hb he eb ee h0 =>
      have hkp : ∀ b, b ≠ go → (W.setCell ⟨go, K.length * 34 + 33, none⟩ (.int .i64 k)).heap[b]? = W.heap[b]? := hold
      refine .cons _ _ K B E m0 s q _ (hst.keep (fun b _ _ b3 => hkp b b3) (Nat.le_refl _) (fun _ _ _ h => h)) hms hsq hqh ⟨h1.1, h1.2.1, rfl⟩ (st.keep (fun b b1 _ => hkp b b1.2.2) (fun _ h _ => h)) (hb.keep (fun b _ _ b3 => hkp b b3) (Nat.le_refl _) (fun _ _ _ _ h => h)) (he.keep (fun b _ _ b3 => hkp b b3) (Nat.le_refl _) (fun _ _ _ _ h => h)) eb ee (fun h => ?_)
      exact absurd (show (k : Int) < 0 from h) (by omega)
/-- the innermost one is closed: it stands by itself, the others are open -/
theorem BlAt.close {W : World} {bb base : Nat} {dv : Value} {D K : List (NC × PN)} {go m cap : Nat} {c : NC} {r : PN} (h : BlAt W bb base dv (.slice (some ⟨go, 0, none⟩) (K.length + 1) cap) D ((c, r) :: K) go m) (k : Nat) :
    ∃ m', BlAt ((W.setCell ⟨go, K.length * 34 + 1, none⟩ (.int .i64 k)).setCell ⟨bb, 1, none⟩ (.slice (some ⟨go, 0, none⟩) K.length cap)) bb base dv (.slice (some ⟨go, 0, none⟩) K.length cap) D K go m' ∧
      Node1 ((W.setCell ⟨go, K.length * 34 + 1, none⟩ (.int .i64 k)).setCell ⟨bb, 1, none⟩ (.slice (some ⟨go, 0, none⟩) K.length cap)) (fun b => m' ≤ b ∧ b < W.heap.size ∧ b ≠ go) { c with en := k } (r.setEn k) ∧
      ((W.setCell ⟨go, K.length * 34 + 1, none⟩ (.int .i64 k)).setCell ⟨bb, 1, none⟩ (.slice (some ⟨go, 0, none⟩) K.length cap)).rangeAt go (K.length * 34) ({ c with en := k } : NC).cells ∧
      Fr bb base W ((W.setCell ⟨go, K.length * 34 + 1, none⟩ (.int .i64 k)).setCell ⟨bb, 1, none⟩ (.slice (some ⟨go, 0, none⟩) K.length cap)) := by
  obtain ⟨l1, l2, l3⟩ := h.lt
  have hh := h.hl
  have hbl := h.bl
  have hgl := h.gl
  obtain ⟨t1, t2, t3, t4, t5⟩ := h.top
  have hsz := h.stk.rsizes
  rw [rev_cons] at hsz
  have hbb : bb ≠ go := by omega
  have hw : ((W.setCell ⟨go, K.length * 34 + 1, none⟩ (.int .i64 k)).setCell ⟨bb, 1, none⟩ (.slice (some ⟨go, 0, none⟩) K.length cap)).heap.size = W.heap.size := by simp [World.setCell]
  have hold : ∀ b, b ≠ go → b ≠ bb → ((W.setCell ⟨go, K.length * 34 + 1, none⟩ (.int .i64 k)).setCell ⟨bb, 1, none⟩ (.slice (some ⟨go, 0, none⟩) K.length cap)).heap[b]? = W.heap[b]? := fun b hb hb2 => (set_heap hb2).trans (set_heap hb)
  have hW1 : ∀ o, (W.setCell ⟨go, K.length * 34 + 1, none⟩ (.int .i64 k)).cell? ⟨bb, o, none⟩ = W.cell? ⟨bb, o, none⟩ := fun o => World.cell?_of_block (a := ⟨bb, o, none⟩) (set_heap hbb)
  have h5 := (h.orow.stored (K.length * 34 + 1) (.int .i64 k)).1
  rw [rev_cons, ← rev_len K, flatN_set _ c _ (fun x hx => hsz x (List.mem_append_left _ hx)) 1 _ (cells_en c k), rev_len] at h5
  have hxs : (flatN (K.reverse.map (·.1))).length = K.length * 34 := by rw [flatN_length _ (fun x hx => hsz x (List.mem_append_left _ hx)), rev_len]
  have h6 : ((W.setCell ⟨go, K.length * 34 + 1, none⟩ (.int .i64 k)).setCell ⟨bb, 1, none⟩ (.slice (some ⟨go, 0, none⟩) K.length cap)).ownsRow base NDT 34 (.slice (some ⟨go, 0, none⟩) (K.length + 1) cap) (K.length + 1) (flatN (K.reverse.map (·.1) ++ [{ c with en := k }])) := ownsRow_of h5 (fun k' hk => by
    have : go = k' := Option.some.inj hk
    subst this
    exact set_heap (fun e => hbb e.symm))
  have h7 : ((W.setCell ⟨go, K.length * 34 + 1, none⟩ (.int .i64 k)).setCell ⟨bb, 1, none⟩ (.slice (some ⟨go, 0, none⟩) K.length cap)).ownsRow base NDT 34 (.slice (some ⟨go, 0, none⟩) K.length cap) K.length (flatN (K.reverse.map (·.1))) := by
    rcases h6.2 with ⟨e, _⟩ | ⟨g, cp, cur, e, hg, hh6, hc, hm, hs, ht⟩
    · cases e
    · injection e with e1 e2 e3
      injection e1 with e1
      injection e1 with e1
      subst e1 e3
      refine ⟨hxs, .inr ⟨go, cap, cur, rfl, hg, hh6, by omega, hm, hs, ?_⟩⟩
      have h8 := congrArg (List.take (K.length * 34)) ht
      rw [List.take_take, flatN_append, show min (K.length * 34) ((K.length + 1) * 34) = K.length * 34 by omega, List.take_left' hxs] at h8
      exact h8
  have hrng : ((W.setCell ⟨go, K.length * 34 + 1, none⟩ (.int .i64 k)).setCell ⟨bb, 1, none⟩ (.slice (some ⟨go, 0, none⟩) K.length cap)).rangeAt go (K.length * 34) ({ c with en := k } : NC).cells := fun j v hv => by
    have hj : j < 34 := by
      have := (List.getElem?_eq_some_iff.1 hv).1
      rwa [NC.len (show ({ c with en := k } : NC).cs.size = 29 from t3)] at this
    rw [World.ownsRow.cellAt h6 _ (by omega), ← rev_len K, flatN_last _ _ (fun x hx => hsz x (List.mem_append_left _ hx)) j hj (show ({ c with en := k } : NC).cs.size = 29 from t3)]
    exact hv
  have hog : (Value.ownBlock (.slice (some ⟨go, 0, none⟩) K.length cap) = none ∧ go = bb) ∨ (Value.ownBlock (.slice (some ⟨go, 0, none⟩) K.length cap) = some go ∧ base ≤ go) := .inr ⟨rfl, t5⟩
  cases hS : h.stk with
  | cons _ _ _ B E m0 s q _ hst hms hsq hqh h1 st hb he eb ee h0 =>
    have hbase := hst.le
    refine ⟨m0, ⟨?_, ?_, fun o => ?_, hbl, by omega, h7, hog, by omega, hst.keep (fun b b1 b2 b3 => hold b b3 (by omega)) (Nat.le_refl _) (fun _ _ _ h => h), by have := h.deep; simp at this; omega⟩, ⟨h1.1, rfl, h1.2.2, st.keep (fun b b1 _ => hold b b1.2.2 (by omega)) (fun b b1 _ => ⟨b1.1, by omega, b1.2.2⟩), ?_, ?_⟩, hrng, ⟨rfl, rfl, rfl, by omega, fun b b1 b2 => hold b (by omega) b2⟩⟩
    · simp [go_sem, hW1, h.c0]
    · simp [go_sem, hW1, h.c1]
    · have : (W.setCell ⟨go, K.length * 34 + 1, none⟩ (.int .i64 k)).frozen? ⟨bb, o, none⟩ = false := (World.frozen?_of_block (a := ⟨bb, o, none⟩) (set_heap hbb)).trans (h.fr o)
      simp [go_sem, this]
    · show Nodes _ _ r.body c.bv
      rw [eb]
      exact hb.nodes.keep (fun b b1 _ => hold b b1.2.2 (by omega)) (fun b b1 _ => ⟨by omega, by omega, b1.2.2⟩)
    · show Nodes _ _ r.els c.ev
      rw [ee]
      exact he.nodes.keep (fun b b1 _ => hold b b1.2.2 (by omega)) (fun b b1 _ => ⟨by omega, by omega, b1.2.2⟩)
end Go.Proofs.YthkbchefjagbbaaGreatDoor.Line

namespace Go.Proofs.YthkbchefjagbbaaGreatDoor.Line
open Go.ChangeShapes Go.WideShapes Go.ChangeAt Go.RowKit
open Ex (E St)
set_option linter.unusedVariables false

def topP (go : Nat) (K : List (NC × PN)) : Value := if K.length = 0 then .pointer none else .pointer (some ⟨go, (K.length - 1) * 34, none⟩)
set_option maxHeartbeats 2000000 in
theorem innermost_any {bb base go hi : Nat} {dv ov : Value} {D K : List (NC × PN)} (w : World) (h : BlAt w bb base dv ov D K go hi) :
    Calls Tryz.prog 81 #[.pointer (some ⟨bb, 0, none⟩)] w fun e w' => e = .returned (topP go K) ∧ ∃ n, w' = w.drewN n := by
  have h1 := h.c1
  by_cases h0 : K.length = 0
  · obtain ⟨a, cap, hov⟩ := h.shape.1
    subst hov
    rw [h0] at h1
    unfold topP
    rw [if_pos h0]
    clear h
    go_enter Tryz.func81, Tryz.ntmps81
    go_wp2
    go_ret
    exact ⟨rfl, 0, rfl⟩
  · obtain ⟨cap, hov, hc, hb, hl⟩ := h.shape.2 (by omega)
    subst hov
    unfold topP
    rw [if_neg h0]
    have HD := h.deep
    clear h
    generalize hk : K.length = k at *
    have hk1 : ((k : Int) == 0) = false := by rw [beq_eq_false_iff_ne]; omega
    have hk2 : ¬ (k : Int) = 0 := by omega
    have hk3 : (0 : Int) ≤ (k : Int) - 1 := by omega
    have hk4 : (k : Int) - 1 < k := by omega
    have hk5 : k ≤ 8 := HD
    go_enter Tryz.func81, Tryz.ntmps81
    go_wp2_with fail
    go_quiet (fail)
    go_wp2
    go_ret
    exact ⟨rfl, nq, rfl⟩
theorem head_some {D : List (NC × PN)} {p : NC × PN} (K : List (NC × PN)) (h : K = []) : (⟨(D ++ [p]).map (·.2), K.map (·.2)⟩ : Bl).atHead = (kindN p.2.ps == 1) := by
  subst h
  simp [Bl.atHead]
set_option maxHeartbeats 2000000 in
theorem atHead_any {bb base go hi : Nat} {dv ov : Value} {D K : List (NC × PN)} (w : World) (h : BlAt w bb base dv ov D K go hi) (hD : D.length ≤ 1000000) :
    Calls Tryz.prog 126 #[.pointer (some ⟨bb, 0, none⟩)] w fun e w' => e = .returned (.bool (⟨D.map (·.2), K.map (·.2)⟩ : Bl).atHead) ∧ w' = w := by
  have c1 := h.c1
  have c0 := h.c0
  have hdp := h.deep
  have hdl : ∃ a cap, dv = .slice a D.length cap := by
    have hs := h.stk
    clear h c0 c1
    induction hs with
    | nil hi hle hO => exact hO.shape
    | cons c n K B E m s q hi h hms hsq hqh h1 st hb he eb ee h0 ih => exact ih (by simp at hdp; omega)
  obtain ⟨da, dcap, hdv⟩ := hdl
  obtain ⟨a, cap, hov⟩ := h.shape.1
  by_cases h0 : K.length = 0
  · have hK : K = [] := List.length_eq_zero_iff.1 h0
    have hO : OwnL w base hi go dv D := by
      have := h.stk
      rw [hK] at this
      cases this with
      | nil _ _ hD => exact hD
    rcases List.eq_nil_or_concat D with hd | ⟨D', p, hd⟩
    · subst hov hdv
      rw [h0] at c1
      subst hd
      have c0 : w.cell? ⟨bb, 0, none⟩ = some (.slice da 0 dcap) := c0
      have hr : (⟨([] : List (NC × PN)).map (·.2), K.map (·.2)⟩ : Bl).atHead = true := by rw [hK]; rfl
      rw [hr]
      clear h hO
      go_enter Tryz.func126, Tryz.ntmps126
      go_wp2
      go_ret
      exact ⟨rfl, rfl⟩
    · rw [List.concat_eq_append] at hd
      have hrow := hO.row
      have h1 := hO.one p (by rw [hd]; simp)
      have hsz := hO.sizes
      subst hov
      rw [h0] at c1
      obtain ⟨g, rfl⟩ : ∃ g, da = some ⟨g, 0, none⟩ := by
        rcases hrow.2 with ⟨e, h5⟩ | ⟨g, cp, cur, e, _⟩
        · rw [hd] at h5; simp at h5
        · rw [hdv] at e; injection e with e; exact ⟨g, e⟩
      have hlen : D.length = D'.length + 1 := by rw [hd]; simp
      subst hdv
      have hk : w.cell? ⟨g, D'.length * 34 + 2, none⟩ = some (.int .i64 (kindN p.2.ps)) := by
        rw [World.ownsRow.cellAt hrow _ (by omega), hd, List.map_append]
        have := flatN_last (D'.map (·.1)) p.1 (fun x hx => hsz x (by rw [hd, List.map_append]; exact List.mem_append_left _ hx)) 2 (by omega) h1.st.size.1
        rw [List.length_map] at this
        show (flatN (D'.map (·.1) ++ [p.1]))[_]? = _
        rw [this, (cells_at p.1 h1.st.size.1).2.2.1, h1.st.kind, full_kind]
      rw [hlen] at c0 hD
      rw [hd, head_some K hK]
      clear h hO hrow h1 hsz hd hlen
      generalize D'.length = len at *
      generalize hkk : kindN p.2.ps = kk at *
      have i1 : ¬ (len : Int) < 0 := by omega
      have i2 : (len : Int) < len + 1 := by omega
      have i3 : (kk == 1) = ((kk : Int) == 1) := by
        rw [Bool.eq_iff_iff, beq_iff_eq, beq_iff_eq]; omega
      have i4 : (0 : Int) ≤ len := by omega
      rw [i3]
      clear i3 hkk
      go_enter Tryz.func126, Tryz.ntmps126
      go_wp2
      go_ret
      exact ⟨rfl, rfl⟩
  · have hr : (⟨D.map (·.2), K.map (·.2)⟩ : Bl).atHead = false := by
      cases K with
      | nil => simp at h0
      | cons p K => rfl
    rw [hr]
    subst hov hdv
    clear h hr
    generalize K.length = k at *
    generalize D.length = len at *
    have hk1 : ((k : Int) == 0) = false := by rw [beq_eq_false_iff_ne]; omega
    go_enter Tryz.func126, Tryz.ntmps126
    go_wp2
    go_ret
    exact ⟨rfl, rfl⟩
end Go.Proofs.YthkbchefjagbbaaGreatDoor.Line
