/- tree.Find: a walk that ends at a line; what it has found is copied.
   tree.Walk: a walk over a copy; what the law's own counting does.
   Lines that are read as statements, and what blocks they make: by reckoning; how great blocks are. -/
import Derived.Test.YthkbchefjagbbaaGreatDoorTrWalkA
import Derived.Test.YthkbchefjagbbaaGreatDoorCpB
import Derived.Test.YthkbchefjagbbaaGreatDoorTrAddA
import Derived.Lib.LazyBuf
import Derived.Test.YthkbchefjagbbaaGreatDoorStGaA
import Derived.Test.YthkbchefjagbbaaGreatDoorTrEndA
namespace Go.Proofs.YthkbchefjagbbaaGreatDoor.Line
open Go.ChangeShapes Go.WideShapes Go.ChangeAt Go.RowKit
open Ex (E St)
set_option linter.unusedVariables false

theorem fit_pre {l : List PN} (h : FitN.FitNs l) (hs : szP.szPs l ≤ 900000) : ∀ k (l : List PN), szP.szPs l ≤ k → FitN.FitNs l → ∀ (d : Nat), ∀ x ∈ preL l d, FitN x.1 ∧ szP x.1 ≤ szP.szPs l := by
  intro k
  induction k with
  | zero =>
    intro l hk hf d x hx
    cases l with
    | nil => rw [preL_nil] at hx; cases hx
    | cons n l => rw [szPs_cons] at hk; omega
  | succ k ih =>
    intro l hk hf d x hx
    cases l with
    | nil => rw [preL_nil] at hx; cases hx
    | cons n l =>
      rw [szPs_cons] at hk
      have hf2 := (fit_cons n l).1 hf
      rw [preL_cons] at hx
      have e : szP.szPs (n :: l) = szP n + szP.szPs l := by rw [szP.szPs]
      have e2 := szPs_cons n l
      rcases List.mem_cons.1 hx with rfl | hx
      · refine ⟨?_, by dsimp only; omega⟩
        have := hf
        rw [FitN.FitNs] at this
        exact this.1
      · rcases List.mem_append.1 hx with hx | hx
        · rcases List.mem_append.1 hx with hx | hx
          · have := ih n.body (by omega) hf2.1.2.1 _ x hx
            exact ⟨this.1, by omega⟩
          · have := ih n.els (by omega) hf2.1.2.2 _ x hx
            exact ⟨this.1, by omega⟩
        · have := ih l (by omega) hf2.2 _ x hx
          exact ⟨this.1, by omega⟩
/-- none was the one that is looked for -/
structure JFnd (b1 b2 base : Nat) (line : Int) (vis : List (PN × Nat)) (A : Nat → Prop) (W : World) : Prop where
  na1 : ¬ A b1
  na2 : ¬ A b2
  cell1 : W.cell? ⟨b1, 0, none⟩ = some (.int .i64 line)
  cell2 : W.cell? ⟨b2, 0, none⟩ = some (.slice none 0 0)
  fr : W.frozen? ⟨b2, 0, none⟩ = false
  bsz : base ≤ W.heap.size
  lt : b2 < base
  no : ∀ x ∈ vis, (x.1.line : Int) ≠ line
/-- the last one was -/
def JEnd (b2 base : Nat) (S : Nat → Prop) (line : Int) (vis : List (PN × Nat)) (A : Nat → Prop) (W : World) : Prop :=
  ∃ front n d fv, vis = front ++ [(n, d)] ∧ (∀ x ∈ front, (x.1.line : Int) ≠ line) ∧ (n.line : Int) = line ∧ W.cell? ⟨b2, 0, none⟩ = some fv ∧ Nodes W (fun b => S b ∨ base ≤ b) [n] fv
theorem enter_find (args : Array Value) (W : World) : (callFunc 83 args).run Tryz.prog W = .ok (.enter 83 args) W := enter_of Tryz.func83 (by kernel_rfl) rfl args W
theorem row_one {W : World} {S : Nat → Prop} {n : PN} {c : NC} (h : Node1 W S c n) (t t2 : TypeId) : Nodes ((W.alloc (.cells c.cells.toArray t)).alloc (.cells c.cells.toArray t2)) (fun b => (S b ∧ b < W.heap.size) ∨ b = W.heap.size + 1) [n] (.slice (some ⟨W.heap.size + 1, 0, none⟩) 1 1) := by
  have b1 := alloc_below W (.cells c.cells.toArray t)
  have s1 : (W.alloc (.cells c.cells.toArray t)).heap.size = W.heap.size + 1 := by simp
  have b2 : Below W.heap.size W ((W.alloc (.cells c.cells.toArray t)).alloc (.cells c.cells.toArray t2)) := Below.alloc b1 (by omega) _
  have hr : ((W.alloc (.cells c.cells.toArray t)).alloc (.cells c.cells.toArray t2)).rangeAt (W.heap.size + 1) 0 c.cells := by
    have := boxN_range (W.alloc (.cells c.cells.toArray t)) c.cells t2
    rw [s1] at this
    exact this
  have h1 : Node1 ((W.alloc (.cells c.cells.toArray t)).alloc (.cells c.cells.toArray t2)) (fun b => (S b ∧ b < W.heap.size) ∨ b = W.heap.size + 1) c n := h.keep (fun b _ hl => b2.block b hl) (fun b hS hl => .inl ⟨hS, hl⟩)
  refine .row [n] (W.heap.size + 1) 0 1 (fun _ => c) (.inr rfl) (Nat.le_refl _) (by decide) (by simp) (fun i hi => ?_) (fun i hi => ?_) (fun i hi => ?_) (fun i hi => ?_) (fun i hi => ?_)
  all_goals
    have hi0 : i = 0 := by simpa using hi
    subst hi0
  · exact hr
  · exact ⟨h1.line, h1.en, h1.mid⟩
  · exact h1.st
  · exact h1.body
  · exact h1.els
theorem row_one_lt (W : World) (S : Nat → Prop) (o1 o2 : Obj) (b : Nat) (h : (S b ∧ b < W.heap.size) ∨ b = W.heap.size + 1) : b < ((W.alloc o1).alloc o2).heap.size := by
  have e : ((W.alloc o1).alloc o2).heap.size = W.heap.size + 2 := by simp
  omega
theorem fold_zip : ∀ (l : List Value) (k : Nat) (a : Array Value), a.size = k + l.length → (l.zipIdx k).foldl (fun cs x => cs.setIfInBounds x.2 x.1) a = (a.toList.take k ++ l).toArray
  | [], k, a, h => by
    have h : a.size = k := h
    rw [List.append_nil, List.take_of_length_le (by simp; omega)]; rfl
  | x :: l, k, a, h => by
    rw [List.length_cons] at h
    rw [List.zipIdx_cons, List.foldl_cons, fold_zip l (k + 1) _ (by simp; omega), Array.toList_setIfInBounds]
    congr 1
    rw [show x :: l = [x] ++ l from rfl, ← List.append_assoc]
    congr 1
    refine List.ext_getElem? (fun i => ?_)
    rw [List.getElem?_take, List.getElem?_append, List.length_take, Nat.min_eq_left (by simp; omega)]
    by_cases h1 : i < k
    · rw [if_pos (by omega), if_pos h1, List.getElem?_take, if_pos h1, List.getElem?_set_ne (by omega)]
    · by_cases h2 : i = k
      · subst h2
        rw [if_pos (by omega), if_neg h1, Nat.sub_self, List.getElem?_set_self (by simp; omega)]
        rfl
      · rw [if_neg (by omega), if_neg h1, List.getElem?_eq_none (by simp; omega)]
theorem eql_nilN (w : World) (a : Option Addr) (l c : Nat) : (binOp .eql NDS (.slice a l c) (.slice none 0 0)).run Tryz.prog w = .ok (.bool a.isNone) w := run_eql_slice_nil w _ NDT a l c (by kernel_rfl)
set_option maxHeartbeats 4000000 in
set_option maxRecDepth 100000 in
theorem find_call (b1 b2 base : Nat) (line : Int) (vis : List (PN × Nat)) (A S : Nat → Prop) (W : World) (n : PN) (d : Nat) (c : NC) (hJ : JFnd b1 b2 base line vis A W) (hSA : ∀ b, S b → A b) (hn : Node1 W S c n) (hfit : FitN n ∧ szP n ≤ 900000) :
    Calls Tryz.prog 83 #[.agg c.cells.toArray, .int .i64 d, .pointer (some ⟨b1, 0, none⟩), .pointer (some ⟨b2, 0, none⟩)] W fun e W' => ∃ r, e = .returned (.bool r) ∧ Upd (fun b => ¬ A b) W W' ∧ (r = true → JFnd b1 b2 base line (vis ++ [(n, d)]) A W') ∧ (r = false → JEnd b2 base S line (vis ++ [(n, d)]) A W') := by
  have HJ := hide (And.intro hJ (And.intro hSA hn))
  obtain ⟨hna1, hna2, hc1, hc2, hf, hbase, hlt, hnone⟩ := hJ
  have hcl1 := cell_lt hc1
  have hcl2 := cell_lt hc2
  have ba := alloc_below W (.cells c.cells.toArray 85)
  have d1 := (ba.cell (p := ⟨b1, 0, none⟩) hcl1).trans hc1
  have d2 := (ba.cell (p := ⟨b2, 0, none⟩) hcl2).trans hc2
  have hcl := NC.len hn.st.size.1
  have hrg := boxN_range W c.cells 85
  have d0 : (W.alloc (.cells c.cells.toArray 85)).cell? ⟨W.heap.size, 0, none⟩ = some (.int .i64 n.line) := by
    rw [← hn.line]; exact hrg 0 _ rfl
  have HB := hide ba
  have HC := hide (copied_any ((W.alloc (.cells c.cells.toArray 85)).alloc (.cells c.cells.toArray 85)) _ [n] _ (row_one hn 85 85) (row_one_lt W S _ _) ⟨hfit.1, trivial⟩ (by rw [szP.szPs, szP.szPs]; omega))
  clear ba hn hna1 hna2 hfit
  by_cases hl : (n.line : Int) = line
  · have hlb : ((n.line : Int) == line) = true := by rw [beq_iff_eq]; exact hl
    go_enter Tryz.func83, Tryz.ntmps83
    go_wp2_with (first | (refine wpListN_load rfl _ rfl _ _ rfl _ hcl hrg ?_))
    rw [fold_zip c.cells 0 _ (by rw [hcl]; rfl), List.take_zero, List.nil_append]
    refine (unhide HC).mono ?_
    rintro e w2 ⟨v', rfl, hN, hB2⟩
    obtain ⟨ga, go, gc, hfv⟩ : ∃ g off c, v' = .slice (some ⟨g, off, none⟩) 1 c := by
      generalize hnl : [n] = nl at hN
      cases hN with
      | nil => cases hnl
      | row _ b off cap => subst hnl; exact ⟨_, _, _, rfl⟩
    subst hfv
    have hb2 := unhide HB
    have hb3 : Below W.heap.size W w2 := bthen (bthen hb2 (alloc_below _ _)) hB2
    have k2 := (hb3.cell (p := ⟨b2, 0, none⟩) hcl2).trans hc2
    have kf := (hb3.frozen (p := ⟨b2, 0, none⟩) hcl2).trans hf
    have hs2 : w2.heap.size ≥ W.heap.size + 2 := by
      have h1 := hB2.size
      have h2 : ((W.alloc (.cells c.cells.toArray 85)).alloc (.cells c.cells.toArray 85)).heap.size = W.heap.size + 2 := by simp
      omega
    have hna2 := (unhide HJ).1.na2
    have HN : Hid (JEnd b2 base S line (vis ++ [(n, d)]) A (w2.setCell ⟨b2, 0, none⟩ (.slice (some ⟨ga, go, none⟩) 1 gc)) ∧ Upd (fun b => ¬ A b) W (w2.setCell ⟨b2, 0, none⟩ (.slice (some ⟨ga, go, none⟩) 1 gc))) := hide ⟨⟨vis, n, d, _, rfl, hnone, hl, World.cell?_setCell_same _ _ _ k2, hN.keep (fun b hb hlt2 => set_heap (by
      rintro rfl
      rcases hb with (hb | hb) | hb
      · exact hna2 (hSA b hb.1)
      · omega
      · have h2 : ((W.alloc (.cells c.cells.toArray 85)).alloc (.cells c.cells.toArray 85)).heap.size = W.heap.size + 2 := by simp
        omega)) (fun b hb hlt2 => by
      rcases hb with (hb | hb) | hb
      · exact .inl hb.1
      · exact .inr (by omega)
      · have h2 : ((W.alloc (.cells c.cells.toArray 85)).alloc (.cells c.cells.toArray 85)).heap.size = W.heap.size + 2 := by simp
        exact .inr (by omega))⟩, (Upd.below hb3).trans (Upd.set _ _ _ hna2)⟩
    have m2 := World.cell?_setCell_same w2 ⟨b2, 0, none⟩ (.slice (some ⟨ga, go, none⟩) 1 gc) k2
    have hq := fun w => eql_nilN w (some ⟨ga, go, none⟩) 1 gc
    clear hN hB2 hb3 hb2 hs2
    go_wp2_with fail
    go_ret
    exact ⟨false, rfl, (unhide HN).2, (fun h => by cases h), (fun _ => (unhide HN).1)⟩
  · have hlb : ((n.line : Int) == line) = false := by rw [beq_eq_false_iff_ne]; exact hl
    clear HC
    go_enter Tryz.func83, Tryz.ntmps83
    have hq := fun w => eql_nilN w none 0 0
    go_wp2_with fail
    go_ret
    have hb2 := unhide HB
    obtain ⟨hJ, _, _⟩ := unhide HJ
    refine ⟨true, rfl, Upd.below hb2, fun _ => ⟨hJ.na1, hJ.na2, d1, d2, (hb2.frozen (p := ⟨b2, 0, none⟩) hcl2).trans hf, Nat.le_trans hbase hb2.size, hlt, fun x hx => ?_⟩, fun h => by cases h⟩
    rcases List.mem_append.1 hx with hx | hx
    · exact hnone x hx
    · rw [List.mem_singleton.1 hx]; exact hl
theorem vis_find (b1 b2 base : Nat) (line : Int) (l : List PN) (S : Nat → Prop) (hf : FitN.FitNs l) (hs : szP.szPs l ≤ 900000) : Visitor 83 #[.pointer (some ⟨b1, 0, none⟩), .pointer (some ⟨b2, 0, none⟩)] (preL l 0) S (JFnd b1 b2 base line) (JEnd b2 base S line) :=
  ⟨fun vis A W W' h hu => ⟨h.na1, h.na2, (World.cell?_of_block (a := ⟨b1, 0, none⟩) (hu.block b1 (cell_lt h.cell1) h.na1)).trans h.cell1, (World.cell?_of_block (a := ⟨b2, 0, none⟩) (hu.block b2 (cell_lt h.cell2) h.na2)).trans h.cell2, (World.frozen?_of_block (a := ⟨b2, 0, none⟩) (hu.block b2 (cell_lt h.cell2) h.na2)).trans h.fr, Nat.le_trans h.bsz hu.size, h.lt, h.no⟩,
   fun vis A A' W h hs => ⟨fun hb => (hs b1 hb).elim h.na1 (fun hl => by have := cell_lt h.cell1; omega), fun hb => (hs b2 hb).elim h.na2 (fun hl => by have := cell_lt h.cell2; omega), h.cell1, h.cell2, h.fr, h.bsz, h.lt, h.no⟩,
   enter_find, fun _ _ _ _ h _ => h,
   fun vis A W n d c hJ hS hn hd hv ⟨rest, he⟩ => find_call b1 b2 base line vis A S W n d c hJ hS hn (by
     have := fit_pre hf hs _ l (Nat.le_refl _) hf 0 (n, d) (by rw [he]; simp)
     exact ⟨this.1, by have := this.2; dsimp only at this; omega⟩)⟩
/-- what Find tells -/
def FindPost (B : Nat) (l : List PN) (line : Int) (S : Nat → Prop) (e : Ending) (w' : World) : Prop :=
  (∃ front n d rest c, preL l 0 = front ++ (n, d) :: rest ∧ (∀ x ∈ front, (x.1.line : Int) ≠ line) ∧ (n.line : Int) = line ∧ e = .returned (.tuple #[.agg c.cells.toArray, .bool true]) ∧ Node1 w' (fun b => S b ∨ B ≤ b) c n) ∨
  ((∀ x ∈ preL l 0, (x.1.line : Int) ≠ line) ∧ e = .returned (.tuple #[.agg zeroND, .bool false]))
/-- a node's row by itself -/
def NdAt (w : World) (g : Nat) (c : Array Value) : Prop := w.heap[g]? = some (.cells c NDT (0, 0)) ∧ c.size = 34
theorem wpListN_storeRow {ops : Array Oper} {rest : List Oper} {op : Oper} {a : Act} {w : World} {Q : Exit → Act → World → Prop} (hgd : op.guard = none) (x y : Operand) (ho : op.op = .store NDT x y) (g : Nat) (c c' : Array Value)
    (hx : a.eval x = .pointer (some ⟨g, 0, none⟩)) (hy : a.eval y = .agg c') (hs : NdAt w g c) (hc' : c'.size = 34) (h1 : c'.all (·.oneCell') = true)
    (h : wpList Tryz.prog ops Q rest (a.put op.dst undef) (w.setRow g c')) : wpList Tryz.prog ops Q (op :: rest) a w :=
  wpList_plain hgd fun K hK => by
    unfold Oper.wp execOp
    simp only [ho, hx, hy, Instr.storeAt, Instr.sureAddr, Sem.run_bind, Sem.run_pure, Result.andThen_ok, run_storeVar_row (P := Tryz.prog) w g NDT NDT c c' hs.1 (by rw [hc']; exact sizeND) (by rw [hs.2, hc']) h1]
    exact hK _ _ h
theorem NdAt.setRow {w : World} {g : Nat} {c c' : Array Value} (h : NdAt w g c) (hc' : c'.size = 34) : NdAt (w.setRow g c') g c' ∧ Upd (fun b => b = g) w (w.setRow g c') := by
  refine ⟨⟨?_, hc'⟩, ⟨rfl, rfl, rfl, by simp [World.setRow], fun i hi hne => ?_⟩⟩
  · show (w.heap.modify g _)[g]? = _
    rw [Array.getElem?_modify, if_pos rfl, h.1]
    rfl
  · show (w.heap.modify g _)[i]? = _
    rw [Array.getElem?_modify, if_neg (fun e => hne (by rw [e]))]
theorem res_nd {fn : Func} {p u : Tmp} (h : fn.results = #[.cell p NDT, .tmp u]) (tmps : Array Value) (W : World) (r : Nat) (cs : Array Value) (hp : tmps.getD p undef = .pointer (some ⟨r, 0, none⟩)) (hs : NdAt W r cs) (g : Value) (hg : tmps.getD u undef = g) : (results fn tmps).run Tryz.prog W = .ok (.tuple #[.agg cs, g]) W := by
  rw [results_cell_tmp h, hp, hg]
  simp only [asAddr, Sem.run_pure, Result.andThen_ok]
  rw [run_loadVar_row (P := Tryz.prog) W r NDT NDT cs (0, 0) _ hs.1 Tryz.underlying85 rfl (by rw [hs.2]; exact sizeND)]
  rfl
set_option maxHeartbeats 8000000 in
set_option maxRecDepth 100000 in
theorem find_any (w : World) (S : Nat → Prop) (l : List PN) (v : Value) (line : Int) (h : Nodes w S l v) (hlen : (preL l 0).length ≤ 100000) (hf : FitN.FitNs l) (hs : szP.szPs l ≤ 900000) :
    Calls Tryz.prog 39 #[v, .int .i64 line] w fun e w' => FindPost w.heap.size l line S e w' ∧ Below w.heap.size w w' := by
  obtain ⟨va, vc, hv⟩ := h.shape
  let W1 : World := w.alloc (.cells #[.int .i64 line] 3)
  let W2 : World := W1.alloc (.cells zeroND NDT)
  let W3 : World := W2.alloc (.cells #[.slice none 0 0] NDS)
  have s1 : W1.heap.size = w.heap.size + 1 := by show (w.alloc _).heap.size = _; simp
  have s2 : W2.heap.size = w.heap.size + 2 := by show (W1.alloc _).heap.size = _; simp; omega
  have s3 : W3.heap.size = w.heap.size + 3 := by show (W2.alloc _).heap.size = _; simp; omega
  have ba1 : Below w.heap.size w W1 := alloc_below w _
  have ba2 : Below W1.heap.size W1 W2 := alloc_below W1 _
  have ba3 : Below W2.heap.size W2 W3 := alloc_below W2 _
  have hB0 : W3.heap[w.heap.size]? = some (.cells #[.int .i64 line] 3 (0, 0)) := (ba3.block _ (by omega)).trans ((ba2.block _ (by omega)).trans (heap_alloc_new w _))
  have hB1 : W3.heap[w.heap.size + 1]? = some (.cells zeroND NDT (0, 0)) := (ba3.block _ (by omega)).trans (by rw [← s1]; exact heap_alloc_new W1 _)
  have hB2 : W3.heap[w.heap.size + 2]? = some (.cells #[.slice none 0 0] NDS (0, 0)) := by rw [← s2]; exact heap_alloc_new W2 _
  have hc1 : W3.cell? ⟨w.heap.size, 0, none⟩ = some (.int .i64 line) := by unfold World.cell?; rw [hB0]; rfl
  have hc2 : W3.cell? ⟨w.heap.size + 2, 0, none⟩ = some (.slice none 0 0) := by unfold World.cell?; rw [hB2]; rfl
  have hf2 : W3.frozen? ⟨w.heap.size + 2, 0, none⟩ = false := by unfold World.frozen?; rw [hB2]; rfl
  have bw : Below w.heap.size w W3 := bthen (bthen ba1 ba2) ba3
  have hN : Nodes W3 (fun b => S b ∧ b < w.heap.size) l v := h.keep (fun b _ hl => bw.block b hl) (fun b hb hl => ⟨hb, hl⟩)
  have HW := hide (walk_any (F := 83) (S0 := fun b => S b ∧ b < w.heap.size) (A0 := fun b => b < w.heap.size ∨ b = w.heap.size + 1) W3 l (vis_find w.heap.size (w.heap.size + 2) (w.heap.size + 3) line l _ hf hs) v hN (fun b hb => by omega) (fun b hb _ => .inl hb.2) ⟨by omega, by omega, hc1, hc2, hf2, by omega, by omega, fun x hx => by cases hx⟩ hlen)
  subst hv
  have HB := hide (And.intro bw (And.intro hB1 s3))
  have hW3 : W3 = ((w.alloc (.cells #[.int .i64 line] 3)).alloc (.cells zeroND NDT)).alloc (.cells #[.slice none 0 0] NDS) := rfl
  clear_value W3
  clear ba1 ba2 ba3 bw hB0 hB1 hB2 s1 s2 s3 hN h hf hs hlen hc1 hc2 hf2
  clear W1 W2
  subst hW3
  go_enter Tryz.func39, Tryz.ntmps39
  go_wp2_with fail
  refine (unhide HW).mono ?_
  rintro e w2 ⟨hu, ⟨rfl, hJ⟩ | ⟨rfl, vis, rest, hvr, front, n, d, fv, hvis, hfr, hln, hcf, hNf⟩⟩
  · have c2 := hJ.cell2
    have hno := hJ.no
    have hq := fun w => eql_nilN w none 0 0
    have hrow : NdAt w2 (w.heap.size + 1) zeroND := ⟨(hu.block (w.heap.size + 1) (by have := (unhide HB).2.2; omega) (fun h => h (.inr rfl))).trans (unhide HB).2.1, rfl⟩
    have hset := hrow.setRow (c' := zeroND) rfl
    have HU := hide (And.intro hu (And.intro hset hno))
    clear hu hJ hset hno
    go_wp2_with (first | (refine wpListN_storeRow rfl _ _ rfl _ _ _ rfl rfl hrow rfl (by kernel_rfl) ?_))
    exact bodyPost_ret (res_nd rfl _ _ _ _ rfl (unhide HU).2.1.1 _ rfl) rfl ⟨.inr ⟨(unhide HU).2.2, rfl⟩, upd_below (unhide HB).1 ((unhide HU).1.mono (fun b _ hx => show b = w.heap.size + 1 ∨ ¬ (b < w.heap.size ∨ b = w.heap.size + 1) from .inr hx) |>.trans ((unhide HU).2.1.2.mono (fun b _ hx => .inl hx))) (fun b hb hx => by omega)⟩
  · obtain ⟨ga, go, gc, c, hfv, hgc, hgm, hSg, hgl, hrg, hn1⟩ := hNf.head
    have hfv : fv = .slice (some ⟨ga, go, none⟩) 1 gc := hfv
    subst hfv
    have hgc : 1 ≤ gc := hgc
    have hq := fun w => eql_nilN w (some ⟨ga, go, none⟩) 1 gc
    have hcl := NC.len hn1.st.size.1
    have hrow : NdAt w2 (w.heap.size + 1) zeroND := ⟨(hu.block (w.heap.size + 1) (by have := (unhide HB).2.2; omega) (fun h => h (.inr rfl))).trans (unhide HB).2.1, rfl⟩
    have hset := hrow.setRow (c' := c.cells.toArray) (by simpa using hcl)
    have hone := all_oneCell_toArray hn1.one
    have hapart : ∀ m b : Nat, ((S b ∧ b < w.heap.size) ∧ b < m ∨ w.heap.size + 3 ≤ b) → b ≠ w.heap.size + 1 := fun m b hb e => by omega
    have HU := hide (And.intro hu (And.intro hset (And.intro hn1 (And.intro hfr (And.intro hln hvr)))))
    have HV := hide hvis
    clear hu hset hn1 hfr hln hvr hvis hNf hSg HW
    go_wp2_with (first | (refine wpListN_load rfl _ rfl _ _ rfl _ hcl hrg ?_) | (refine wpListN_storeRow rfl _ _ rfl _ _ _ rfl rfl hrow (by simpa using hcl) hone ?_))
    refine bodyPost_ret (res_nd rfl _ _ _ _ rfl (unhide HU).2.1.1 _ rfl) rfl ⟨.inl ⟨front, n, d, rest, c, ?_, (unhide HU).2.2.2.1, (unhide HU).2.2.2.2.1, rfl, ?_⟩, upd_below (unhide HB).1 ((unhide HU).1.mono (fun b _ hx => show b = w.heap.size + 1 ∨ ¬ (b < w.heap.size ∨ b = w.heap.size + 1) from .inr hx) |>.trans ((unhide HU).2.1.2.mono (fun b _ hx => .inl hx))) (fun b hb hx => by omega)⟩
    · rw [(unhide HU).2.2.2.2.2, unhide HV, List.append_assoc]; rfl
    · refine (unhide HU).2.2.1.keep (fun b hb hl => (unhide HU).2.1.2.block b hl (hapart _ b hb)) (fun b hb _ => ?_)
      rcases hb with hb | hb
      · exact .inl hb.1.1
      · exact .inr (by omega)
end Go.Proofs.YthkbchefjagbbaaGreatDoor.Line

namespace Go.Proofs.YthkbchefjagbbaaGreatDoor.Line
open Go.ChangeShapes Go.WideShapes Go.ChangeAt Go.RowKit
open Ex (E St)
set_option linter.unusedVariables false

set_option maxHeartbeats 4000000 in
theorem walkC_any {F : FuncId} {caps : Array Value} {S A0 : Nat → Prop} {J Jend : List (PN × Nat) → (Nat → Prop) → World → Prop} (w : World) (l : List PN) (V : ∀ S, Visitor F caps (preL l 0) S J Jend) (v : Value) (h : Nodes w S l v) (hA : ∀ b, A0 b → b < w.heap.size) (hS : ∀ b, S b → b < w.heap.size → A0 b) (hJ : J [] A0 w) (hlen : (preL l 0).length ≤ 100000) (hf : FitN.FitNs l) (hs : szP.szPs l ≤ 900000) :
    Calls Tryz.prog 33 #[v, .func (.func F) #[] caps] w fun e w' => Upd (fun b => ¬ A0 b) w w' ∧ ((e = .returned (.bool true) ∧ ∃ A, J (preL l 0) A w') ∨ (e = .returned (.bool false) ∧ ∃ A vis rest, preL l 0 = vis ++ rest ∧ Jend vis A w')) := by
  have HC := hide (copied_any w (fun b => S b ∧ b < w.heap.size) l v (h.mono (fun b hb hl => ⟨hb, hl⟩)) (fun b hb => hb.2) hf hs)
  have HH := hide (And.intro hA (And.intro hS (And.intro hJ hlen)))
  have HV := hide V
  obtain ⟨va, vc, hv⟩ := h.shape
  subst hv
  clear V h hA hS hJ hlen hf hs
  go_enter Tryz.func33, Tryz.ntmps33
  go_wp2_with fail
  refine (unhide HC).mono ?_
  rintro e w1 ⟨v', rfl, hN, hB⟩
  obtain ⟨hA, hS, hJ, hlen⟩ := unhide HH
  have hsz := hB.size
  have HW := hide (walk_any (S0 := fun b => (S b ∧ b < w.heap.size) ∨ w.heap.size ≤ b) (A0 := fun b => A0 b ∨ (w.heap.size ≤ b ∧ b < w1.heap.size)) w1 l ((unhide HV) _) v' hN (fun b hb => by
    rcases hb with hb | hb
    · have := hA b hb; omega
    · exact hb.2) (fun b hb hl => by
    rcases hb with hb | hb
    · exact .inl (hS b hb.1 hb.2)
    · exact .inr ⟨hb, hl⟩) ((unhide HV (fun _ => True)).frame _ _ _ _ ((unhide HV (fun _ => True)).fresh _ _ _ _ hJ (fun b hb => hb.imp id (fun hb => hb.1))) (Upd.below hB)) hlen)
  have HB := hide hB
  clear hN hB hA hS hJ hlen
  go_wp2_with fail
  refine (unhide HW).mono ?_
  rintro e w2 ⟨hu, hr⟩
  have HU : Hid (Upd (fun b => ¬ A0 b) w w2) := hide ((Upd.below (unhide HB)).trans (hu.mono (fun b _ hx hA => hx (.inl hA))))
  clear hu
  rcases hr with ⟨rfl, hJ⟩ | ⟨rfl, vis, rest, h1, h2⟩
  · have HJ := hide hJ
    clear hJ
    go_wp2
    go_ret
    exact ⟨unhide HU, .inl ⟨rfl, _, unhide HJ⟩⟩
  · have HJ := hide (And.intro h1 h2)
    clear h1 h2
    go_wp2
    go_ret
    exact ⟨unhide HU, .inr ⟨rfl, _, vis, rest, unhide HJ⟩⟩
/-- the deepest of them -/
def maxD (vis : List (PN × Nat)) : Nat := vis.foldl (fun m x => max m x.2) 0
theorem maxD_snoc (vis : List (PN × Nat)) (x : PN × Nat) : maxD (vis ++ [x]) = max (maxD vis) x.2 := by simp [maxD]
/-- so many were told, the deepest of them so deep -/
structure JKn (cb db : Nat) (vis : List (PN × Nat)) (A : Nat → Prop) (W : World) : Prop where
  na1 : ¬ A cb
  na2 : ¬ A db
  ne : cb ≠ db
  cell1 : W.cell? ⟨cb, 0, none⟩ = some (.int .i64 vis.length)
  fr1 : W.frozen? ⟨cb, 0, none⟩ = false
  cell2 : W.cell? ⟨db, 0, none⟩ = some (.int .i64 (maxD vis))
  fr2 : W.frozen? ⟨db, 0, none⟩ = false
theorem enter_kn (args : Array Value) (W : World) : (callFunc 74 args).run Tryz.prog W = .ok (.enter 74 args) W := enter_of Tryz.func74 (by kernel_rfl) rfl args W
set_option maxHeartbeats 4000000 in
set_option maxRecDepth 100000 in
theorem kn_call (cb db : Nat) (vis : List (PN × Nat)) (A : Nat → Prop) (W : World) (n : PN) (d : Nat) (c : NC) (hJ : JKn cb db vis A W) (hv : vis.length ≤ 1000000) :
    Calls Tryz.prog 74 #[.agg c.cells.toArray, .int .i64 d, .pointer (some ⟨cb, 0, none⟩), .pointer (some ⟨db, 0, none⟩)] W fun e W' => ∃ r, e = .returned (.bool r) ∧ Upd (fun b => ¬ A b) W W' ∧ (r = true → JKn cb db (vis ++ [(n, d)]) A W') ∧ (r = false → False) := by
  obtain ⟨hna1, hna2, hne, hc1, hf1, hc2, hf2⟩ := hJ
  have hcl1 := cell_lt hc1
  have hcl2 := cell_lt hc2
  have i1 : IntKind.i64.wrap ((vis.length : Int) + 1) = vis.length + 1 := by rw [IntKind.wrap_i64]; omega
  have hdc : (W.setCell ⟨cb, 0, none⟩ (.int .i64 ((vis.length : Int) + 1))).cell? ⟨db, 0, none⟩ = some (.int .i64 (maxD vis)) := (set_other (.inl (fun e => hne e.symm))).trans hc2
  go_enter Tryz.func74, Tryz.ntmps74
  go_wp2_with fail
  go_ret
  have hb2 := alloc_below ((W.setCell ⟨cb, 0, none⟩ (.int .i64 ((vis.length : Int) + 1))).setCell ⟨db, 0, none⟩ (.int .i64 (max (maxD vis : Int) (d : Int)))) (.cells c.cells.toArray 85)
  have k1 : ((W.setCell ⟨cb, 0, none⟩ (.int .i64 ((vis.length : Int) + 1))).setCell ⟨db, 0, none⟩ (.int .i64 (max (maxD vis : Int) (d : Int)))).cell? ⟨cb, 0, none⟩ = some (.int .i64 ((vis.length : Int) + 1)) := (set_other (.inl hne)).trans (World.cell?_setCell_same W ⟨cb, 0, none⟩ _ hc1)
  have k2 := World.cell?_setCell_same (W.setCell ⟨cb, 0, none⟩ (.int .i64 ((vis.length : Int) + 1))) ⟨db, 0, none⟩ (.int .i64 (max (maxD vis : Int) (d : Int))) hdc
  refine ⟨true, rfl, ((Upd.set _ _ _ hna1).trans (Upd.set _ _ _ hna2)).trans (Upd.below hb2), fun _ => ⟨hna1, hna2, hne, ?_, ?_, ?_, ?_⟩, fun h => by cases h⟩
  · rw [hb2.cell (p := ⟨cb, 0, none⟩) (cell_lt k1), k1]
    simp
  · rw [hb2.frozen (p := ⟨cb, 0, none⟩) (cell_lt k1), World.frozen?_setCell, World.frozen?_setCell]; exact hf1
  · rw [hb2.cell (p := ⟨db, 0, none⟩) (cell_lt k2), k2, maxD_snoc]
    congr 2
    omega
  · rw [hb2.frozen (p := ⟨db, 0, none⟩) (cell_lt k2), World.frozen?_setCell, World.frozen?_setCell]; exact hf2
theorem vis_kn (cb db : Nat) (L0 : List (PN × Nat)) (S : Nat → Prop) : Visitor 74 #[.pointer (some ⟨cb, 0, none⟩), .pointer (some ⟨db, 0, none⟩)] L0 S (JKn cb db) (fun _ _ _ => False) :=
  ⟨fun vis A W W' h hu => ⟨h.na1, h.na2, h.ne, (World.cell?_of_block (a := ⟨cb, 0, none⟩) (hu.block cb (cell_lt h.cell1) h.na1)).trans h.cell1, (World.frozen?_of_block (a := ⟨cb, 0, none⟩) (hu.block cb (cell_lt h.cell1) h.na1)).trans h.fr1, (World.cell?_of_block (a := ⟨db, 0, none⟩) (hu.block db (cell_lt h.cell2) h.na2)).trans h.cell2, (World.frozen?_of_block (a := ⟨db, 0, none⟩) (hu.block db (cell_lt h.cell2) h.na2)).trans h.fr2⟩,
   fun vis A A' W h hs => ⟨fun hb => (hs cb hb).elim h.na1 (fun hl => by have := cell_lt h.cell1; omega), fun hb => (hs db hb).elim h.na2 (fun hl => by have := cell_lt h.cell2; omega), h.ne, h.cell1, h.fr1, h.cell2, h.fr2⟩,
   enter_kn, fun _ _ _ _ h _ => h,
   fun vis A W n d c hJ hS hn hd hv _ => kn_call cb db vis A W n d c hJ hv⟩
end Go.Proofs.YthkbchefjagbbaaGreatDoor.Line

namespace Go.Proofs.YthkbchefjagbbaaGreatDoor.Line
open Ex (E St)
set_option linter.unusedVariables false

abbrev LP : Type := List UInt8 × PS
def runQ : List LP → Nat → Bl → Except (Nat × Nat) Bl
  | [], _, b => .ok b
  | q :: Q, i, b => match b.take i q.2 with
    | .ok b1 => runQ Q (i + 1) b1
    | .error e => .error (i, e)
theorem runQ_ok : ∀ (Q : List LP) (i : Nat) (b b' : Bl), (∀ q ∈ Q, LineIs q.1 q.2) → runQ Q i b = .ok b' → Grows (Q.map (·.1)) i b b'
  | [], i, b, b', _, h => by injection h with h; subst h; exact .nil _ _
  | q :: Q, i, b, b', hq, h => by
    unfold runQ at h
    cases ht : b.take i q.2 with
    | error e => rw [ht] at h; cases h
    | ok b1 =>
      rw [ht] at h
      exact .cons (hq q List.mem_cons_self) ht (runQ_ok Q (i + 1) b1 b' (fun z hz => hq z (List.mem_cons_of_mem _ hz)) h)
theorem runQ_bad : ∀ (Q : List LP) (i : Nat) (b : Bl) (j e : Nat), (∀ q ∈ Q, LineIs q.1 q.2) → runQ Q i b = .error (j, e) → Fails (Q.map (·.1)) i b j (.own e)
  | [], i, b, j, e, _, h => by cases h
  | q :: Q, i, b, j, e, hq, h => by
    unfold runQ at h
    cases ht : b.take i q.2 with
    | error e' =>
      rw [ht] at h
      injection h with h
      injection h with h1 h2
      subst h1; subst h2
      exact .own (hq q List.mem_cons_self) ht
    | ok b1 =>
      rw [ht] at h
      exact .later (hq q List.mem_cons_self) ht (runQ_bad Q (i + 1) b1 j e (fun z hz => hq z (List.mem_cons_of_mem _ hz)) h)
/-- a line by reckoning -/
theorem line_of {s : List UInt8} {ps : PS} (p : Nat) (h : linedB s ps p = true) : LineIs s ps := ⟨p, linedB_ok h⟩
theorem Bad1.not {s : List UInt8} {ps : PS} {e : LE} (h : LineIs s ps) (h' : Bad1 s e) : False := by
  obtain ⟨p, h1, h2⟩ := h
  cases e with
  | se e =>
    obtain ⟨ps', p', er', k1, k2, k3⟩ := h'
    obtain ⟨_, e1, e2⟩ := h1.reads.det k1.reads
    subst e1; subst e2
    apply k3
    rw [← k2]
    unfold endE
    rw [if_neg (by omega)]
  | word k err =>
    obtain ⟨er, h0, _, ht, _⟩ := h'
    rw [h1.toks] at ht
    injection ht with _ ht
    injection ht with ht _
    exact h0 ht.symm
theorem grows_fails {L : List (List UInt8)} {i j : Nat} {b b' : Bl} {te : TE} (h : Grows L i b b') (hf : Fails L i b j te) : False := by
  induction h with
  | nil i b => cases hf
  | cons hr ht h ih =>
    cases hf with
    | read hb => exact hb.not hr
    | own hr' ht' =>
      obtain rfl := hr.det hr'
      rw [ht] at ht'; cases ht'
    | later hr' ht' h' =>
      obtain rfl := hr.det hr'
      rw [ht] at ht'
      injection ht' with e
      subst e
      exact ih h'
theorem fails_det {L : List (List UInt8)} {i j j' e : Nat} {b : Bl} {te : TE} (h : Fails L i b j (.own e)) (hf : Fails L i b j' te) : j' = j ∧ te = .own e := by
  generalize ht0 : TE.own e = t at h
  induction h with
  | read hr => cases ht0
  | own hr ht =>
    injection ht0 with ht0
    subst ht0
    cases hf with
    | read hb => exact (hb.not hr).elim
    | own hr' ht' =>
      obtain rfl := hr.det hr'
      rw [ht] at ht'
      injection ht' with ht'
      subst ht'
      exact ⟨rfl, rfl⟩
    | later hr' ht' h' =>
      obtain rfl := hr.det hr'
      rw [ht] at ht'; cases ht'
  | later hr ht h ih =>
    cases hf with
    | read hb => exact (hb.not hr).elim
    | own hr' ht' =>
      obtain rfl := hr.det hr'
      rw [ht] at ht'; cases ht'
    | later hr' ht' h' =>
      obtain rfl := hr.det hr'
      rw [ht] at ht'
      injection ht' with ht'
      subst ht'
      exact ih h' ht0
/-- what Of tells, where the lines are good -/
theorem of_ok {B : Nat} {L : List (List UInt8)} {e : Ending} {w' : World} {b : Bl} (h : OfPost B L e w') (hg : Grows L 0 Bl.start b) (ho : b.opn = []) : ∃ nv, e = .returned (.tuple #[nv, .nilIface]) ∧ Nodes w' (fun q => B ≤ q) b.done nv := by
  rcases h with ⟨b', nv, h1, h2, h3, h4⟩ | ⟨i, te, g, hw, _, _⟩
  · obtain rfl := hg.det h1
    exact ⟨nv, h3, h4⟩
  · rcases hw with hf | ⟨b', r, rest, h1, h2, _⟩
    · exact (grows_fails hg hf).elim
    · obtain rfl := hg.det h1
      rw [ho] at h2; cases h2
theorem says_of {B : Nat} {w : World} {g : Value} {i er : Nat} (h : LineAt B w g i (.own er)) : Says B w g wLine i er := by
  obtain ⟨b, g2, hB, hg, ⟨h1, h2, h3⟩, ht⟩ := h
  exact .inr ⟨ht.1, b, hB, hg, h1, h2, by rw [h3, ht.2]⟩
/-- one line is wrong -/
theorem of_own {B : Nat} {L : List (List UInt8)} {e : Ending} {w' : World} {i er : Nat} (h : OfPost B L e w') (hf : Fails L 0 Bl.start i (.own er)) : ∃ g, e = .returned (.tuple #[.slice none 0 0, g]) ∧ Says B w' g wLine i er := by
  rcases h with ⟨b', nv, h1, h2, h3, h4⟩ | ⟨j, te, g, hw, h3, h4⟩
  · exact (grows_fails h1 hf).elim
  · rcases hw with hf' | ⟨b', r, rest, h1, h2, _⟩
    · obtain ⟨rfl, rfl⟩ := fails_det hf hf'
      exact ⟨g, h3, says_of h4⟩
    · exact (grows_fails h1 hf).elim
/-- a block has no end -/
theorem of_open {B : Nat} {L : List (List UInt8)} {e : Ending} {w' : World} {b : Bl} {r : PN} {rest : List PN} (h : OfPost B L e w') (hg : Grows L 0 Bl.start b) (ho : b.opn = r :: rest) : ∃ g, e = .returned (.tuple #[.slice none 0 0, g]) ∧ Says B w' g wLine r.line 11 := by
  rcases h with ⟨b', nv, h1, h2, h3, h4⟩ | ⟨j, te, g, hw, h3, h4⟩
  · obtain rfl := hg.det h1
    rw [ho] at h2; cases h2
  · rcases hw with hf' | ⟨b', r', rest', h1, h2, rfl, rfl⟩
    · exact (grows_fails hg hf').elim
    · obtain rfl := hg.det h1
      rw [ho] at h2
      injection h2 with h2 _
      subst h2
      exact ⟨g, h3, says_of h4⟩
theorem fit_append (l m : List PN) : FitN.FitNs (l ++ m) ↔ FitN.FitNs l ∧ FitN.FitNs m := by
  induction l with
  | nil => simp [FitN.FitNs]
  | cons n l ih => rw [List.cons_append, fit_cons, fit_cons, ih]; exact and_assoc.symm
theorem fit_one (n : PN) : FitN.FitNs [n] ↔ FitF n.ps.full ∧ FitN.FitNs n.body ∧ FitN.FitNs n.els := by rw [fit_cons]; simp [FitN.FitNs]
def Bl.fit (b : Bl) : Prop := FitN.FitNs b.done ∧ FitN.FitNs b.opn
theorem fit_add {b : Bl} {n : PN} (h : b.fit) (hn : FitN.FitNs [n]) : (b.add n).fit := by
  obtain ⟨D, O⟩ := b
  obtain ⟨h1, h2⟩ := h
  cases O with
  | nil => exact ⟨(fit_append _ _).2 ⟨h1, hn⟩, trivial⟩
  | cons r rest =>
    have h2 := (fit_cons r rest).1 h2
    refine ⟨h1, (fit_cons _ _).2 ⟨?_, h2.2⟩⟩
    unfold PN.putIn
    split
    · exact ⟨h2.1.1, (fit_append _ _).2 ⟨h2.1.2.1, hn⟩, h2.1.2.2⟩
    · exact ⟨h2.1.1, h2.1.2.1, (fit_append _ _).2 ⟨h2.1.2.2, hn⟩⟩
theorem fit_take {b b' : Bl} {i : Nat} {ps : PS} (hf : b.fit) (hp : FitF ps.full) (h : b.take i ps = .ok b') : b'.fit := by
  have hleaf : FitN.FitNs [PN.leaf i ps] := (fit_one _).2 ⟨hp, trivial, trivial⟩
  have hclose : ∀ k, b.close k i = .ok b' → b'.fit := by
    intro k h
    obtain ⟨D, O⟩ := b
    cases O with
    | nil => simp [Bl.close] at h
    | cons r rest =>
      simp only [Bl.close] at h
      split at h
      · injection h with h
        subst h
        have h2 := (fit_cons r rest).1 hf.2
        exact fit_add (b := ⟨D, rest⟩) ⟨hf.1, h2.2⟩ ((fit_one _).2 h2.1)
      · cases h
  unfold Bl.take at h
  split at h
  · injection h with h; subst h; exact hf
  split at h
  · unfold Bl.begin at h
    split at h
    · cases h
    · injection h with h; subst h
      exact ⟨hf.1, (fit_cons _ _).2 ⟨(fit_one _).1 hleaf, hf.2⟩⟩
  split at h
  · unfold Bl.middle at h
    obtain ⟨D, O⟩ := b
    cases O with
    | nil => cases h
    | cons r rest =>
      simp only at h
      split at h
      · injection h with h; subst h
        have h2 := (fit_cons r rest).1 hf.2
        exact ⟨hf.1, (fit_cons _ _).2 ⟨h2.1, h2.2⟩⟩
      · cases h
  split at h
  · exact hclose _ h
  split at h
  · exact hclose _ h
  split at h
  · cases h
  · injection h with h; subst h
    exact fit_add hf hleaf
theorem fit_grows {L : List (List UInt8)} {i : Nat} {b b' : Bl} (h : Grows L i b b') (hL : ∀ s ∈ L, ∀ ps, LineIs s ps → FitF ps.full) (hb : b.fit) : b'.fit := by
  induction h with
  | nil i b => exact hb
  | cons hr ht h ih => exact ih (fun s hs => hL s (List.mem_cons_of_mem _ hs)) (fit_take hb (hL _ List.mem_cons_self _ hr) ht)
theorem pre_size (k : Nat) : ∀ (l : List PN), szP.szPs l ≤ k → ∀ (d : Nat), 2 * (preL l d).length = szP.szPs l := by
  induction k with
  | zero =>
    intro l hk d
    cases l with
    | nil => rw [preL_nil]; simp [szP.szPs]
    | cons n l => rw [szPs_cons] at hk; omega
  | succ k ih =>
    intro l hk d
    cases l with
    | nil => rw [preL_nil]; simp [szP.szPs]
    | cons n l =>
      rw [szPs_cons] at hk ⊢
      rw [preL_cons, List.length_cons, List.length_append, List.length_append]
      have h1 := ih n.body (by omega) (d + 1)
      have h2 := ih n.els (by omega) (d + 1)
      have h3 := ih l (by omega) d
      omega
theorem pre_len (l : List PN) (d : Nat) : 2 * (preL l d).length = szP.szPs l := pre_size _ l (Nat.le_refl _) d
end Go.Proofs.YthkbchefjagbbaaGreatDoor.Line
