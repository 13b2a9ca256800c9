/- One box and two rows that a law's loop fills; a copy of a row, whose cells are set. -/
import Derived.Test.YtmbhamnkbpcljaaDoorLnFRm
namespace Go.Proofs.YtmbhamnkbpcljaaDoor.Line
open Go.ChangeShapes Go.WideShapes Go.ChangeAt Go.RowKit
set_option linter.unusedVariables false

structure LB (B fb : Nat) (W0 W : World) (fv av bv : Value) (k : Int) (lc la lb : List Int) : Prop where
  bf : Bx W fb fv (.int .i64 k)
  oF : OwnI B W fv lc
  oA : OwnI B W av la
  oB : OwnI B W bv lb
  d1 : Apart fv av
  d2 : Apart fv bv
  d3 : Apart av bv
  sz : B ≤ W.heap.size
  lf : fb < B
  bl : ∀ A, A ≤ fb → Below A W0 W
theorem LB.stepF {B fb : Nat} {W0 W : World} {fv av bv : Value} {k : Int} {lc la lb : List Int} (h : LB B fb W0 W fv av bv k lc la lb) (n : Int) (hl : lc.length ≤ 1000) :
    ∃ v' w', (Builtin.append_ #[IST, IST] IST #[fv, .slice (some ⟨W.heap.size, 0, none⟩) 1 1]).run Tryd.prog (W.alloc (.cells #[.int .i64 n] I64)) = .ok v' w' ∧ Below B W w' ∧ Bx w' fb fv (.int .i64 k) ∧ LB B fb W0 (w'.setCell ⟨fb, 0, none⟩ v') v' av bv k (lc ++ [n]) la lb := by
  obtain ⟨v', w', hr, o1, o2, o3, a1, a2, hb⟩ := app3 n h.oF h.oA h.oB h.d1 h.d2 h.sz (by omega)
  have hbx := h.bf.keepB hb h.lf
  refine ⟨v', w', hr, hb, hbx, ⟨hbx.set0 v', o1.set h.lf v', o2.set h.lf v', o3.set h.lf v', a1, a2, h.d3, ?_, h.lf, fun A h1 => ?_⟩⟩
  · have := hb.size; have := h.sz
    show B ≤ (w'.setCell ⟨fb, 0, none⟩ v').heap.size
    simp [World.setCell]; omega
  · exact ((h.bl A h1).trans (hb.mono (by have := h.lf; omega))).setCell (p := ⟨fb, 0, none⟩) h1 v'
theorem LB.stepA {B fb : Nat} {W0 W : World} {fv av bv : Value} {k : Int} {lc la lb : List Int} (h : LB B fb W0 W fv av bv k lc la lb) (n : Int) (hl : la.length ≤ 1000) :
    ∃ v' w', (Builtin.append_ #[IST, IST] IST #[av, .slice (some ⟨W.heap.size, 0, none⟩) 1 1]).run Tryd.prog (W.alloc (.cells #[.int .i64 n] I64)) = .ok v' w' ∧ Below B W w' ∧ LB B fb W0 w' fv v' bv k lc (la ++ [n]) lb := by
  obtain ⟨v', w', hr, o1, o2, o3, a1, a2, hb⟩ := app3 n h.oA h.oF h.oB h.d1.symm h.d3 h.sz (by omega)
  exact ⟨v', w', hr, hb, ⟨h.bf.keepB hb h.lf, o2, o1, o3, a1.symm, h.d2, a2, Nat.le_trans h.sz hb.size, h.lf, fun A h1 => (h.bl A h1).trans (hb.mono (by have := h.lf; omega))⟩⟩
theorem LB.stepB {B fb : Nat} {W0 W : World} {fv av bv : Value} {k : Int} {lc la lb : List Int} (h : LB B fb W0 W fv av bv k lc la lb) (n : Int) (hl : lb.length ≤ 1000) :
    ∃ v' w', (Builtin.append_ #[IST, IST] IST #[bv, .slice (some ⟨W.heap.size, 0, none⟩) 1 1]).run Tryd.prog (W.alloc (.cells #[.int .i64 n] I64)) = .ok v' w' ∧ Below B W w' ∧ LB B fb W0 w' fv av v' k lc la (lb ++ [n]) := by
  obtain ⟨v', w', hr, o1, o2, o3, a1, a2, hb⟩ := app3 n h.oB h.oF h.oA h.d2.symm h.d3.symm h.sz (by omega)
  exact ⟨v', w', hr, hb, ⟨h.bf.keepB hb h.lf, o2, o3, o1, h.d1, a1.symm, a2.symm, Nat.le_trans h.sz hb.size, h.lf, fun A h1 => (h.bl A h1).trans (hb.mono (by have := h.lf; omega))⟩⟩
theorem LB.drewN {B fb : Nat} {W0 W : World} {fv av bv : Value} {k : Int} {lc la lb : List Int} (h : LB B fb W0 W fv av bv k lc la lb) (j : Nat) : LB B fb W0 (W.drewN j) fv av bv k lc la lb :=
  have hb := below_drewN (Below.refl W.heap.size W) j
  ⟨h.bf.keep hb, h.oF.below hb, h.oA.below hb, h.oB.below hb, h.d1, h.d2, h.d3, h.sz, h.lf, fun A h1 => below_drewN (h.bl A h1) j⟩
theorem LB.start (w : World) (k : Int) (t : TypeId) : LB (w.heap.size + 1) w.heap.size w (w.alloc (.cells #[.slice none 0 0, .int .i64 k] t)) (.slice none 0 0) (.slice none 0 0) (.slice none 0 0) k [] [] [] := by
  have hn : Apart (.slice none 0 0) (.slice none 0 0) := fun g h => by simp [Value.ownBlock] at h
  exact ⟨Bx.new _ _ _ _, OwnI.nil _ _, OwnI.nil _ _, OwnI.nil _ _, hn, hn, hn, by simp, by omega, fun A ha => (alloc_below w _).mono ha⟩

/-- nothing is appended -/
theorem append_none {base : Nat} {w : World} {s : Value} {l : List Int} (a : Option Addr) (cap : Nat) (hs : OwnI base w s l) : (Builtin.append_ #[IST, IST] IST #[s, .slice a 0 cap]).run Tryd.prog w = .ok s w := by
  obtain ⟨i0, hi, hz0, hz1, hz2⟩ := info_parts infoZ
  rcases hs.2 with ⟨rfl, h0⟩ | ⟨g, cap', cur, rfl, _, _, hnc, _⟩
  · cases a <;> simp [Builtin.append_, run_underlying Tryd.underlying22, sizeOf, typeInfo, hi, Builtin.lenOf, Builtin.firstCells, loadCells, loadCellsFrom]
  · cases a <;> simp [Builtin.append_, run_underlying Tryd.underlying22, sizeOf, typeInfo, hi, Builtin.lenOf, Builtin.firstCells, hnc, storeCells, loadCells, loadCellsFrom]
/-- a row copied behind an empty one -/
theorem copy_i {W : World} {av : Value} {a : List Int} (ha : Ints W av a) (hl : a.length ≤ 1000) :
    ∃ g cap w', (Builtin.append_ #[IST, IST] IST #[.slice (some ⟨W.heap.size, 0, none⟩) 0 0, av]).run Tryd.prog (W.alloc (.cells #[] I64)) = .ok (.slice (some ⟨g, 0, none⟩) a.length cap) w' ∧ OwnI W.heap.size w' (.slice (some ⟨g, 0, none⟩) a.length cap) a ∧ Below W.heap.size W w' ∧ W.heap.size ≤ g := by
  have hal := alloc_below W (.cells #[] I64)
  have h0 : OwnI W.heap.size (W.alloc (.cells #[] I64)) (.slice (some ⟨W.heap.size, 0, none⟩) 0 0) [] := World.ownsRow_lit W #[] 0 (Nat.le_refl _) (by decide) (by simp)
  have ha' := ha.below hal
  rcases Nat.eq_zero_or_pos a.length with hz | hp
  · have e : a = [] := List.eq_nil_of_length_eq_zero hz
    subst e
    obtain ⟨aa, ac, rfl⟩ := ha.shape
    exact ⟨W.heap.size, 0, _, append_none aa ac h0, h0, hal, Nat.le_refl _⟩
  · obtain ⟨b, off, cap, rfl, hc1, hc2, hcell⟩ := ha'.at hp
    obtain ⟨i0, hi, hz0, hz1, hz2⟩ := info_parts infoZ
    obtain ⟨v', w', hr, ho, hgr, hnil, hat⟩ := run_append_own_at (P := Tryd.prog) (W.alloc (.cells #[] I64)) W.heap.size IST IST I64 i0 _ 1 8 Tryd.underlying22 hi hz0 hz1 hz2 rfl (by decide) (.slice (some ⟨W.heap.size, 0, none⟩) 0 0) 0 [] h0 ⟨b, off, none⟩ a.length cap (a.map (Value.int .i64)) (by simp)
      (fun j u hu => by
        rw [Go.WideShapes.add_plain]
        rw [List.getElem?_map] at hu
        obtain ⟨y, hy, rfl⟩ := Option.map_eq_some_iff.1 hu
        obtain ⟨hj, rfl⟩ := List.getElem?_eq_some_iff.1 hy
        exact hcell j hj) (fun u hu => by
        obtain ⟨y, _, rfl⟩ := List.mem_map.1 hu
        rfl) (by unfold maxLen; omega) (by omega) (by simp)
    rw [Nat.zero_add, List.nil_append] at ho
    obtain ⟨g, cap', hv, hge, _⟩ := World.ownsRow.form ho hp
    subst hv
    refine ⟨g, cap', w', hr, ho, ?_, ?_⟩
    · exact below_grown hal hgr (by simp) (fun g' hg' => by
      injection hg' with e
      have e2 : W.heap.size = g' := e
      omega)
    · exact hge
theorem OwnI.cell {B g n cap : Nat} {w : World} {l : List Int} (h : OwnI B w (.slice (some ⟨g, 0, none⟩) n cap) l) (hn : l.length = n) (i : Nat) (hi : i < l.length) : w.cell? ⟨g, i, none⟩ = some (.int .i64 l[i]) := by
  subst hn
  rw [World.ownsRow.cellAt h i (by omega)]
  simp [hi]
theorem OwnI.free {B g n cap : Nat} {w : World} {l : List Int} (h : OwnI B w (.slice (some ⟨g, 0, none⟩) n cap) l) (hn : l.length = n) (i : Nat) : w.frozen? ⟨g, i, none⟩ = false := by
  subst hn
  exact World.ownsRow.frozenAt h i
theorem OwnI.put {B g n cap : Nat} {w : World} {l : List Int} (h : OwnI B w (.slice (some ⟨g, 0, none⟩) n cap) l) (hn : l.length = n) (i : Nat) (x : Int) : OwnI B (w.setCell ⟨g, i, none⟩ (.int .i64 x)) (.slice (some ⟨g, 0, none⟩) n cap) (l.set i x) := by
  subst hn
  have := (World.ownsRow.stored h i (.int .i64 x)).1
  unfold OwnI
  rw [List.map_set, List.length_set]
  exact this
/-- the numbers that lie at a place -/
def rowOf (g n : Nat) (w : World) : List Int := (List.range n).map fun i => intOf ((w.cell? ⟨g, i, none⟩).getD undef)
theorem rowOf_own {B g n cap : Nat} {w : World} {l : List Int} (h : OwnI B w (.slice (some ⟨g, 0, none⟩) n cap) l) (hn : l.length = n) : rowOf g n w = l := by
  apply List.ext_getElem
  · simp [rowOf, hn]
  · intro i h1 h2
    have h3 := h.cell hn i h2
    simp [rowOf, h3, intOf]
end Go.Proofs.YtmbhamnkbpcljaaDoor.Line
