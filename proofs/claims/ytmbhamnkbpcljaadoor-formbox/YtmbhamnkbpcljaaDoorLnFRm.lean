/- Three rows of numbers that a law's own loop fills, beside boxes of two cells. -/
import Derived.Test.YtmbhamnkbpcljaaDoorLnOwn
import Derived.OneCell
namespace Go.Proofs.YtmbhamnkbpcljaaDoor.Line
open Go.ChangeShapes Go.WideShapes Go.ChangeAt Go.RowKit
set_option linter.unusedVariables false

/-- two rows do not share their block -/
def Apart (u v : Value) : Prop := ∀ g, u.ownBlock = some g → v.ownBlock ≠ some g
theorem Apart.symm {u v : Value} (h : Apart u v) : Apart v u := fun g hv hu => h g hu hv
theorem Bx.keepB {w w' : World} {B b : Nat} {u v : Value} (h : Bx w b u v) (hb : Below B w w') (hl : b < B) : Bx w' b u v :=
  ⟨(hb.cell (p := ⟨b, 0, none⟩) hl).trans h.c0, (hb.cell (p := ⟨b, 1, none⟩) hl).trans h.c1, (hb.frozen (p := ⟨b, 0, none⟩) hl).trans h.f0, (hb.frozen (p := ⟨b, 1, none⟩) hl).trans h.f1, Nat.lt_of_lt_of_le h.lt hb.size⟩
theorem OwnI.set {B : Nat} {w : World} {v : Value} {l : List Int} (h : OwnI B w v l) {a : Addr} (ha : a.block < B) (x : Value) : OwnI B (w.setCell a x) v l := ownsRow_setCell_below h ha x
/-- one number more at the end of a row; the two others stay -/
theorem app3 {B : Nat} {w : World} {v u1 u2 : Value} {l l1 l2 : List Int} (n : Int) (h : OwnI B w v l) (h1 : OwnI B w u1 l1) (h2 : OwnI B w u2 l2) (d1 : Apart v u1) (d2 : Apart v u2) (hB : B ≤ w.heap.size) (hl : l.length + 1 ≤ 1000000) :
    ∃ v' w', (Builtin.append_ #[IST, IST] IST #[v, .slice (some ⟨w.heap.size, 0, none⟩) 1 1]).run Tryd.prog (w.alloc (.cells #[.int .i64 n] I64)) = .ok v' w' ∧ OwnI B w' v' (l ++ [n]) ∧ OwnI B w' u1 l1 ∧ OwnI B w' u2 l2 ∧ Apart v' u1 ∧ Apart v' u2 ∧ Below B w w' := by
  obtain ⟨v', w', hr, ho, hg, hat⟩ := append_i (n := n) h hB hl
  have hk : ∀ {u : Value} {m : List Int}, Apart v u → OwnI B w u m → OwnI B w' u m ∧ Apart v' u := fun {u m} hd ho' => by
    refine ⟨ho'.kept hg ?_, fun g hv hu => ?_⟩
    · cases hu : u.ownBlock with
      | none => exact .inl rfl
      | some g => exact .inr (fun e => hd g e.symm hu)
    · rcases hat with e | e
      · exact hd g (e.symm.trans hv) hu
      · have := (ho'.lt hu).2
        rw [e] at hv
        injection hv with hv
        omega
  exact ⟨v', w', hr, ho, (hk d1 h1).1, (hk d2 h2).1, (hk d1 h1).2, (hk d2 h2).2, below_grown (Below.refl _ _) hg hB (fun g hv => (h.lt hv).1)⟩
/-- two boxes, their first cells and a row beside them own numbers -/
structure LR (B fb gb : Nat) (W0 W : World) (fv gv yv : Value) (p q : Int) (la lb lx : List Int) : Prop where
  bf : Bx W fb fv (.int .i64 p)
  bg : Bx W gb gv (.int .i64 q)
  oF : OwnI B W fv la
  oG : OwnI B W gv lb
  oY : OwnI B W yv lx
  d1 : Apart fv gv
  d2 : Apart fv yv
  d3 : Apart gv yv
  sz : B ≤ W.heap.size
  lf : fb < B
  lg : gb < B
  ne : gb ≠ fb
  bl : ∀ A, A ≤ fb → A ≤ gb → Below A W0 W
theorem LR.stepF {B fb gb : Nat} {W0 W : World} {fv gv yv : Value} {p q : Int} {la lb lx : List Int} (h : LR B fb gb W0 W fv gv yv p q la lb lx) (n : Int) (hl : la.length ≤ 1000) :
    ∃ v' w', (Builtin.append_ #[IST, IST] IST #[fv, .slice (some ⟨W.heap.size, 0, none⟩) 1 1]).run Tryd.prog (W.alloc (.cells #[.int .i64 n] I64)) = .ok v' w' ∧ Below B W w' ∧ Bx w' fb fv (.int .i64 p) ∧ LR B fb gb W0 (w'.setCell ⟨fb, 0, none⟩ v') v' gv yv p q (la ++ [n]) lb lx := by
  obtain ⟨v', w', hr, o1, o2, o3, a1, a2, hb⟩ := app3 n h.oF h.oG h.oY h.d1 h.d2 h.sz (by omega)
  have hbx := h.bf.keepB hb h.lf
  refine ⟨v', w', hr, hb, hbx, ⟨hbx.set0 v', (h.bg.keepB hb h.lg).other ⟨fb, 0, none⟩ (fun e => h.ne e.symm) v', o1.set h.lf v', o2.set h.lf v', o3.set h.lf v', a1, a2, h.d3, ?_, h.lf, h.lg, h.ne, fun A h1 h2 => ?_⟩⟩
  · have := hb.size; have := h.sz
    show B ≤ (w'.setCell ⟨fb, 0, none⟩ v').heap.size
    simp [World.setCell]; omega
  · exact ((h.bl A h1 h2).trans (hb.mono (by have := h.lf; omega))).setCell (p := ⟨fb, 0, none⟩) h1 v'
theorem LR.stepG {B fb gb : Nat} {W0 W : World} {fv gv yv : Value} {p q : Int} {la lb lx : List Int} (h : LR B fb gb W0 W fv gv yv p q la lb lx) (n : Int) (hl : lb.length ≤ 1000) :
    ∃ v' w', (Builtin.append_ #[IST, IST] IST #[gv, .slice (some ⟨W.heap.size, 0, none⟩) 1 1]).run Tryd.prog (W.alloc (.cells #[.int .i64 n] I64)) = .ok v' w' ∧ Below B W w' ∧ Bx w' gb gv (.int .i64 q) ∧ LR B fb gb W0 (w'.setCell ⟨gb, 0, none⟩ v') fv v' yv p q la (lb ++ [n]) lx := by
  obtain ⟨v', w', hr, o1, o2, o3, a1, a2, hb⟩ := app3 n h.oG h.oF h.oY h.d1.symm h.d3 h.sz (by omega)
  have hbx := h.bg.keepB hb h.lg
  refine ⟨v', w', hr, hb, hbx, ⟨(h.bf.keepB hb h.lf).other ⟨gb, 0, none⟩ (fun e => h.ne e) v', hbx.set0 v', o2.set h.lg v', o1.set h.lg v', o3.set h.lg v', a1.symm, h.d2, a2, ?_, h.lf, h.lg, h.ne, fun A h1 h2 => ?_⟩⟩
  · have := hb.size; have := h.sz
    show B ≤ (w'.setCell ⟨gb, 0, none⟩ v').heap.size
    simp [World.setCell]; omega
  · exact ((h.bl A h1 h2).trans (hb.mono (by have := h.lg; omega))).setCell (p := ⟨gb, 0, none⟩) h2 v'
theorem LR.stepY {B fb gb : Nat} {W0 W : World} {fv gv yv : Value} {p q : Int} {la lb lx : List Int} (h : LR B fb gb W0 W fv gv yv p q la lb lx) (n : Int) (hl : lx.length ≤ 1000) :
    ∃ v' w', (Builtin.append_ #[IST, IST] IST #[yv, .slice (some ⟨W.heap.size, 0, none⟩) 1 1]).run Tryd.prog (W.alloc (.cells #[.int .i64 n] I64)) = .ok v' w' ∧ Below B W w' ∧ LR B fb gb W0 w' fv gv v' p q la lb (lx ++ [n]) := by
  obtain ⟨v', w', hr, o1, o2, o3, a1, a2, hb⟩ := app3 n h.oY h.oF h.oG h.d2.symm h.d3.symm h.sz (by omega)
  exact ⟨v', w', hr, hb, ⟨h.bf.keepB hb h.lf, h.bg.keepB hb h.lg, o2, o3, o1, h.d1, a1.symm, a2.symm, Nat.le_trans h.sz hb.size, h.lf, h.lg, h.ne, fun A h1 h2 => (h.bl A h1 h2).trans (hb.mono (by have := h.lf; omega))⟩⟩
theorem LR.drewN {B fb gb : Nat} {W0 W : World} {fv gv yv : Value} {p q : Int} {la lb lx : List Int} (h : LR B fb gb W0 W fv gv yv p q la lb lx) (k : Nat) : LR B fb gb W0 (W.drewN k) fv gv yv p q la lb lx :=
  have hb := below_drewN (Below.refl W.heap.size W) k
  ⟨h.bf.keep hb, h.bg.keep hb, h.oF.below hb, h.oG.below hb, h.oY.below hb, h.d1, h.d2, h.d3, h.sz, h.lf, h.lg, h.ne, fun A h1 h2 => below_drewN (h.bl A h1 h2) k⟩
/-- at the start: both boxes are new, no row has a number -/
theorem LR.start (w : World) (p q : Int) (t : TypeId) : LR (w.heap.size + 2) w.heap.size (w.heap.size + 1) w ((w.alloc (.cells #[.slice none 0 0, .int .i64 p] t)).alloc (.cells #[.slice none 0 0, .int .i64 q] t)) (.slice none 0 0) (.slice none 0 0) (.slice none 0 0) p q [] [] [] := by
  have b1 := alloc_below w (.cells #[.slice none 0 0, .int .i64 p] t)
  have b2 := alloc_below (w.alloc (.cells #[.slice none 0 0, .int .i64 p] t)) (.cells #[.slice none 0 0, .int .i64 q] t)
  have h1 := (Bx.new w (.slice none 0 0) (.int .i64 p) t).keep b2
  have h2 := Bx.new (w.alloc (.cells #[.slice none 0 0, .int .i64 p] t)) (.slice none 0 0) (.int .i64 q) t
  have e : (w.alloc (.cells #[.slice none 0 0, .int .i64 p] t)).heap.size = w.heap.size + 1 := by simp
  rw [e] at h2
  have hn : Apart (.slice none 0 0) (.slice none 0 0) := fun g h => by simp [Value.ownBlock] at h
  exact ⟨h1, h2, OwnI.nil _ _, OwnI.nil _ _, OwnI.nil _ _, hn, hn, hn, by simp, by omega, by omega, by omega, fun A ha _ => (bthen b1 b2).mono ha⟩
end Go.Proofs.YtmbhamnkbpcljaaDoor.Line
