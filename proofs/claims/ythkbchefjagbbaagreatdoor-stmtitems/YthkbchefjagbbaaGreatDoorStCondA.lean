/- The contract of the statement reader's cond, over that of the project's ParseCond.
   The contract of the statement reader's statement: if. -/
import Derived.Test.YthkbchefjagbbaaGreatDoorStXpA
import Derived.Test.YthkbchefjagbbaaGreatDoorExRef
import Derived.Test.YthkbchefjagbbaaGreatDoorStTgA
namespace Go.Proofs.YthkbchefjagbbaaGreatDoor.Line
open Go.ChangeShapes Go.WideShapes Go.ChangeAt Go.RowKit
open Ex (E St)
set_option linter.unusedVariables false

theorem RCond.inn {T : List Words.T} {c : List UInt8} {x y : E} {s : St} (h : RCond T c x y s) : Ex.In T s := by
  obtain ⟨x1, s1, h1, h⟩ := h
  have i1 := Ex.RExpr.inn h1 ⟨Nat.zero_le _, Nat.zero_le _⟩
  rcases h with ⟨_, rfl, _⟩ | ⟨_, _, rfl, _⟩ | ⟨_, hr, y1, s3, h3, h⟩
  · exact i1
  · exact i1.fail 2
  · have hlt : s1.pos < T.length := by
      rcases Nat.lt_or_ge s1.pos T.length with h | h
      · exact h
      · unfold relAt at hr
        rw [List.getElem?_eq_none h] at hr
        cases hr
    have i3 := Ex.RExpr.inn h3 (i1.next hlt)
    rcases h with ⟨_, rfl, _⟩ | ⟨_, rfl, _⟩ <;> exact i3
theorem behC_le {T : List Words.T} {p : Nat} {c : List UInt8} {x y : E} {s : St} (h : RCond ((T.drop p).take (T.length - p)) c x y s) (hp : p ≤ T.length) : p + s.pos ≤ T.length ∧ p + s.bad ≤ T.length := by
  have h1 := h.inn
  have hl : ((T.drop p).take (T.length - p)).length = T.length - p := by rw [List.length_take, List.length_drop]; omega
  unfold Ex.In at h1
  rw [hl] at h1
  omega
theorem Se.otherC {B q : Nat} {w w' : World} {g : Value} {er : SE} {k : IntKind} {v : Int} (h : Se B w g er) (hb : But q w w') (hq : w.cell? ⟨q, 2, none⟩ = some (.int k v)) : Se B w' g er := by
  have hne : ∀ {b : Nat} {t : TypeId} {u : Value}, w.cell? ⟨b, 2, none⟩ = some (.iface t u) → b ≠ q := fun {b t u} h e => by subst e; rw [hq] at h; cases h
  cases er with
  | ok => exact h
  | leaf p e =>
    obtain ⟨b, hB, hg, hl⟩ := h
    exact ⟨b, hB, hg, hl.keep (hb.block b hl.lt (fun e => hne hl.2.2 (by injection e)))⟩
  | sub p k e =>
    obtain ⟨b, b2, hB, hb2, hg, ⟨h0, h1, h2⟩, hl⟩ := h
    have hc : ∀ o, w'.cell? ⟨b, o, none⟩ = w.cell? ⟨b, o, none⟩ := fun o => hb.cell (p := ⟨b, o, none⟩) (cell_lt h0) (hne h2)
    exact ⟨b, b2, hB, hb2, hg, ⟨(hc 0).trans h0, (hc 1).trans h1, (hc 2).trans h2⟩, hl.keep (hb.block b2 hl.lt (fun e => hne hl.2.2 (by injection e)))⟩
theorem SR.otherC {T : List Words.T} {L : Value} {rb q : Nat} {w w' : World} {p : Nat} {er : SE} {k : IntKind} {v : Int} (h : SR T L rb w p er) (hb : But q w w') (hne : rb ≠ q) (hL : L.ownBlock ≠ some q) (hq : w.cell? ⟨q, 2, none⟩ = some (.int k v)) : SR T L rb w' p er := by
  have hk := hb.block rb h.lt (fun e => hne (by injection e))
  have hc : ∀ o, w'.cell? ⟨rb, o, none⟩ = w.cell? ⟨rb, o, none⟩ := fun o => World.cell?_of_block (a := ⟨rb, o, none⟩) hk
  have hf : ∀ o, w'.frozen? ⟨rb, o, none⟩ = w.frozen? ⟨rb, o, none⟩ := fun o => World.frozen?_of_block (a := ⟨rb, o, none⟩) hk
  obtain ⟨g, hg, hs⟩ := h.ce
  exact ⟨(hc 0).trans h.c0, (hc 1).trans h.c1, ⟨g, (hc 2).trans hg, hs.otherC hb hq⟩, (hf 1).trans h.f1, (hf 2).trans h.f2, Nat.lt_of_lt_of_le h.lt hb.size, h.tks.but hb hL, h.own, fun q hq => Nat.lt_of_lt_of_le (h.lw q hq) hb.size, h.hp, h.ht⟩
abbrev s9 (w : World) (q : Nat) (a0 a1 a2 a3 a4 a5 a6 a7 a8 : Value) : World := ((((((((w.setCell ⟨q, 0, none⟩ a0).setCell ⟨q, 1, none⟩ a1).setCell ⟨q, 2, none⟩ a2).setCell ⟨q, 3, none⟩ a3).setCell ⟨q, 4, none⟩ a4).setCell ⟨q, 5, none⟩ a5).setCell ⟨q, 6, none⟩ a6).setCell ⟨q, 7, none⟩ a7).setCell ⟨q, 8, none⟩ a8
theorem but_s9 (q : Nat) (w : World) (a0 a1 a2 a3 a4 a5 a6 a7 a8 : Value) : But q w (s9 w q a0 a1 a2 a3 a4 a5 a6 a7 a8) := ((((((((set_but q w 0 a0).trans (set_but q _ 1 a1)).trans (set_but q _ 2 a2)).trans (set_but q _ 3 a3)).trans (set_but q _ 4 a4)).trans (set_but q _ 5 a5)).trans (set_but q _ 6 a6)).trans (set_but q _ 7 a7)).trans (set_but q _ 8 a8)
theorem box9_at {W w5 : World} {z0 z1 z2 z3 z4 z5 z6 z7 z8 : Value} {t : TypeId} (hb : Below (W.alloc (.cells #[z0, z1, z2, z3, z4, z5, z6, z7, z8] t)).drew.heap.size (W.alloc (.cells #[z0, z1, z2, z3, z4, z5, z6, z7, z8] t)).drew w5) : (w5.cell? ⟨W.heap.size, 0, none⟩ = some z0 ∧ w5.cell? ⟨W.heap.size, 1, none⟩ = some z1 ∧ w5.cell? ⟨W.heap.size, 2, none⟩ = some z2 ∧ w5.cell? ⟨W.heap.size, 3, none⟩ = some z3 ∧ w5.cell? ⟨W.heap.size, 4, none⟩ = some z4 ∧ w5.cell? ⟨W.heap.size, 5, none⟩ = some z5 ∧ w5.cell? ⟨W.heap.size, 6, none⟩ = some z6 ∧ w5.cell? ⟨W.heap.size, 7, none⟩ = some z7 ∧ w5.cell? ⟨W.heap.size, 8, none⟩ = some z8) ∧ (w5.frozen? ⟨W.heap.size, 0, none⟩ = false ∧ w5.frozen? ⟨W.heap.size, 1, none⟩ = false ∧ w5.frozen? ⟨W.heap.size, 2, none⟩ = false ∧ w5.frozen? ⟨W.heap.size, 3, none⟩ = false ∧ w5.frozen? ⟨W.heap.size, 4, none⟩ = false ∧ w5.frozen? ⟨W.heap.size, 5, none⟩ = false ∧ w5.frozen? ⟨W.heap.size, 6, none⟩ = false ∧ w5.frozen? ⟨W.heap.size, 7, none⟩ = false ∧ w5.frozen? ⟨W.heap.size, 8, none⟩ = false) ∧ W.heap.size < w5.heap.size ∧ Below W.heap.size W w5 := by
  have hb' := bthen (drew_belowS _) hb
  have h0 : (W.alloc (.cells #[z0, z1, z2, z3, z4, z5, z6, z7, z8] t)).heap.size = W.heap.size + 1 := by simp
  have hs := hb'.size
  have hc : ∀ o, w5.cell? ⟨W.heap.size, o, none⟩ = (W.alloc (.cells #[z0, z1, z2, z3, z4, z5, z6, z7, z8] t)).cell? ⟨W.heap.size, o, none⟩ := fun o => hb'.cell (p := ⟨W.heap.size, o, none⟩) (show W.heap.size < _ by omega)
  have hf : ∀ o, w5.frozen? ⟨W.heap.size, o, none⟩ = (W.alloc (.cells #[z0, z1, z2, z3, z4, z5, z6, z7, z8] t)).frozen? ⟨W.heap.size, o, none⟩ := fun o => hb'.frozen (p := ⟨W.heap.size, o, none⟩) (show W.heap.size < _ by omega)
  exact ⟨⟨(hc 0).trans (by simp), (hc 1).trans (by simp), (hc 2).trans (by simp), (hc 3).trans (by simp), (hc 4).trans (by simp), (hc 5).trans (by simp), (hc 6).trans (by simp), (hc 7).trans (by simp), (hc 8).trans (by simp)⟩, ⟨(hf 0).trans (by simp), (hf 1).trans (by simp), (hf 2).trans (by simp), (hf 3).trans (by simp), (hf 4).trans (by simp), (hf 5).trans (by simp), (hf 6).trans (by simp), (hf 7).trans (by simp), (hf 8).trans (by simp)⟩, by omega, bthen (alloc_below W _) hb'⟩
theorem boxC_s9 {w : World} {q : Nat} {z0 z1 z2 z3 z4 z5 z6 z7 z8 : Value} (c : List UInt8) (x : E) (sx : Value) (y : E) (sy : Value) (hc : w.cell? ⟨q, 0, none⟩ = some z0 ∧ w.cell? ⟨q, 1, none⟩ = some z1 ∧ w.cell? ⟨q, 2, none⟩ = some z2 ∧ w.cell? ⟨q, 3, none⟩ = some z3 ∧ w.cell? ⟨q, 4, none⟩ = some z4 ∧ w.cell? ⟨q, 5, none⟩ = some z5 ∧ w.cell? ⟨q, 6, none⟩ = some z6 ∧ w.cell? ⟨q, 7, none⟩ = some z7 ∧ w.cell? ⟨q, 8, none⟩ = some z8) (hf : w.frozen? ⟨q, 0, none⟩ = false ∧ w.frozen? ⟨q, 1, none⟩ = false ∧ w.frozen? ⟨q, 2, none⟩ = false ∧ w.frozen? ⟨q, 3, none⟩ = false ∧ w.frozen? ⟨q, 4, none⟩ = false ∧ w.frozen? ⟨q, 5, none⟩ = false ∧ w.frozen? ⟨q, 6, none⟩ = false ∧ w.frozen? ⟨q, 7, none⟩ = false ∧ w.frozen? ⟨q, 8, none⟩ = false) : BoxC (s9 w q (.string ⟨c.toArray⟩) (.int .i64 x.kind) (.int .i64 x.n) (.string ⟨x.name.toArray⟩) sx (.int .i64 y.kind) (.int .i64 y.n) (.string ⟨y.name.toArray⟩) sy) q c x sx y sy := by
  obtain ⟨c0, c1, c2, c3, c4, c5, c6, c7, c8⟩ := hc
  obtain ⟨f0, f1, f2, f3, f4, f5, f6, f7, f8⟩ := hf
  have hfz : ∀ (u : World) (j o : Nat) (v : Value), (u.setCell ⟨q, j, none⟩ v).frozen? ⟨q, o, none⟩ = u.frozen? ⟨q, o, none⟩ := fun u j o v => by simp [go_sem]
  have hs := (but_s9 q w (.string ⟨c.toArray⟩) (.int .i64 x.kind) (.int .i64 x.n) (.string ⟨x.name.toArray⟩) sx (.int .i64 y.kind) (.int .i64 y.n) (.string ⟨y.name.toArray⟩) sy).size
  exact ⟨set_cell (i := 0) (j := 8) (set_cell (i := 0) (j := 7) (set_cell (i := 0) (j := 6) (set_cell (i := 0) (j := 5) (set_cell (i := 0) (j := 4) (set_cell (i := 0) (j := 3) (set_cell (i := 0) (j := 2) (set_cell (i := 0) (j := 1) (set_cell (i := 0) (j := 0) c0)))))))),
    set_cell (i := 1) (j := 8) (set_cell (i := 1) (j := 7) (set_cell (i := 1) (j := 6) (set_cell (i := 1) (j := 5) (set_cell (i := 1) (j := 4) (set_cell (i := 1) (j := 3) (set_cell (i := 1) (j := 2) (set_cell (i := 1) (j := 1) (set_cell (i := 1) (j := 0) c1)))))))),
    set_cell (i := 2) (j := 8) (set_cell (i := 2) (j := 7) (set_cell (i := 2) (j := 6) (set_cell (i := 2) (j := 5) (set_cell (i := 2) (j := 4) (set_cell (i := 2) (j := 3) (set_cell (i := 2) (j := 2) (set_cell (i := 2) (j := 1) (set_cell (i := 2) (j := 0) c2)))))))),
    set_cell (i := 3) (j := 8) (set_cell (i := 3) (j := 7) (set_cell (i := 3) (j := 6) (set_cell (i := 3) (j := 5) (set_cell (i := 3) (j := 4) (set_cell (i := 3) (j := 3) (set_cell (i := 3) (j := 2) (set_cell (i := 3) (j := 1) (set_cell (i := 3) (j := 0) c3)))))))),
    set_cell (i := 4) (j := 8) (set_cell (i := 4) (j := 7) (set_cell (i := 4) (j := 6) (set_cell (i := 4) (j := 5) (set_cell (i := 4) (j := 4) (set_cell (i := 4) (j := 3) (set_cell (i := 4) (j := 2) (set_cell (i := 4) (j := 1) (set_cell (i := 4) (j := 0) c4)))))))),
    set_cell (i := 5) (j := 8) (set_cell (i := 5) (j := 7) (set_cell (i := 5) (j := 6) (set_cell (i := 5) (j := 5) (set_cell (i := 5) (j := 4) (set_cell (i := 5) (j := 3) (set_cell (i := 5) (j := 2) (set_cell (i := 5) (j := 1) (set_cell (i := 5) (j := 0) c5)))))))),
    set_cell (i := 6) (j := 8) (set_cell (i := 6) (j := 7) (set_cell (i := 6) (j := 6) (set_cell (i := 6) (j := 5) (set_cell (i := 6) (j := 4) (set_cell (i := 6) (j := 3) (set_cell (i := 6) (j := 2) (set_cell (i := 6) (j := 1) (set_cell (i := 6) (j := 0) c6)))))))),
    set_cell (i := 7) (j := 8) (set_cell (i := 7) (j := 7) (set_cell (i := 7) (j := 6) (set_cell (i := 7) (j := 5) (set_cell (i := 7) (j := 4) (set_cell (i := 7) (j := 3) (set_cell (i := 7) (j := 2) (set_cell (i := 7) (j := 1) (set_cell (i := 7) (j := 0) c7)))))))),
    set_cell (i := 8) (j := 8) (set_cell (i := 8) (j := 7) (set_cell (i := 8) (j := 6) (set_cell (i := 8) (j := 5) (set_cell (i := 8) (j := 4) (set_cell (i := 8) (j := 3) (set_cell (i := 8) (j := 2) (set_cell (i := 8) (j := 1) (set_cell (i := 8) (j := 0) c8)))))))),
    by rw [hfz, hfz, hfz, hfz, hfz, hfz, hfz, hfz, hfz]; exact f0, by rw [hfz, hfz, hfz, hfz, hfz, hfz, hfz, hfz, hfz]; exact f1, by rw [hfz, hfz, hfz, hfz, hfz, hfz, hfz, hfz, hfz]; exact f2, by rw [hfz, hfz, hfz, hfz, hfz, hfz, hfz, hfz, hfz]; exact f3, by rw [hfz, hfz, hfz, hfz, hfz, hfz, hfz, hfz, hfz]; exact f4, by rw [hfz, hfz, hfz, hfz, hfz, hfz, hfz, hfz, hfz]; exact f5, by rw [hfz, hfz, hfz, hfz, hfz, hfz, hfz, hfz, hfz]; exact f6, by rw [hfz, hfz, hfz, hfz, hfz, hfz, hfz, hfz, hfz]; exact f7, by rw [hfz, hfz, hfz, hfz, hfz, hfz, hfz, hfz, hfz]; exact f8, Nat.lt_of_lt_of_le (cell_lt c0) hs⟩
def CondPost (T : List Words.T) (L : Value) (rb : Nat) (w : World) (p : Nat) (e : Ending) (w' : World) : Prop :=
  ∃ c x y s a n k a' n' k', RCond ((T.drop p).take (T.length - p)) c x y s ∧ e = .returned (condV c x (.slice a n k) y (.slice a' n' k')) ∧ Forest w' (fun b => w.heap.size ≤ b) x.a (.slice a n k) ∧ Forest w' (fun b => w.heap.size ≤ b) y.a (.slice a' n' k') ∧ SR T L rb w' (behP p s) (behE p s) ∧ But rb w w'
structure MidC (T : List Words.T) (L : Value) (rb : Nat) (w wx : World) (p q : Nat) (c : List UInt8) (x y : E) (s : St) (sx sy g : Value) : Prop where
  red : RCond ((T.drop p).take (T.length - p)) c x y s
  box : BoxC wx q c x sx y sy
  res : BoxC wx w.heap.size [] E.none (.slice none 0 0) E.none (.slice none 0 0)
  qq : w.heap.size < q
  fx : Forest wx (fun b => w.heap.size < b) x.a sx
  fy : Forest wx (fun b => w.heap.size < b) y.a sy
  say : Says (w.heap.size + 1) wx g wExpr s.bad s.err
  rd : SR T L rb wx p .ok
  old : Below w.heap.size w wx
structure PrC (T : List Words.T) (L : Value) (rb : Nat) (w w1 w5 : World) (p : Nat) (c : List UInt8) (x y : E) (s : St) (sx sy g : Value) : Prop where
  red : RCond ((T.drop p).take (T.length - p)) c x y s
  fx : Forest w5 (fun b => w1.heap.size ≤ b) x.a sx
  fy : Forest w5 (fun b => w1.heap.size ≤ b) y.a sy
  say : Says w1.heap.size w5 g wExpr s.bad s.err
  rd : SR T L rb w5 p .ok
  res : BoxC w5 w.heap.size [] E.none (.slice none 0 0) E.none (.slice none 0 0)
  bel : Below w1.heap.size w1 w5
  old : Below w.heap.size w w1
  sz : w.heap.size < w1.heap.size
theorem PrC.late {T : List Words.T} {L : Value} {rb : Nat} {w w1 w5 : World} {p : Nat} {c : List UInt8} {x y : E} {s : St} {sx sy g : Value} (h : PrC T L rb w w1 w5 p c x y s sx sy g) (t : TypeId) : MidC T L rb w (w5.alloc (.cells #[.string ⟨c.toArray⟩, .int .i64 x.kind, .int .i64 x.n, .string ⟨x.name.toArray⟩, sx, .int .i64 y.kind, .int .i64 y.n, .string ⟨y.name.toArray⟩, sy] t)) p w5.heap.size c x y s sx sy g := by
  have hb := alloc_below w5 (.cells #[.string ⟨c.toArray⟩, .int .i64 x.kind, .int .i64 x.n, .string ⟨x.name.toArray⟩, sx, .int .i64 y.kind, .int .i64 y.n, .string ⟨y.name.toArray⟩, sy] t)
  have h1 := h.sz
  have h2 := h.bel.size
  refine ⟨h.red, boxC_new w5 c x sx y sy t, h.res.keep (hb.block _ h.res.lt) hb.size, by omega, (h.fx.old hb).mono (fun b hb _ => by omega), (h.fy.old hb).mono (fun b hb _ => by omega), ?_, h.rd.below hb, bthen (bthen h.old h.bel) hb⟩
  rcases h.say.below hb with h0 | ⟨h0, b, hb0, hr⟩
  · exact .inl h0
  · exact .inr ⟨h0, b, by omega, hr⟩
theorem PrC.early {T : List Words.T} {L : Value} {rb : Nat} {w w1 w5 : World} {p : Nat} {c : List UInt8} {x y : E} {s : St} {sx sy g : Value} {w0 : World} {z0 z1 z2 z3 z4 z5 z6 z7 z8 : Value} (h : PrC T L rb w w1 w5 p c x y s sx sy g) (hw0 : w0.heap.size < w1.heap.size) (hw : w.heap.size < w0.heap.size) (hL : L.ownBlock ≠ some w0.heap.size) (hrb : rb < w.heap.size) (hc : w5.cell? ⟨w0.heap.size, 0, none⟩ = some z0 ∧ w5.cell? ⟨w0.heap.size, 1, none⟩ = some z1 ∧ w5.cell? ⟨w0.heap.size, 2, none⟩ = some z2 ∧ w5.cell? ⟨w0.heap.size, 3, none⟩ = some z3 ∧ w5.cell? ⟨w0.heap.size, 4, none⟩ = some z4 ∧ w5.cell? ⟨w0.heap.size, 5, none⟩ = some z5 ∧ w5.cell? ⟨w0.heap.size, 6, none⟩ = some z6 ∧ w5.cell? ⟨w0.heap.size, 7, none⟩ = some z7 ∧ w5.cell? ⟨w0.heap.size, 8, none⟩ = some z8) (hf : w5.frozen? ⟨w0.heap.size, 0, none⟩ = false ∧ w5.frozen? ⟨w0.heap.size, 1, none⟩ = false ∧ w5.frozen? ⟨w0.heap.size, 2, none⟩ = false ∧ w5.frozen? ⟨w0.heap.size, 3, none⟩ = false ∧ w5.frozen? ⟨w0.heap.size, 4, none⟩ = false ∧ w5.frozen? ⟨w0.heap.size, 5, none⟩ = false ∧ w5.frozen? ⟨w0.heap.size, 6, none⟩ = false ∧ w5.frozen? ⟨w0.heap.size, 7, none⟩ = false ∧ w5.frozen? ⟨w0.heap.size, 8, none⟩ = false) : MidC T L rb w (s9 w5 w0.heap.size (.string ⟨c.toArray⟩) (.int .i64 x.kind) (.int .i64 x.n) (.string ⟨x.name.toArray⟩) sx (.int .i64 y.kind) (.int .i64 y.n) (.string ⟨y.name.toArray⟩) sy) p w0.heap.size c x y s sx sy g := by
  have hb := but_s9 w0.heap.size w5 (.string ⟨c.toArray⟩) (.int .i64 x.kind) (.int .i64 x.n) (.string ⟨x.name.toArray⟩) sx (.int .i64 y.kind) (.int .i64 y.n) (.string ⟨y.name.toArray⟩) sy
  have h1 := h.sz
  have h2 := h.bel.size
  refine ⟨h.red, boxC_s9 c x sx y sy hc hf, h.res.but hb (by omega), hw, (h.fx.keep (fun b hS hl => hb.block b hl (fun e => by injection e with e; omega)) (fun b hS hl => by omega)), (h.fy.keep (fun b hS hl => hb.block b hl (fun e => by injection e with e; omega)) (fun b hS hl => by omega)), ?_, h.rd.other hb (by omega) hL, (bthen h.old h.bel).trans (hb.below (by omega) (by have := h.old.size; omega))⟩
  rcases h.say with h0 | ⟨h0, b, hb0, hg, k0, k1, k2⟩
  · exact .inl h0
  · have hc : ∀ o, _ = w5.cell? ⟨b, o, none⟩ := fun o => hb.cell (p := ⟨b, o, none⟩) (cell_lt k0) (show b ≠ w0.heap.size by omega)
    exact .inr ⟨h0, b, by omega, hg, (hc 0).trans k0, (hc 1).trans k1, (hc 2).trans k2⟩
set_option maxHeartbeats 8000000 in
set_option maxRecDepth 100000 in
theorem condBad_any (T : List Words.T) (L : Value) (rb : Nat) (w : World) (p : Nat) (er : SE) (h : SR T L rb w p er) (he : er ≠ .ok) : Calls Tryz.prog 104 #[.pointer (some ⟨rb, 0, none⟩)] w fun e w' => e = .returned (condV [] E.none (.slice none 0 0) E.none (.slice none 0 0)) ∧ SR T L rb w' p er ∧ But rb w w' := by
  obtain ⟨g, hg, hs⟩ := h.ce
  have hl := h.lt
  obtain ⟨b, rfl⟩ : ∃ b, g = .iface FPT (.pointer (some ⟨b, 0, none⟩)) := by
    rcases hs.shape with ⟨h0, _⟩ | ⟨_, b, hb⟩
    · exact absurd h0 he
    · exact ⟨b, hb⟩
  have ba := alloc_below w (.cells zeroC 65)
  have H1 := hide (And.intro (h.below ba) ba)
  clear h hs ba he
  go_enter Tryz.func104, Tryz.ntmps104
  go_wp2
  exact bodyPost_ret (v := condV [] E.none (.slice none 0 0) E.none (.slice none 0 0)) (by simp [results, Tryz.results104, go_sem]; exact ⟨rfl, rfl, rfl, rfl, rfl, rfl⟩) rfl ⟨rfl, (unhide H1).1, but_below (unhide H1).2⟩
set_option maxHeartbeats 8000000 in
set_option maxRecDepth 100000 in
theorem condOk_any (HCOND : CondSpec) (T : List Words.T) (L : Value) (rb : Nat) (w : World) (p : Nat) (h : SR T L rb w p .ok) (hG : Glob w) : Calls Tryz.prog 104 #[.pointer (some ⟨rb, 0, none⟩)] w fun e w' => CondPost T L rb w p e w' := by
  have hl := h.lt
  have ht := h.ht
  have h1 := h.hp
  obtain ⟨la, lc, hLe, hlc, htk, hob⟩ := h.tks.cut p T.length h1 (Nat.le_refl _)
  have hsl : ∀ W, (Instr.slice 46 (.slice la T.length lc) (some (.int .i64 p)) none none).run Tryz.prog W = .ok (.slice (if lc = p then la else la.map (·.add (p * 4))) (T.length - p) (lc - p)) W := fun W => runT_slice1 (w := W) la T.length lc p h1 hlc
  have hlen : ((T.drop p).take (T.length - p)).length = T.length - p := by rw [List.length_take, List.length_drop]; omega
  have ba := alloc_below w (.cells zeroC 65)
  have hz : (w.alloc (.cells zeroC 65)).heap.size = w.heap.size + 1 := by simp
  have hr1 : BoxC (w.alloc (.cells zeroC 65)) w.heap.size [] E.none (.slice none 0 0) E.none (.slice none 0 0) := boxC_new w [] E.none (.slice none 0 0) E.none (.slice none 0 0) 65
  have H1 := hide (And.intro (h.below ba) (And.intro (hG.below ba) ba))
  have HGW := hide hG
  have HOB : Hid (∀ q, (Value.slice (if lc = p then la else la.map (·.add (p * 4))) (T.length - p) (lc - p)).ownBlock = some q → q < w.heap.size) := hide (fun q hq => h.lw q (hob q hq))
  have HTK := hide htk
  have HLW := hide h.lw
  obtain ⟨g, hg, hs⟩ := (h.below ba).ce
  obtain rfl : g = .nilIface := hs
  have c0 := (h.below ba).c0
  have c1 := (h.below ba).c1
  generalize hsa : (if lc = p then la else la.map (·.add (p * 4))) = sa at *
  generalize hsn : T.length - p = sn at *
  generalize hsc : lc - p = sc at *
  clear hob htk ba hG h hsa hsc
  have HR1 := hide hr1
  clear hr1
  subst hLe
  go_enter Tryz.func104, Tryz.ntmps104
  go_wp2_with fail
  generalize hW1 : (w.alloc (.cells zeroC 65)) = W1 at *
  have HW1 := hide hW1
  clear hW1
  go_cut [3, 4, 5] (fun s3 s4 s5 wx => ∃ c x y s sx sy q, s3 = .pointer (some ⟨q, 0, none⟩) ∧ s4 = .int .i64 (ansN s) ∧ Hid (MidC T (.slice la T.length lc) rb w wx p q c x y s sx sy s5))
  case first =>
    have hne : (Value.slice la T.length lc).ownBlock ≠ some W1.heap.size := fun e => by have := unhide HLW _ e; omega
    have HP : Hid (∀ W, Below W1.heap.size W1 W → Calls Tryz.prog 42 #[.slice sa sn sc] W fun e w' => ∃ c x y s sa5 sn5 sc5 ta5 tn5 tc5 g, e = .returned (.tuple #[condV c x (.slice sa5 sn5 sc5) y (.slice ta5 tn5 tc5), .int .i64 (ansN s), g]) ∧ PrC T (.slice la T.length lc) rb w W w' p c x y s (.slice sa5 sn5 sc5) (.slice ta5 tn5 tc5) g ∧ Below W.heap.size W w') := hide (fun W hW => by
      have hb0 := bthen (unhide H1).2.2 hW
      refine (HCOND _ _ W (by rw [hlen]; omega) ((unhide HTK).below hb0) (fun q hq => Nat.lt_of_lt_of_le (unhide HOB q hq) hb0.size)).mono ?_
      rintro e w' ⟨c, x, y, s, sx, sy, g, hr, rfl, hfx, hfy, hs, hb⟩
      obtain ⟨a5, c5, rfl⟩ := hfx.shape
      obtain ⟨a6, c6, rfl⟩ := hfy.shape
      have hzz := hW.size
      exact ⟨c, x, y, s, _, _, _, _, _, _, g, rfl, ⟨by rw [hsn]; exact hr, hfx, hfy, hs, ((unhide H1).1.below hW).below hb, ((unhide HR1).keep (hW.block _ (unhide HR1).lt) hW.size).keep (hb.block _ (by omega)) hb.size, hb, hb0, by omega⟩, hb⟩)
    have HXa := hide (unhide HP W1.drew (drew_belowS W1))
    have HXb : Hid (∀ z0 z1 z2 z3 z4 z5 z6 z7 z8 t, Calls Tryz.prog 42 #[.slice sa sn sc] (W1.alloc (.cells #[z0, z1, z2, z3, z4, z5, z6, z7, z8] t)).drew fun e w' => ∃ c x y s sa5 sn5 sc5 ta5 tn5 tc5 g, e = .returned (.tuple #[condV c x (.slice sa5 sn5 sc5) y (.slice ta5 tn5 tc5), .int .i64 (ansN s), g]) ∧ (w'.cell? ⟨W1.heap.size, 0, none⟩ = some z0 ∧ w'.cell? ⟨W1.heap.size, 1, none⟩ = some z1 ∧ w'.cell? ⟨W1.heap.size, 2, none⟩ = some z2 ∧ w'.cell? ⟨W1.heap.size, 3, none⟩ = some z3 ∧ w'.cell? ⟨W1.heap.size, 4, none⟩ = some z4 ∧ w'.cell? ⟨W1.heap.size, 5, none⟩ = some z5 ∧ w'.cell? ⟨W1.heap.size, 6, none⟩ = some z6 ∧ w'.cell? ⟨W1.heap.size, 7, none⟩ = some z7 ∧ w'.cell? ⟨W1.heap.size, 8, none⟩ = some z8) ∧ (w'.frozen? ⟨W1.heap.size, 0, none⟩ = false ∧ w'.frozen? ⟨W1.heap.size, 1, none⟩ = false ∧ w'.frozen? ⟨W1.heap.size, 2, none⟩ = false ∧ w'.frozen? ⟨W1.heap.size, 3, none⟩ = false ∧ w'.frozen? ⟨W1.heap.size, 4, none⟩ = false ∧ w'.frozen? ⟨W1.heap.size, 5, none⟩ = false ∧ w'.frozen? ⟨W1.heap.size, 6, none⟩ = false ∧ w'.frozen? ⟨W1.heap.size, 7, none⟩ = false ∧ w'.frozen? ⟨W1.heap.size, 8, none⟩ = false) ∧ MidC T (.slice la T.length lc) rb w (s9 w' W1.heap.size (.string ⟨c.toArray⟩) (.int .i64 x.kind) (.int .i64 x.n) (.string ⟨x.name.toArray⟩) (.slice sa5 sn5 sc5) (.int .i64 y.kind) (.int .i64 y.n) (.string ⟨y.name.toArray⟩) (.slice ta5 tn5 tc5)) p W1.heap.size c x y s (.slice sa5 sn5 sc5) (.slice ta5 tn5 tc5) g) := hide (fun z0 z1 z2 z3 z4 z5 z6 z7 z8 t => (unhide HP _ (bthen (alloc_below W1 _) (drew_belowS _))).mono (by
      rintro e w' ⟨c, x, y, s, sa5, sn5, sc5, ta5, tn5, tc5, g, he, hpr, hb⟩
      obtain ⟨hc, hf, hlt, hbb⟩ := box9_at hb
      have hs1 : (W1.alloc (.cells #[z0, z1, z2, z3, z4, z5, z6, z7, z8] t)).drew.heap.size = W1.heap.size + 1 := by show (W1.alloc _).heap.size = _; simp
      exact ⟨c, x, y, s, sa5, sn5, sc5, ta5, tn5, tc5, g, he, hc, hf, hpr.early (w0 := W1) (by omega) (by omega) hne (by omega) hc hf⟩))
    clear HP
    have hW1s : rb < W1.heap.size := by omega
    clear hz
    go_region_law (first
      | (go_simp; go_at_call 42; with_reducible refine (unhide HXa).mono ?_; rintro ev w5 ⟨c5, x5, y5, s5, sa5, sn5, sc5, ta5, tn5, tc5, g5, rfl, hpr, hb5⟩; replace hpr := hide hpr; clear hb5; dsimp only)
      | (go_simp; go_at_call 42; with_reducible refine (unhide HXb _ _ _ _ _ _ _ _ _ _).mono ?_; rintro ev w5 ⟨c5, x5, y5, s5, sa5, sn5, sc5, ta5, tn5, tc5, g5, rfl, ⟨q0, q1, q2, q3, q4, q5, q6, q7, q8⟩, ⟨k0, k1, k2, k3, k4, k5, k6, k7, k8⟩, hmx⟩; replace hmx := hide hmx; dsimp only))
    all_goals (
      go_wp2_with fail
      go_meet
      case rel => first
        | exact ⟨c5, x5, y5, s5, _, _, _, rfl, rfl, hide ((unhide hpr).late 65)⟩
        | exact ⟨c5, x5, y5, s5, _, _, _, rfl, rfl, hmx⟩)
  case rest =>
    obtain ⟨c, x, y, s, sx, sy, q, rfl, rfl, HM⟩ := hcut
    have hbl := behC_le (unhide HM).red h1
    have hqq := (unhide HM).qq
    obtain ⟨xa, xc, hxs⟩ := (unhide HM).fx.shape
    generalize hxl : x.a.length = xl at hxs
    subst hxs
    clear hxl
    obtain ⟨ya, yc, hys⟩ := (unhide HM).fy.shape
    generalize hyl : y.a.length = yl at hys
    subst hys
    clear hyl
    have HPOST : Hid (∀ w6, SR T (.slice la T.length lc) rb w6 (behP p s) (behE p s) → But rb wc w6 → BoxC w6 q c x (.slice xa xl xc) y (.slice ya yl yc) ∧ BoxC w6 w.heap.size [] E.none (.slice none 0 0) E.none (.slice none 0 0) ∧ (SR T (.slice la T.length lc) rb (s9 w6 w.heap.size (.string ⟨c.toArray⟩) (.int .i64 x.kind) (.int .i64 x.n) (.string ⟨x.name.toArray⟩) (.slice xa xl xc) (.int .i64 y.kind) (.int .i64 y.n) (.string ⟨y.name.toArray⟩) (.slice ya yl yc)) (behP p s) (behE p s) ∧ Forest (s9 w6 w.heap.size (.string ⟨c.toArray⟩) (.int .i64 x.kind) (.int .i64 x.n) (.string ⟨x.name.toArray⟩) (.slice xa xl xc) (.int .i64 y.kind) (.int .i64 y.n) (.string ⟨y.name.toArray⟩) (.slice ya yl yc)) (fun b => w.heap.size ≤ b) x.a (.slice xa xl xc) ∧ Forest (s9 w6 w.heap.size (.string ⟨c.toArray⟩) (.int .i64 x.kind) (.int .i64 x.n) (.string ⟨x.name.toArray⟩) (.slice xa xl xc) (.int .i64 y.kind) (.int .i64 y.n) (.string ⟨y.name.toArray⟩) (.slice ya yl yc)) (fun b => w.heap.size ≤ b) y.a (.slice ya yl yc) ∧ But rb w (s9 w6 w.heap.size (.string ⟨c.toArray⟩) (.int .i64 x.kind) (.int .i64 x.n) (.string ⟨x.name.toArray⟩) (.slice xa xl xc) (.int .i64 y.kind) (.int .i64 y.n) (.string ⟨y.name.toArray⟩) (.slice ya yl yc)))) := hide (by
      intro w6 hs6 hb6
      have hbs := but_s9 w.heap.size w6 (.string ⟨c.toArray⟩) (.int .i64 x.kind) (.int .i64 x.n) (.string ⟨x.name.toArray⟩) (.slice xa xl xc) (.int .i64 y.kind) (.int .i64 y.n) (.string ⟨y.name.toArray⟩) (.slice ya yl yc)
      have hsz := (unhide HM).old.size
      have hbx := (unhide HM).box.but hb6 (by omega)
      have hrs := (unhide HM).res.but hb6 (by omega)
      have hne : (Value.slice la T.length lc).ownBlock ≠ some w.heap.size := fun e => by have := unhide HLW _ e; omega
      have h6s := hb6.size
      refine ⟨hbx, hrs, hs6.otherC hbs (by omega) hne hrs.c2, ?_, ?_, ?_⟩
      · have hf6 : Forest w6 (fun b => w.heap.size < b) x.a (.slice xa xl xc) := (unhide HM).fx.keep (fun b hS hl => hb6.block b hl (fun e => by injection e with e; omega)) (fun b hS hl => hS)
        exact hf6.keep (fun b hS hl => hbs.block b hl (fun e => by injection e with e; omega)) (fun b hS hl => by omega)
      · have hf6 : Forest w6 (fun b => w.heap.size < b) y.a (.slice ya yl yc) := (unhide HM).fy.keep (fun b hS hl => hb6.block b hl (fun e => by injection e with e; omega)) (fun b hS hl => hS)
        exact hf6.keep (fun b hS hl => hbs.block b hl (fun e => by injection e with e; omega)) (fun b hS hl => by omega)
      · refine ⟨hbs.os.trans (hb6.os.trans (unhide HM).old.os), hbs.tape.trans (hb6.tape.trans (unhide HM).old.tape), hbs.output.trans (hb6.output.trans (unhide HM).old.output), Nat.le_trans hsz (Nat.le_trans h6s hbs.size), fun i hi hne => ?_⟩
        exact (hbs.block i (by omega) (fun e => by injection e with e; omega)).trans ((hb6.block i (by omega) hne).trans ((unhide HM).old.block i hi)))
    have HRED := hide (unhide HM).red
    by_cases he : s.err = 0
    · have hP : behP p s = p + s.pos := if_pos he
      have hE : behE p s = .ok := if_pos he
      have hN : ansN s = s.pos := if_pos he
      obtain rfl := says_nilS (unhide HM).say he
      have HT := hide (tookOk_any T (.slice la T.length lc) rb wc p s.pos .ok (unhide HM).rd hbl.1)
      rw [hN]
      rw [← hP] at HT
      have HOK : Hid (SE.ok = behE p s) := hide hE.symm
      rw [unhide HOK] at HT
      clear hP hE hN he
      generalize s.pos = sp at *
      go_wp2_with fail
      refine (unhide HT).mono ?_
      rintro ev w6 ⟨rfl, h6, hb6⟩
      obtain ⟨hbx, hrs, hpost⟩ := unhide HPOST w6 h6 hb6
      have HP6 := hide hpost
      obtain ⟨m0, m1, m2, m3, m4, m5, m6, m7, m8, -, -, -, -, -, -, -, -, -, -⟩ := hbx
      obtain ⟨r0, r1, r2, r3, r4, r5, r6, r7, r8, z0, z1, z2, z3, z4, z5, z6, z7, z8, hrl⟩ := hrs
      clear h6 hb6 hpost
      have hqne : ¬ q = w.heap.size := by omega
      have hqne2 : ¬ w.heap.size = q := by omega
      go_wp2
      exact bodyPost_ret (v := condV c x (.slice xa xl xc) y (.slice ya yl yc)) (by simp [results, Tryz.results104, go_sem, r0, r1, r2, r3, r4, r5, r6, r7, r8]) rfl ⟨c, x, y, s, _, _, _, _, _, _, unhide HRED, rfl, (unhide HP6).2.1, (unhide HP6).2.2.1, (unhide HP6).1, (unhide HP6).2.2.2⟩
    · have hP : behP p s = p + s.bad := if_neg he
      have hE : behE p s = .sub (p + s.bad) s.bad s.err := if_neg he
      obtain ⟨b2, hb2, hgg, hl2⟩ := says_leaf (unhide HM).say he
      subst hgg
      have hGc := (unhide HGW).below (unhide HM).old
      have HT := hide (tookErr_any T (.slice la T.length lc) rb wc p (ansN s) b2 s.bad s.err (unhide HM).rd hGc hl2 (by omega) hbl.2)
      rw [← hP] at HT
      have HOK : Hid (SE.sub (behP p s) s.bad s.err = behE p s) := hide (by rw [hE, hP])
      rw [unhide HOK] at HT
      clear hP hE he hl2 hb2
      go_wp2_with fail
      refine (unhide HT).mono ?_
      rintro ev w6 ⟨rfl, h6, hb6⟩
      obtain ⟨hbx, hrs, hpost⟩ := unhide HPOST w6 h6 hb6
      have HP6 := hide hpost
      obtain ⟨m0, m1, m2, m3, m4, m5, m6, m7, m8, -, -, -, -, -, -, -, -, -, -⟩ := hbx
      obtain ⟨r0, r1, r2, r3, r4, r5, r6, r7, r8, z0, z1, z2, z3, z4, z5, z6, z7, z8, hrl⟩ := hrs
      clear h6 hb6 hpost
      have hqne : ¬ q = w.heap.size := by omega
      have hqne2 : ¬ w.heap.size = q := by omega
      go_wp2
      exact bodyPost_ret (v := condV c x (.slice xa xl xc) y (.slice ya yl yc)) (by simp [results, Tryz.results104, go_sem, r0, r1, r2, r3, r4, r5, r6, r7, r8]) rfl ⟨c, x, y, s, _, _, _, _, _, _, unhide HRED, rfl, (unhide HP6).2.1, (unhide HP6).2.2.1, (unhide HP6).1, (unhide HP6).2.2.2⟩
end Go.Proofs.YthkbchefjagbbaaGreatDoor.Line

namespace Go.Proofs.YthkbchefjagbbaaGreatDoor.Line
open Go.ChangeShapes Go.WideShapes Go.ChangeAt Go.RowKit
open Ex (E St)
set_option linter.unusedVariables false

/-- how a condition is read -/
def CR (T : List Words.T) (p : Nat) (er : SE) (c : List UInt8) (x y : E) (p' : Nat) (er' : SE) : Prop := (er ≠ .ok ∧ c = [] ∧ x = E.none ∧ y = E.none ∧ p' = p ∧ er' = er) ∨ (er = .ok ∧ ∃ s, RCond ((T.drop p).take (T.length - p)) c x y s ∧ p' = behP p s ∧ er' = behE p s)
theorem cond_any (HCOND : CondSpec) (T : List Words.T) (L : Value) (rb : Nat) (w : World) (p : Nat) (er : SE) (h : SR T L rb w p er) (hG : Glob w) : Calls Tryz.prog 104 #[.pointer (some ⟨rb, 0, none⟩)] w fun e w' => ∃ c x y a n m a' n' m' p' er', CR T p er c x y p' er' ∧ e = .returned (condV c x (.slice a n m) y (.slice a' n' m')) ∧ Forest w' (fun b => w.heap.size ≤ b) x.a (.slice a n m) ∧ Forest w' (fun b => w.heap.size ≤ b) y.a (.slice a' n' m') ∧ SR T L rb w' p' er' ∧ But rb w w' := by
  by_cases he : er = .ok
  · subst he
    refine (condOk_any HCOND T L rb w p h hG).mono ?_
    rintro e w' ⟨c, x, y, s, a, n, m, a', n', m', hr, rfl, hx, hy, hs, hb⟩
    exact ⟨c, x, y, a, n, m, a', n', m', _, _, .inr ⟨rfl, s, hr, rfl, rfl⟩, rfl, hx, hy, hs, hb⟩
  · refine (condBad_any T L rb w p er h he).mono ?_
    rintro e w' ⟨rfl, hs, hb⟩
    exact ⟨[], E.none, E.none, none, 0, 0, none, 0, 0, p, er, .inl ⟨he, rfl, rfl, rfl, rfl, rfl⟩, rfl, .nil none 0, .nil none 0, hs, hb⟩
abbrev ifH (k : Int) (c : List UInt8) (x : E) (sx : Value) : Array Value := #[.int .i64 k, .slice none 0 0, .int .i64 0, .int .i64 0, .string ⟨#[]⟩, .slice none 0 0, .int .i64 0, .int .i64 0, .string ⟨#[]⟩, .slice none 0 0, .string ⟨c.toArray⟩, .int .i64 x.kind, .int .i64 x.n, .string ⟨x.name.toArray⟩, sx, .int .i64 0, .int .i64 0, .string ⟨#[]⟩, .slice none 0 0, .string ⟨#[]⟩, .int .i64 0, .int .i64 0, .string ⟨#[]⟩, .slice none 0 0, .int .i64 0, .int .i64 0, .string ⟨#[]⟩, .slice none 0 0, .int .i64 0]
abbrev ifV (k : Int) (c : List UInt8) (x : E) (sx : Value) (y : E) (sy : Value) : Array Value := #[.int .i64 k, .slice none 0 0, .int .i64 0, .int .i64 0, .string ⟨#[]⟩, .slice none 0 0, .int .i64 0, .int .i64 0, .string ⟨#[]⟩, .slice none 0 0, .string ⟨c.toArray⟩, .int .i64 x.kind, .int .i64 x.n, .string ⟨x.name.toArray⟩, sx, .int .i64 y.kind, .int .i64 y.n, .string ⟨y.name.toArray⟩, sy, .string ⟨#[]⟩, .int .i64 0, .int .i64 0, .string ⟨#[]⟩, .slice none 0 0, .int .i64 0, .int .i64 0, .string ⟨#[]⟩, .slice none 0 0, .int .i64 0]
theorem ifH_eq (k : Int) (c : List UInt8) (x : E) (sx : Value) : ((((((stZ k).setIfInBounds 10 (.string ⟨c.toArray⟩)).setIfInBounds 11 (.int .i64 x.kind)).setIfInBounds 12 (.int .i64 x.n)).setIfInBounds 13 (.string ⟨x.name.toArray⟩)).setIfInBounds 14 sx) = ifH k c x sx := rfl
theorem ifV_eq (k : Int) (c : List UInt8) (x : E) (sx : Value) (y : E) (sy : Value) : (((((ifH k c x sx).setIfInBounds 15 (.int .i64 y.kind)).setIfInBounds 16 (.int .i64 y.n)).setIfInBounds 17 (.string ⟨y.name.toArray⟩)).setIfInBounds 18 sy) = ifV k c x sx y sy := rfl
theorem but_c9 (q : Nat) (w : World) (a0 a1 a2 a3 a4 a5 a6 a7 a8 : Value) : But q w (((((((((w.setCell ⟨q, 10, none⟩ a0).setCell ⟨q, 11, none⟩ a1).setCell ⟨q, 12, none⟩ a2).setCell ⟨q, 13, none⟩ a3).setCell ⟨q, 14, none⟩ a4).setCell ⟨q, 15, none⟩ a5).setCell ⟨q, 16, none⟩ a6).setCell ⟨q, 17, none⟩ a7).setCell ⟨q, 18, none⟩ a8) := ((((((((set_but q w 10 a0).trans (set_but q _ 11 a1)).trans (set_but q _ 12 a2)).trans (set_but q _ 13 a3)).trans (set_but q _ 14 a4)).trans (set_but q _ 15 a5)).trans (set_but q _ 16 a6)).trans (set_but q _ 17 a7)).trans (set_but q _ 18 a8)
theorem MidSt.set9 {T : List Words.T} {L : Value} {rb : Nat} {w W : World} {q : Nat} {k : Int} {p : Nat} {er : SE} (h : MidSt T L rb w W q (stZ k) p er) (c : List UInt8) (x : E) (sx : Value) (y : E) (sy : Value) : MidSt T L rb w (((((((((W.setCell ⟨q, 10, none⟩ (.string ⟨c.toArray⟩)).setCell ⟨q, 11, none⟩ (.int .i64 x.kind)).setCell ⟨q, 12, none⟩ (.int .i64 x.n)).setCell ⟨q, 13, none⟩ (.string ⟨x.name.toArray⟩)).setCell ⟨q, 14, none⟩ sx).setCell ⟨q, 15, none⟩ (.int .i64 y.kind)).setCell ⟨q, 16, none⟩ (.int .i64 y.n)).setCell ⟨q, 17, none⟩ (.string ⟨y.name.toArray⟩)).setCell ⟨q, 18, none⟩ sy) q (ifV k c x sx y sy) p er := by
  have h5 := ((((h.set 10 (.string ⟨c.toArray⟩) (fun e => by omega)).set 11 (.int .i64 x.kind) (fun e => by omega)).set 12 (.int .i64 x.n) (fun e => by omega)).set 13 (.string ⟨x.name.toArray⟩) (fun e => by omega)).set 14 sx (fun e => by omega)
  rw [ifH_eq] at h5
  have h9 := (((h5.set 15 (.int .i64 y.kind) (fun e => by omega)).set 16 (.int .i64 y.n) (fun e => by omega)).set 17 (.string ⟨y.name.toArray⟩) (fun e => by omega)).set 18 sy (fun e => by omega)
  rw [ifV_eq] at h9
  exact h9
def IfR (T : List Words.T) (p : Nat) (er : SE) (c : List UInt8) (x y : E) (p' : Nat) (er' : SE) : Prop :=
  ∃ pa ea p1 e1 pb eb, pa = nextP (isNext T p er [40]) p ∧ ea = mustE (isNext T p er [40]) er p ∧ CR T pa ea c x y p1 e1 ∧ pb = nextP (isNext T p1 e1 [41]) p1 ∧ eb = mustE (isNext T p1 e1 [41]) e1 p1 ∧ p' = nextP (isNext T pb eb [116, 104, 101, 110]) pb ∧ er' = mustE (isNext T pb eb [116, 104, 101, 110]) eb pb
set_option maxHeartbeats 16000000 in
set_option maxRecDepth 100000 in
theorem stmt_if (HCOND : CondSpec) (T : List Words.T) (L : Value) (rb : Nat) (w : World) (p : Nat) (er : SE) (hl : rb < w.heap.size) (h0 : 0 < rb) (hlw : ∀ q, L.ownBlock = some q → q < w.heap.size) (hG : Glob w) (HK : KindIs T L rb w 5 p er) : Calls Tryz.prog 65 #[.pointer (some ⟨rb, 0, none⟩)] w fun e w' => ∃ c x y a n m a' n' m' p' er', IfR T p er c x y p' er' ∧ e = .returned (.agg (ifV 5 c x (.slice a n m) y (.slice a' n' m'))) ∧ Forest w' (fun b => w.heap.size < b) x.a (.slice a n m) ∧ Forest w' (fun b => w.heap.size < b) y.a (.slice a' n' m') ∧ SR T L rb w' p' er' ∧ But rb w w' := by
  have ba := alloc_below w (.cells (stZ 0) STT)
  have HKA := hide (HK _ ba)
  have HLW := hide hlw
  have HG := hide hG
  have HCO := hide HCOND
  clear HK ba hlw hG HCOND
  go_enter Tryz.func65, Tryz.ntmps65
  go_wp2_with fail
  refine (unhide HKA).mono ?_
  rintro e w3 ⟨rfl, h3, hb3⟩
  have HM := hide (midSt_start 5 h3 hb3 hl (unhide HLW))
  clear h3 hb3 HKA
  go_wp2_with (refine wpList_storeNew rfl _ _ rfl _ _ rfl rfl rfl rfl (by kernel_rfl) ?_)
  generalize w3.alloc (.cells (stZ 5) STT) = W4 at *
  generalize w3.heap.size = q at *
  refine (must_any T L rb W4 p er [40] (unhide HM).rd).mono ?_
  rintro e w6 ⟨rfl, h6, hb6⟩
  generalize hpa : nextP (isNext T p er [40]) p = pa at *
  generalize hea : mustE (isNext T p er [40]) er p = ea at *
  have HM6 := hide ((unhide HM).call h6 hb6)
  have HE1 := hide (And.intro hpa hea)
  clear h6 hb6 hpa hea HM
  go_wp2_with fail
  refine (cond_any (unhide HCO) T L rb w6 pa ea (unhide HM6).rd ((unhide HM6).glob (unhide HG) h0)).mono ?_
  rintro e w8 ⟨c, x, y, a, n, m, a', n', m', p2, e2, hx8, rfl, hfx, hfy, h8, hb8⟩
  have HM8 := hide ((unhide HM6).call h8 hb8)
  have hq7 := (unhide HM6).var.lt
  have hfx' : Forest w8 (fun b => q < b) x.a (.slice a n m) := hfx.mono (fun b hS _ => by omega)
  have hfy' : Forest w8 (fun b => q < b) y.a (.slice a' n' m') := hfy.mono (fun b hS _ => by omega)
  have HM9 := hide ((unhide HM8).set9 c x (.slice a n m) y (.slice a' n' m'))
  have hb9 := but_c9 q w8 (.string ⟨c.toArray⟩) (.int .i64 x.kind) (.int .i64 x.n) (.string ⟨x.name.toArray⟩) (.slice a n m) (.int .i64 y.kind) (.int .i64 y.n) (.string ⟨y.name.toArray⟩) (.slice a' n' m')
  have HF9 := hide (And.intro (forestBut hfx' hb9 (Nat.le_refl _)) (forestBut hfy' hb9 (Nat.le_refl _)))
  have HE2 := hide hx8
  have d0 := (unhide HM8).var.cell 10 (.string ⟨#[]⟩) rfl
  have f0 := (unhide HM8).var.frozen 10
  have d1 := (unhide HM8).var.cell 11 (.int .i64 0) rfl
  have f1 := (unhide HM8).var.frozen 11
  have d2 := (unhide HM8).var.cell 12 (.int .i64 0) rfl
  have f2 := (unhide HM8).var.frozen 12
  have d3 := (unhide HM8).var.cell 13 (.string ⟨#[]⟩) rfl
  have f3 := (unhide HM8).var.frozen 13
  have d4 := (unhide HM8).var.cell 14 (.slice none 0 0) rfl
  have f4 := (unhide HM8).var.frozen 14
  have d5 := (unhide HM8).var.cell 15 (.int .i64 0) rfl
  have f5 := (unhide HM8).var.frozen 15
  have d6 := (unhide HM8).var.cell 16 (.int .i64 0) rfl
  have f6 := (unhide HM8).var.frozen 16
  have d7 := (unhide HM8).var.cell 17 (.string ⟨#[]⟩) rfl
  have f7 := (unhide HM8).var.frozen 17
  have d8 := (unhide HM8).var.cell 18 (.slice none 0 0) rfl
  have f8 := (unhide HM8).var.frozen 18
  clear h8 hb8 hfx hfy hfx' hfy' hb9 hx8 HM6
  go_wp2_with fail
  generalize ((((((((w8.setCell ⟨q, 10, none⟩ (.string ⟨c.toArray⟩)).setCell ⟨q, 11, none⟩ (.int .i64 x.kind)).setCell ⟨q, 12, none⟩ (.int .i64 x.n)).setCell ⟨q, 13, none⟩ (.string ⟨x.name.toArray⟩)).setCell ⟨q, 14, none⟩ (.slice a n m)).setCell ⟨q, 15, none⟩ (.int .i64 y.kind)).setCell ⟨q, 16, none⟩ (.int .i64 y.n)).setCell ⟨q, 17, none⟩ (.string ⟨y.name.toArray⟩)).setCell ⟨q, 18, none⟩ (.slice a' n' m') = W9 at *
  clear d0 f0 d1 f1 d2 f2 d3 f3 d4 f4 d5 f5 d6 f6 d7 f7 d8 f8 HM8
  refine (must_any T L rb W9 p2 e2 [41] (unhide HM9).rd).mono ?_
  rintro e w10 ⟨rfl, h10, hb10⟩
  generalize hpb : nextP (isNext T p2 e2 [41]) p2 = pb at *
  generalize heb : mustE (isNext T p2 e2 [41]) e2 p2 = eb at *
  have hqq := (unhide HM9).qq
  have HM10 := hide ((unhide HM9).call h10 hb10)
  have HF10 := hide (And.intro (forestBut (unhide HF9).1 hb10 (by omega)) (forestBut (unhide HF9).2 hb10 (by omega)))
  have HE3 := hide (And.intro hpb heb)
  clear h10 hb10 hpb heb HM9 HF9
  go_wp2_with fail
  refine (must_any T L rb w10 pb eb [116, 104, 101, 110] (unhide HM10).rd).mono ?_
  rintro e w12 ⟨rfl, h12, hb12⟩
  generalize hpc : nextP (isNext T pb eb [116, 104, 101, 110]) pb = pc at *
  generalize hec : mustE (isNext T pb eb [116, 104, 101, 110]) eb pb = ec at *
  have HM12 := hide ((unhide HM10).call h12 hb12)
  have HF12 := hide (And.intro (forestBut (unhide HF10).1 hb12 (by omega)) (forestBut (unhide HF10).2 hb12 (by omega)))
  have HE4 := hide (And.intro hpc hec)
  clear h12 hb12 hpc hec HM10 HF10
  go_upto_region 24 with fail
  obtain ⟨z1, z2, z3, z4⟩ := (unhide HM12).done
  have HZ := hide (And.intro z1 (And.intro z2 (And.intro z3 (And.intro ((forestBut (unhide HF12).1 z4 (by omega)).mono (S' := fun b => w.heap.size < b) (fun b hS _ => by omega)) ((forestBut (unhide HF12).2 z4 (by omega)).mono (S' := fun b => w.heap.size < b) (fun b hS _ => by omega))))))
  clear z1 z2 z3 z4 HF12
  have HDR : Hid (IfR T p er c x y pc ec) := hide ⟨pa, ea, p2, e2, pb, eb, (unhide HE1).1.symm, (unhide HE1).2.symm, unhide HE2, (unhide HE3).1.symm, (unhide HE3).2.symm, (unhide HE4).1.symm, (unhide HE4).2.symm⟩
  have hone : (ifV 5 c x (.slice a n m) y (.slice a' n' m')).all (·.oneCell') = true := by kernel_rfl
  have hsz : (ifV 5 c x (.slice a n m) y (.slice a' n' m')).size = 29 := rfl
  go_wp2_with (first | (refine wpList_loadRow rfl _ rfl _ _ rfl (unhide HM12).var ?_) | (refine wpList_storeRow rfl _ _ rfl _ _ _ rfl rfl (unhide HM12).res hsz hone ?_))
  exact bodyPost_ret (results_cell_row rfl _ _ w.heap.size STT (ifV 5 c x (.slice a n m) y (.slice a' n' m')) (0, 0) _ rfl (unhide HZ).1.1 Tryz.underlying67 rfl infoS) rfl ⟨c, x, y, a, n, m, a', n', m', pc, ec, unhide HDR, rfl, (unhide HZ).2.2.2.1, (unhide HZ).2.2.2.2, (unhide HZ).2.1, (unhide HZ).2.2.1⟩
end Go.Proofs.YthkbchefjagbbaaGreatDoor.Line
