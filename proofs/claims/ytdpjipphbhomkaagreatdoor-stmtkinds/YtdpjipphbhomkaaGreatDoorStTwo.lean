/- The contracts of the statement reader's expression and cond, over those of the project's Parse, ParseCond.
   The contracts of the statement reader's dim, dims.
   Rows of items; the contract of the statement reader's items.
   The contracts of the statement reader's targetEnd, target.
   Statements in memory; the contract of the statement reader's statement, of those that have no fields.
   In the midst of statement: its variable and its result in memory; expressions and targets, whatever was wrong ahead of them. -/
import Derived.Test.YtdpjipphbhomkaaGreatDoorStOne
import Derived.Test.YtdpjipphbhomkaaGreatDoorExprAll
import Derived.Deep.DeepCutAuto
import Derived.Maps.AppendAt
import Derived.Deep.LoopGhost
import Derived.Deep.WholeRow
namespace Go.Proofs.YtdpjipphbhomkaaGreatDoor.Line
open Go.ChangeShapes Go.WideShapes Go.ChangeAt Go.RowKit
open Ex (E St)
set_option linter.unusedVariables false

/-- where the reader is behind an expression that began at p; what is wrong -/
def behP (p : Nat) (s : St) : Nat := if s.err = 0 then p + s.pos else p + s.bad
def behE (p : Nat) (s : St) : SE := if s.err = 0 then .ok else .sub (p + s.bad) s.bad s.err
def ExprPost (T : List Words.T) (L : Value) (rb : Nat) (w : World) (p hi : Nat) (e : Ending) (w' : World) : Prop :=
  ∃ x s sl, Ex.RExpr ((T.drop p).take (hi - p)) 0 s00 (x, s) ∧ e = .returned (treeV (ansE x s) sl) ∧ Forest w' (fun b => w.heap.size ≤ b) (ansE x s).a sl ∧ SR T L rb w' (behP p s) (behE p s) ∧ But rb w w'
theorem beh_le {T : List Words.T} {p hi : Nat} {x : E} {s : St} (h : Ex.RExpr ((T.drop p).take (hi - p)) 0 s00 (x, s)) (hp : p ≤ hi) (hh : hi ≤ T.length) : p + s.pos ≤ T.length ∧ p + s.bad ≤ T.length := by
  have h1 := Ex.RExpr.inn h ⟨Nat.zero_le _, Nat.zero_le _⟩
  have hl : ((T.drop p).take (hi - p)).length = hi - p := by rw [List.length_take, List.length_drop]; omega
  unfold Ex.In at h1
  rw [hl] at h1
  omega
theorem says_leaf {B : Nat} {w : World} {g : Value} {k er : Nat} (h : Says B w g wExpr k er) (he : er ≠ 0) : ∃ b, B ≤ b ∧ g = .iface FPT (.pointer (some ⟨b, 0, none⟩)) ∧ Leaf w b wExpr k er := by
  rcases h with ⟨h0, _⟩ | ⟨_, b, hb, hg, h0, h1, h2⟩
  · exact absurd h0 he
  · exact ⟨b, hb, hg, h0, h1, h2⟩
set_option maxHeartbeats 8000000 in
set_option maxRecDepth 100000 in
theorem exprBad_any (T : List Words.T) (L : Value) (rb : Nat) (w : World) (p hi : Nat) (er : SE) (h : SR T L rb w p er) (he : er ≠ .ok) : Calls Tryz.prog 56 #[.pointer (some ⟨rb, 0, none⟩), .int .i64 hi] w fun e w' => e = .returned (treeV E.none (.slice none 0 0)) ∧ SR T L rb w' p er ∧ But rb w w' := by
  obtain ⟨g, hg, hs⟩ := h.ce
  have hl := h.lt
  obtain ⟨b, rfl⟩ : ∃ b, g = .iface FPT (.pointer (some ⟨b, 0, none⟩)) := by
    rcases hs.shape with ⟨h0, _⟩ | ⟨_, b, hb⟩
    · exact absurd h0 he
    · exact ⟨b, hb⟩
  have ba := alloc_below w (.cells #[.int .i64 0, .int .i64 0, .string ⟨#[]⟩, .slice none 0 0] 26)
  have H1 := hide (And.intro (h.below ba) ba)
  clear h hs ba he
  go_enter Tryz.func56, Tryz.ntmps56
  go_wp2
  exact bodyPost_ret (v := treeV E.none (.slice none 0 0)) (by simp [results, Tryz.results56, go_sem]; exact ⟨rfl, rfl, rfl⟩) rfl ⟨rfl, (unhide H1).1, but_below (unhide H1).2⟩
theorem says_nilS {B : Nat} {w : World} {g : Value} {word : List UInt8} {p er : Nat} (h : Says B w g word p er) (he : er = 0) : g = .nilIface := by
  rcases h with ⟨_, h0⟩ | ⟨h0, _⟩
  · exact h0
  · exact absurd he h0
theorem drew_belowS (W : World) : Below W.heap.size W W.drew := below_drewN (Below.refl _ _) 1
theorem box4_at {W w5 : World} {z0 z1 z2 z3 : Value} {t : TypeId} (hb : Below (W.alloc (.cells #[z0, z1, z2, z3] t)).drew.heap.size (W.alloc (.cells #[z0, z1, z2, z3] t)).drew w5) : (w5.cell? ⟨W.heap.size, 0, none⟩ = some z0 ∧ w5.cell? ⟨W.heap.size, 1, none⟩ = some z1 ∧ w5.cell? ⟨W.heap.size, 2, none⟩ = some z2 ∧ w5.cell? ⟨W.heap.size, 3, none⟩ = some z3) ∧ (w5.frozen? ⟨W.heap.size, 0, none⟩ = false ∧ w5.frozen? ⟨W.heap.size, 1, none⟩ = false ∧ w5.frozen? ⟨W.heap.size, 2, none⟩ = false ∧ w5.frozen? ⟨W.heap.size, 3, none⟩ = false) ∧ W.heap.size < w5.heap.size ∧ Below W.heap.size W w5 := by
  have hb' := bthen (drew_belowS _) hb
  have h0 : (W.alloc (.cells #[z0, z1, z2, z3] t)).heap.size = W.heap.size + 1 := by simp
  have hs := hb'.size
  have hc : ∀ o, w5.cell? ⟨W.heap.size, o, none⟩ = (W.alloc (.cells #[z0, z1, z2, z3] t)).cell? ⟨W.heap.size, o, none⟩ := fun o => hb'.cell (p := ⟨W.heap.size, o, none⟩) (show W.heap.size < _ by omega)
  have hf : ∀ o, w5.frozen? ⟨W.heap.size, o, none⟩ = (W.alloc (.cells #[z0, z1, z2, z3] t)).frozen? ⟨W.heap.size, o, none⟩ := fun o => hb'.frozen (p := ⟨W.heap.size, o, none⟩) (show W.heap.size < _ by omega)
  exact ⟨⟨(hc 0).trans (by simp), (hc 1).trans (by simp), (hc 2).trans (by simp), (hc 3).trans (by simp)⟩, ⟨(hf 0).trans (by simp), (hf 1).trans (by simp), (hf 2).trans (by simp), (hf 3).trans (by simp)⟩, by omega, bthen (alloc_below W _) hb'⟩
theorem SR.other {T : List Words.T} {L : Value} {rb q : Nat} {w w' : World} {p : Nat} (h : SR T L rb w p .ok) (hb : But q w w') (hne : rb ≠ q) (hL : L.ownBlock ≠ some q) : SR T L rb w' p .ok := by
  have hk := hb.block rb h.lt (fun e => hne (by injection e))
  have hc : ∀ o, w'.cell? ⟨rb, o, none⟩ = w.cell? ⟨rb, o, none⟩ := fun o => World.cell?_of_block (a := ⟨rb, o, none⟩) hk
  have hf : ∀ o, w'.frozen? ⟨rb, o, none⟩ = w.frozen? ⟨rb, o, none⟩ := fun o => World.frozen?_of_block (a := ⟨rb, o, none⟩) hk
  obtain ⟨g, hg, hs⟩ := h.ce
  exact ⟨(hc 0).trans h.c0, (hc 1).trans h.c1, ⟨g, (hc 2).trans hg, hs⟩, (hf 1).trans h.f1, (hf 2).trans h.f2, Nat.lt_of_lt_of_le h.lt hb.size, h.tks.but hb hL, h.own, fun q hq => Nat.lt_of_lt_of_le (h.lw q hq) hb.size, h.hp, h.ht⟩
theorem Se.other {B q : Nat} {w w' : World} {g : Value} {er : SE} {k : IntKind} {v : Int} (h : Se B w g er) (hb : But q w w') (hq : w.cell? ⟨q, 0, none⟩ = some (.int k v)) : Se B w' g er := by
  have hne : ∀ {b : Nat} {l : List UInt8}, w.cell? ⟨b, 0, none⟩ = some (.string ⟨l.toArray⟩) → b ≠ q := fun {b l} h e => by subst e; rw [hq] at h; cases h
  cases er with
  | ok => exact h
  | leaf p e =>
    obtain ⟨b, hB, hg, hl⟩ := h
    exact ⟨b, hB, hg, hl.keep (hb.block b hl.lt (fun e => hne hl.1 (by injection e)))⟩
  | sub p k e =>
    obtain ⟨b, b2, hB, hb2, hg, ⟨h0, h1, h2⟩, hl⟩ := h
    have hc : ∀ o, w'.cell? ⟨b, o, none⟩ = w.cell? ⟨b, o, none⟩ := fun o => hb.cell (p := ⟨b, o, none⟩) (cell_lt h0) (hne h0)
    exact ⟨b, b2, hB, hb2, hg, ⟨(hc 0).trans h0, (hc 1).trans h1, (hc 2).trans h2⟩, hl.keep (hb.block b2 hl.lt (fun e => hne hl.1 (by injection e)))⟩
theorem SR.otherI {T : List Words.T} {L : Value} {rb q : Nat} {w w' : World} {p : Nat} {er : SE} {k : IntKind} {v : Int} (h : SR T L rb w p er) (hb : But q w w') (hne : rb ≠ q) (hL : L.ownBlock ≠ some q) (hq : w.cell? ⟨q, 0, none⟩ = some (.int k v)) : SR T L rb w' p er := by
  have hk := hb.block rb h.lt (fun e => hne (by injection e))
  have hc : ∀ o, w'.cell? ⟨rb, o, none⟩ = w.cell? ⟨rb, o, none⟩ := fun o => World.cell?_of_block (a := ⟨rb, o, none⟩) hk
  have hf : ∀ o, w'.frozen? ⟨rb, o, none⟩ = w.frozen? ⟨rb, o, none⟩ := fun o => World.frozen?_of_block (a := ⟨rb, o, none⟩) hk
  obtain ⟨g, hg, hs⟩ := h.ce
  exact ⟨(hc 0).trans h.c0, (hc 1).trans h.c1, ⟨g, (hc 2).trans hg, hs.other hb hq⟩, (hf 1).trans h.f1, (hf 2).trans h.f2, Nat.lt_of_lt_of_le h.lt hb.size, h.tks.but hb hL, h.own, fun q hq => Nat.lt_of_lt_of_le (h.lw q hq) hb.size, h.hp, h.ht⟩
theorem but_set4 (q : Nat) (w : World) (a b c d : Value) : But q w ((((w.setCell ⟨q, 0, none⟩ a).setCell ⟨q, 1, none⟩ b).setCell ⟨q, 2, none⟩ c).setCell ⟨q, 3, none⟩ d) := (((set_but q w 0 a).trans (set_but q _ 1 b)).trans (set_but q _ 2 c)).trans (set_but q _ 3 d)
theorem box_set4 {w : World} {q : Nat} {z0 z1 z2 z3 : Value} (x : E) (sl : Value) (hc : w.cell? ⟨q, 0, none⟩ = some z0 ∧ w.cell? ⟨q, 1, none⟩ = some z1 ∧ w.cell? ⟨q, 2, none⟩ = some z2 ∧ w.cell? ⟨q, 3, none⟩ = some z3) (hf : w.frozen? ⟨q, 0, none⟩ = false ∧ w.frozen? ⟨q, 1, none⟩ = false ∧ w.frozen? ⟨q, 2, none⟩ = false ∧ w.frozen? ⟨q, 3, none⟩ = false) : Box ((((w.setCell ⟨q, 0, none⟩ (.int .i64 x.kind)).setCell ⟨q, 1, none⟩ (.int .i64 x.n)).setCell ⟨q, 2, none⟩ (.string ⟨x.name.toArray⟩)).setCell ⟨q, 3, none⟩ sl) q x sl := by
  obtain ⟨c0, c1, c2, c3⟩ := hc
  obtain ⟨f0, f1, f2, f3⟩ := hf
  have hfz : ∀ (u : World) (j o : Nat) (v : Value), (u.setCell ⟨q, j, none⟩ v).frozen? ⟨q, o, none⟩ = u.frozen? ⟨q, o, none⟩ := fun u j o v => by simp [go_sem]
  have hs := (but_set4 q w (.int .i64 x.kind) (.int .i64 x.n) (.string ⟨x.name.toArray⟩) sl).size
  exact ⟨set_cell (i := 0) (j := 3) (set_cell (i := 0) (j := 2) (set_cell (i := 0) (j := 1) (set_cell (i := 0) (j := 0) c0))), set_cell (i := 1) (j := 3) (set_cell (i := 1) (j := 2) (set_cell (i := 1) (j := 1) (set_cell (i := 1) (j := 0) c1))), set_cell (i := 2) (j := 3) (set_cell (i := 2) (j := 2) (set_cell (i := 2) (j := 1) (set_cell (i := 2) (j := 0) c2))), set_cell (i := 3) (j := 3) (set_cell (i := 3) (j := 2) (set_cell (i := 3) (j := 1) (set_cell (i := 3) (j := 0) c3))),
    by rw [hfz, hfz, hfz, hfz]; exact f0, by rw [hfz, hfz, hfz, hfz]; exact f1, by rw [hfz, hfz, hfz, hfz]; exact f2, by rw [hfz, hfz, hfz, hfz]; exact f3, Nat.lt_of_lt_of_le (cell_lt c0) hs⟩
/-- behind the call of Parse: the tree in its variable, what was told; the result's own block as it was -/
structure MidX (T : List Words.T) (L : Value) (rb : Nat) (w wx : World) (p hi q : Nat) (x : E) (s : St) (sl g : Value) : Prop where
  red : Ex.RExpr ((T.drop p).take (hi - p)) 0 s00 (x, s)
  box : Box wx q (ansE x s) sl
  res : Box wx w.heap.size E.none (.slice none 0 0)
  qq : w.heap.size < q
  fst : Forest wx (fun b => w.heap.size < b) (ansE x s).a sl
  say : Says (w.heap.size + 1) wx g wExpr s.bad s.err
  rd : SR T L rb wx p .ok
  old : Below w.heap.size w wx
/-- what Parse tells, in the world behind it; w1: the world ahead of it -/
structure PrX (T : List Words.T) (L : Value) (rb : Nat) (w w1 w5 : World) (p hi : Nat) (x : E) (s : St) (sl g : Value) : Prop where
  red : Ex.RExpr ((T.drop p).take (hi - p)) 0 s00 (x, s)
  fst : Forest w5 (fun b => w1.heap.size ≤ b) (ansE x s).a sl
  say : Says w1.heap.size w5 g wExpr s.bad s.err
  rd : SR T L rb w5 p .ok
  res : Box w5 w.heap.size E.none (.slice none 0 0)
  bel : Below w1.heap.size w1 w5
  old : Below w.heap.size w w1
  sz : w.heap.size < w1.heap.size
theorem PrX.late {T : List Words.T} {L : Value} {rb : Nat} {w w1 w5 : World} {p hi : Nat} {x : E} {s : St} {sl g : Value} (h : PrX T L rb w w1 w5 p hi x s sl g) (t : TypeId) : MidX T L rb w (w5.alloc (.cells #[.int .i64 (ansE x s).kind, .int .i64 (ansE x s).n, .string ⟨(ansE x s).name.toArray⟩, sl] t)) p hi w5.heap.size x s sl g := by
  have hb := alloc_below w5 (.cells #[.int .i64 (ansE x s).kind, .int .i64 (ansE x s).n, .string ⟨(ansE x s).name.toArray⟩, sl] t)
  have h1 := h.sz
  have h2 := h.bel.size
  refine ⟨h.red, box_new w5 (ansE x s) sl t, h.res.keep (hb.block _ h.res.lt) hb.size, by omega, (h.fst.old hb).mono (fun b hb _ => by omega), ?_, h.rd.below hb, bthen (bthen h.old h.bel) hb⟩
  rcases h.say.below hb with h0 | ⟨h0, b, hb0, hr⟩
  · exact .inl h0
  · exact .inr ⟨h0, b, by omega, hr⟩
theorem PrX.early {T : List Words.T} {L : Value} {rb : Nat} {w w0 w1 w5 : World} {p hi : Nat} {x : E} {s : St} {sl g : Value} {z0 z1 z2 z3 : Value} (h : PrX T L rb w w1 w5 p hi x s sl g) (hw0 : w0.heap.size < w1.heap.size) (hw : w.heap.size < w0.heap.size) (hL : L.ownBlock ≠ some w0.heap.size) (hrb : rb < w.heap.size)
    (hc : w5.cell? ⟨w0.heap.size, 0, none⟩ = some z0 ∧ w5.cell? ⟨w0.heap.size, 1, none⟩ = some z1 ∧ w5.cell? ⟨w0.heap.size, 2, none⟩ = some z2 ∧ w5.cell? ⟨w0.heap.size, 3, none⟩ = some z3) (hf : w5.frozen? ⟨w0.heap.size, 0, none⟩ = false ∧ w5.frozen? ⟨w0.heap.size, 1, none⟩ = false ∧ w5.frozen? ⟨w0.heap.size, 2, none⟩ = false ∧ w5.frozen? ⟨w0.heap.size, 3, none⟩ = false) :
    MidX T L rb w ((((w5.setCell ⟨w0.heap.size, 0, none⟩ (.int .i64 (ansE x s).kind)).setCell ⟨w0.heap.size, 1, none⟩ (.int .i64 (ansE x s).n)).setCell ⟨w0.heap.size, 2, none⟩ (.string ⟨(ansE x s).name.toArray⟩)).setCell ⟨w0.heap.size, 3, none⟩ sl) p hi w0.heap.size x s sl g := by
  have hb := but_set4 w0.heap.size w5 (.int .i64 (ansE x s).kind) (.int .i64 (ansE x s).n) (.string ⟨(ansE x s).name.toArray⟩) sl
  have h1 := h.sz
  have h2 := h.bel.size
  refine ⟨h.red, box_set4 _ _ hc hf, h.res.but hb (by omega), hw, (h.fst.keep (fun b hS hl => hb.block b hl (fun e => by injection e with e; omega)) (fun b hS hl => by omega)), ?_, h.rd.other hb (by omega) hL, (bthen h.old h.bel).trans (hb.below (by omega) (by have := h.old.size; omega))⟩
  rcases h.say with h0 | ⟨h0, b, hb0, hg, k0, k1, k2⟩
  · exact .inl h0
  · have hc : ∀ o, _ = w5.cell? ⟨b, o, none⟩ := fun o => hb.cell (p := ⟨b, o, none⟩) (cell_lt k0) (show b ≠ w0.heap.size by omega)
    exact .inr ⟨h0, b, by omega, hg, (hc 0).trans k0, (hc 1).trans k1, (hc 2).trans k2⟩
set_option maxHeartbeats 8000000 in
set_option maxRecDepth 100000 in
theorem exprOk_any (HPARSE : ParseSpec) (T : List Words.T) (L : Value) (rb : Nat) (w : World) (p hi : Nat) (h : SR T L rb w p .ok) (hG : Glob w) (h1 : p ≤ hi) (h2 : hi ≤ T.length) : Calls Tryz.prog 56 #[.pointer (some ⟨rb, 0, none⟩), .int .i64 hi] w fun e w' => ExprPost T L rb w p hi e w' := by
  have hl := h.lt
  have ht := h.ht
  obtain ⟨la, lc, hLe, hlc, htk, hob⟩ := h.tks.cut p hi h1 h2
  have hsl : ∀ W, (Instr.slice 74 (.slice la T.length lc) (some (.int .i64 p)) (some (.int .i64 hi)) none).run Tryz.prog W = .ok (.slice (if lc = p then la else la.map (·.add (p * 4))) (hi - p) (lc - p)) W := fun W => runT_slice2 (w := W) la T.length lc p hi h1 (by omega)
  have hlen : ((T.drop p).take (hi - p)).length = hi - p := by rw [List.length_take, List.length_drop]; omega
  have ba := alloc_below w (.cells #[.int .i64 0, .int .i64 0, .string ⟨#[]⟩, .slice none 0 0] 26)
  have hz : (w.alloc (.cells #[.int .i64 0, .int .i64 0, .string ⟨#[]⟩, .slice none 0 0] 26)).heap.size = w.heap.size + 1 := by simp
  have hr1 : Box (w.alloc (.cells #[.int .i64 0, .int .i64 0, .string ⟨#[]⟩, .slice none 0 0] 26)) w.heap.size E.none (.slice none 0 0) := box_new w E.none (.slice none 0 0) 26
  have H1 := hide (And.intro (h.below ba) (And.intro (hG.below ba) ba))
  have HGW := hide hG
  have HOB : Hid (∀ q, (Value.slice (if lc = p then la else la.map (·.add (p * 4))) (hi - p) (lc - p)).ownBlock = some q → q < w.heap.size) := hide (fun q hq => h.lw q (hob q hq))
  have HTK := hide htk
  have HLW := hide h.lw
  obtain ⟨g, hg, hs⟩ := (h.below ba).ce
  obtain rfl : g = .nilIface := hs
  have c0 := (h.below ba).c0
  have c1 := (h.below ba).c1
  generalize hsa : (if lc = p then la else la.map (·.add (p * 4))) = sa at *
  generalize hsn : hi - p = sn at *
  generalize hsc : lc - p = sc at *
  clear hob htk ba hG h hsa hsc
  have HR1 := hide hr1
  clear hr1
  subst hLe
  go_enter Tryz.func56, Tryz.ntmps56
  go_wp2_with fail
  generalize hW1 : (w.alloc (.cells #[.int .i64 0, .int .i64 0, .string ⟨#[]⟩, .slice none 0 0] 26)) = W1 at *
  have HW1 := hide hW1
  clear hW1
  go_cut [5, 6, 7] (fun s5 s6 s7 wx => ∃ x s sl q, s5 = .pointer (some ⟨q, 0, none⟩) ∧ s6 = .int .i64 (ansN s) ∧ Hid (MidX T (.slice la T.length lc) rb w wx p hi q x s sl s7))
  case first =>
    have hne : (Value.slice la T.length lc).ownBlock ≠ some W1.heap.size := fun e => by have := unhide HLW _ e; omega
    have HP : Hid (∀ W, Below W1.heap.size W1 W → Calls Tryz.prog 99 #[.slice sa sn sc] W fun e w' => ∃ x s sa5 sn5 sc5 g, e = .returned (.tuple #[treeV (ansE x s) (.slice sa5 sn5 sc5), .int .i64 (ansN s), g]) ∧ PrX T (.slice la T.length lc) rb w W w' p hi x s (.slice sa5 sn5 sc5) g ∧ Below W.heap.size W w') := hide (fun W hW => by
      have hb0 := bthen (unhide H1).2.2 hW
      refine (HPARSE _ _ W (by rw [hlen]; omega) ((unhide HTK).below hb0) (fun q hq => Nat.lt_of_lt_of_le (unhide HOB q hq) hb0.size)).mono ?_
      rintro e w' ⟨x, s, sl, g, hr, rfl, hf, hs, hb⟩
      obtain ⟨a5, c5, rfl⟩ := hf.shape
      have hzz := hW.size
      exact ⟨x, s, _, _, _, g, rfl, ⟨by rw [hsn]; exact hr, hf, hs, ((unhide H1).1.below hW).below hb, ((unhide HR1).keep (hW.block _ (unhide HR1).lt) hW.size).keep (hb.block _ (by omega)) hb.size, hb, hb0, by omega⟩, hb⟩)
    have HXa := hide (unhide HP W1.drew (drew_belowS W1))
    have HXb : Hid (∀ z0 z1 z2 z3 t, Calls Tryz.prog 99 #[.slice sa sn sc] (W1.alloc (.cells #[z0, z1, z2, z3] t)).drew fun e w' => ∃ x s sa5 sn5 sc5 g, e = .returned (.tuple #[treeV (ansE x s) (.slice sa5 sn5 sc5), .int .i64 (ansN s), g]) ∧ (w'.cell? ⟨W1.heap.size, 0, none⟩ = some z0 ∧ w'.cell? ⟨W1.heap.size, 1, none⟩ = some z1 ∧ w'.cell? ⟨W1.heap.size, 2, none⟩ = some z2 ∧ w'.cell? ⟨W1.heap.size, 3, none⟩ = some z3) ∧ (w'.frozen? ⟨W1.heap.size, 0, none⟩ = false ∧ w'.frozen? ⟨W1.heap.size, 1, none⟩ = false ∧ w'.frozen? ⟨W1.heap.size, 2, none⟩ = false ∧ w'.frozen? ⟨W1.heap.size, 3, none⟩ = false) ∧ MidX T (.slice la T.length lc) rb w ((((w'.setCell ⟨W1.heap.size, 0, none⟩ (.int .i64 (ansE x s).kind)).setCell ⟨W1.heap.size, 1, none⟩ (.int .i64 (ansE x s).n)).setCell ⟨W1.heap.size, 2, none⟩ (.string ⟨(ansE x s).name.toArray⟩)).setCell ⟨W1.heap.size, 3, none⟩ (.slice sa5 sn5 sc5)) p hi W1.heap.size x s (.slice sa5 sn5 sc5) g) := hide (fun z0 z1 z2 z3 t => (unhide HP _ (bthen (alloc_below W1 _) (drew_belowS _))).mono (by
      rintro e w' ⟨x, s, sa5, sn5, sc5, g, he, hpr, hb⟩
      obtain ⟨hc, hf, hlt, hbb⟩ := box4_at hb
      have hs1 : (W1.alloc (.cells #[z0, z1, z2, z3] t)).drew.heap.size = W1.heap.size + 1 := by show (W1.alloc _).heap.size = _; simp
      exact ⟨x, s, sa5, sn5, sc5, g, he, hc, hf, hpr.early (w0 := W1) (by omega) (by omega) hne (by omega) hc hf⟩))
    clear HP
    have hW1s : rb < W1.heap.size := by omega
    clear hz
    go_region_law (first
      | (go_simp; go_at_call 99; with_reducible refine (unhide HXa).mono ?_; rintro ev w5 ⟨x5, s5, sa5, sn5, sc5, g5, rfl, hpr, hb5⟩; replace hpr := hide hpr; clear hb5; dsimp only)
      | (go_simp; go_at_call 99; with_reducible refine (unhide HXb _ _ _ _ _).mono ?_; rintro ev w5 ⟨x5, s5, sa5, sn5, sc5, g5, rfl, ⟨q0, q1, q2, q3⟩, ⟨k0, k1, k2, k3⟩, hmx⟩; replace hmx := hide hmx; dsimp only))
    all_goals (
      go_wp2_with fail
      go_meet
      case rel => first
        | exact ⟨x5, s5, _, _, rfl, rfl, hide ((unhide hpr).late 26)⟩
        | exact ⟨x5, s5, _, _, rfl, rfl, hmx⟩)
  case rest =>
    obtain ⟨x, s, sl, q, rfl, rfl, HM⟩ := hcut
    have hbl := beh_le (unhide HM).red h1 h2
    have hqq := (unhide HM).qq
    obtain ⟨xa, xc, hxs⟩ := (unhide HM).fst.shape
    generalize hxl : (ansE x s).a.length = xl at hxs
    subst hxs
    clear hxl
    have HPOST : Hid (∀ w6, SR T (.slice la T.length lc) rb w6 (behP p s) (behE p s) → But rb wc w6 → Box w6 q (ansE x s) (.slice xa xl xc) ∧ Box w6 w.heap.size E.none (.slice none 0 0) ∧ (SR T (.slice la T.length lc) rb ((((w6.setCell ⟨w.heap.size, 0, none⟩ (.int .i64 (ansE x s).kind)).setCell ⟨w.heap.size, 1, none⟩ (.int .i64 (ansE x s).n)).setCell ⟨w.heap.size, 2, none⟩ (.string ⟨(ansE x s).name.toArray⟩)).setCell ⟨w.heap.size, 3, none⟩ (.slice xa xl xc)) (behP p s) (behE p s) ∧ Forest ((((w6.setCell ⟨w.heap.size, 0, none⟩ (.int .i64 (ansE x s).kind)).setCell ⟨w.heap.size, 1, none⟩ (.int .i64 (ansE x s).n)).setCell ⟨w.heap.size, 2, none⟩ (.string ⟨(ansE x s).name.toArray⟩)).setCell ⟨w.heap.size, 3, none⟩ (.slice xa xl xc)) (fun b => w.heap.size ≤ b) (ansE x s).a (.slice xa xl xc) ∧ But rb w ((((w6.setCell ⟨w.heap.size, 0, none⟩ (.int .i64 (ansE x s).kind)).setCell ⟨w.heap.size, 1, none⟩ (.int .i64 (ansE x s).n)).setCell ⟨w.heap.size, 2, none⟩ (.string ⟨(ansE x s).name.toArray⟩)).setCell ⟨w.heap.size, 3, none⟩ (.slice xa xl xc)))) := hide (by
      intro w6 hs6 hb6
      have hbs := but_set4 w.heap.size w6 (.int .i64 (ansE x s).kind) (.int .i64 (ansE x s).n) (.string ⟨(ansE x s).name.toArray⟩) (.slice xa xl xc)
      have hsz := (unhide HM).old.size
      have hbx := (unhide HM).box.but hb6 (by omega)
      have hrs := (unhide HM).res.but hb6 (by omega)
      have hne : (Value.slice la T.length lc).ownBlock ≠ some w.heap.size := fun e => by have := unhide HLW _ e; omega
      have h6s := hb6.size
      refine ⟨hbx, hrs, hs6.otherI hbs (by omega) hne hrs.c0, ?_, ?_⟩
      · have hf6 : Forest w6 (fun b => w.heap.size < b) (ansE x s).a (.slice xa xl xc) := (unhide HM).fst.keep (fun b hS hl => hb6.block b hl (fun e => by injection e with e; omega)) (fun b hS hl => hS)
        exact hf6.keep (fun b hS hl => hbs.block b hl (fun e => by injection e with e; omega)) (fun b hS hl => by omega)
      · refine ⟨hbs.os.trans (hb6.os.trans (unhide HM).old.os), hbs.tape.trans (hb6.tape.trans (unhide HM).old.tape), hbs.output.trans (hb6.output.trans (unhide HM).old.output), Nat.le_trans hsz (Nat.le_trans h6s hbs.size), fun i hi hne => ?_⟩
        exact (hbs.block i (by omega) (fun e => by injection e with e; omega)).trans ((hb6.block i (by omega) hne).trans ((unhide HM).old.block i hi)))
    have HRED := hide (unhide HM).red
    by_cases he : s.err = 0
    · have hP : behP p s = p + s.pos := if_pos he
      have hE : behE p s = .ok := if_pos he
      have hN : ansN s = s.pos := if_pos he
      obtain rfl := says_nilS (unhide HM).say he
      have HT := hide (tookOk_any T (.slice la T.length lc) rb wc p s.pos .ok (unhide HM).rd hbl.1)
      rw [hN]
      rw [← hP] at HT
      have HOK : Hid (SE.ok = behE p s) := hide hE.symm
      rw [unhide HOK] at HT
      clear hP hE hN he
      generalize s.pos = sp at *
      go_wp2_with fail
      refine (unhide HT).mono ?_
      rintro ev w6 ⟨rfl, h6, hb6⟩
      obtain ⟨hbx, hrs, hpost⟩ := unhide HPOST w6 h6 hb6
      have HP6 := hide hpost
      obtain ⟨m0, m1, m2, m3, -, -, -, -, -⟩ := hbx
      obtain ⟨r0, r1, r2, r3, z0, z1, z2, z3, hrl⟩ := hrs
      clear h6 hb6 hpost
      have hqne : ¬ q = w.heap.size := by omega
      have hqne2 : ¬ w.heap.size = q := by omega
      go_wp2
      exact bodyPost_ret (v := treeV (ansE x s) (.slice xa xl xc)) (by simp [results, Tryz.results56, go_sem, r0, r1, r2, r3]) rfl ⟨x, s, .slice xa xl xc, unhide HRED, rfl, (unhide HP6).2.1, (unhide HP6).1, (unhide HP6).2.2⟩
    · have hP : behP p s = p + s.bad := if_neg he
      have hE : behE p s = .sub (p + s.bad) s.bad s.err := if_neg he
      obtain ⟨b2, hb2, hgg, hl2⟩ := says_leaf (unhide HM).say he
      subst hgg
      have hGc := (unhide HGW).below (unhide HM).old
      have HT := hide (tookErr_any T (.slice la T.length lc) rb wc p (ansN s) b2 s.bad s.err (unhide HM).rd hGc hl2 (by omega) hbl.2)
      rw [← hP] at HT
      have HOK : Hid (SE.sub (behP p s) s.bad s.err = behE p s) := hide (by rw [hE, hP])
      rw [unhide HOK] at HT
      clear hP hE he hl2 hb2
      go_wp2_with fail
      refine (unhide HT).mono ?_
      rintro ev w6 ⟨rfl, h6, hb6⟩
      obtain ⟨hbx, hrs, hpost⟩ := unhide HPOST w6 h6 hb6
      have HP6 := hide hpost
      obtain ⟨m0, m1, m2, m3, -, -, -, -, -⟩ := hbx
      obtain ⟨r0, r1, r2, r3, z0, z1, z2, z3, hrl⟩ := hrs
      clear h6 hb6 hpost
      have hqne : ¬ q = w.heap.size := by omega
      have hqne2 : ¬ w.heap.size = q := by omega
      go_wp2
      exact bodyPost_ret (v := treeV (ansE x s) (.slice xa xl xc)) (by simp [results, Tryz.results56, go_sem, r0, r1, r2, r3]) rfl ⟨x, s, .slice xa xl xc, unhide HRED, rfl, (unhide HP6).2.1, (unhide HP6).1, (unhide HP6).2.2⟩
end Go.Proofs.YtdpjipphbhomkaaGreatDoor.Line

namespace Go.Proofs.YtdpjipphbhomkaaGreatDoor.Line
open Go.ChangeShapes Go.WideShapes Go.ChangeAt Go.RowKit
open Ex (E St)
set_option linter.unusedVariables false

def dimR (T : List Words.T) (p : Nat) (er : SE) : Nat × Nat × SE :=
  if isKind T p er 2 then (if numAt T p true = 0 then (0, p, failE er p 1) else (numAt T p true, p + 1, er)) else (0, p, failE er p 2)
theorem isKind_ok {T : List Words.T} {p : Nat} {er : SE} {k : Nat} (h : isKind T p er k = true) : er = .ok := by
  unfold isKind at h
  rw [Bool.and_eq_true] at h
  exact of_decide_eq_true h.1
theorem isNext_ok {T : List Words.T} {p : Nat} {er : SE} {c : List UInt8} (h : isNext T p er c = true) : er = .ok := by
  unfold isNext at h
  rw [Bool.and_eq_true] at h
  exact of_decide_eq_true h.1
theorem isKind_bad {T : List Words.T} {p : Nat} {er : SE} {k : Nat} (h : er ≠ .ok) : isKind T p er k = false := by
  unfold isKind; rw [decide_eq_false h]; rfl
theorem failE_bad (er : SE) (p k : Nat) : failE er p k ≠ .ok := by
  unfold failE
  split
  · simp
  · assumption
theorem failE_keep {er : SE} (h : er ≠ .ok) (p k : Nat) : failE er p k = er := if_neg h
set_option maxHeartbeats 4000000 in
set_option maxRecDepth 100000 in
theorem dim_any (T : List Words.T) (L : Value) (rb : Nat) (w : World) (p : Nat) (er : SE) (h : SR T L rb w p er) (hN : NumOk T) : Calls Tryz.prog 129 #[.pointer (some ⟨rb, 0, none⟩)] w fun e w' => e = .returned (.int .i64 (dimR T p er).1) ∧ SR T L rb w' (dimR T p er).2.1 (dimR T p er).2.2 ∧ But rb w w' := by
  have HK : Hid (∀ n, Calls Tryz.prog 98 #[.pointer (some ⟨rb, 0, none⟩), .int .i64 2] (w.drewN n) fun e w' => e = .returned (.bool (isKind T p er 2)) ∧ ∃ m, w' = (w.drewN n).drewN m) := hide (fun n => seesKind_any T L rb (w.drewN n) p er 2 (h.drewN n))
  have H0 := hide h
  have ht := h.ht
  cases hb : isKind T p er 2 with
  | false =>
    have hd : dimR T p er = (0, p, failE er p 2) := by unfold dimR; rw [hb]; rfl
    rw [hd]
    rw [hb] at HK
    have HNM : Hid (∀ W, SR T L rb W p er → Calls Tryz.prog 101 #[.pointer (some ⟨rb, 0, none⟩)] W fun e w' => e = .returned (.int .i64 0) ∧ SR T L rb w' p (failE er p 2) ∧ But rb W w') := hide (fun W hW => by have := number_any T L rb W p er hW; rw [hb] at this; exact this)
    clear h hb hd
    go_enter Tryz.func129, Tryz.ntmps129
    go_wp2_with fail
    go_quiet ((go_at_call 98; refine Calls.quiet_of (unhide HK _)))
    have H1 := hide ((unhide H0).drewN nq)
    have HB1 := hide ((but_refl rb w).drewN nq)
    generalize w.drewN nq = W1 at *
    go_wp2_with fail
    refine (unhide HNM W1 (unhide H1)).mono ?_
    rintro e w2 ⟨rfl, h2, hb2⟩
    have H2 := hide (And.intro h2 ((unhide HB1).trans hb2))
    clear h2 hb2
    go_wp2
    go_ret
    exact ⟨rfl, unhide H2⟩
  | true =>
    have hok := isKind_ok hb
    subst hok
    have hlt := isKind_lt hb
    have hlt2 : (p : Int) < T.length := by omega
    obtain ⟨b, o, c, hLe, w0, w1, w3⟩ := h.tks.word hlt
    have hnv : numAt T p true = T[p].n := by unfold numAt; rw [if_pos rfl, List.getElem?_eq_getElem hlt]
    have hnl := numAt_le hN p true
    have c0 := h.c0
    have c1 := h.c1
    rw [hb] at HK
    by_cases hz : T[p].n = 0
    · have hd : dimR T p .ok = (0, p, failE .ok p 1) := by unfold dimR; rw [hb, if_pos rfl, hnv, if_pos hz]
      rw [hd]
      rw [hz] at w3
      have HNM : Hid (∀ W, SR T L rb W p (failE .ok p 1) → Calls Tryz.prog 101 #[.pointer (some ⟨rb, 0, none⟩)] W fun e w' => e = .returned (.int .i64 0) ∧ SR T L rb w' p (failE .ok p 1) ∧ But rb W w') := hide (fun W hW => by
        have := number_any T L rb W p (failE .ok p 1) hW
        rw [isKind_bad (failE_bad _ _ _)] at this
        have e : mustE false (failE .ok p 1) p = failE .ok p 1 := (show failE (failE .ok p 1) p 2 = failE .ok p 1 from failE_keep (failE_bad _ _ _) _ _)
        rw [e] at this
        exact this)
      subst hLe
      clear h hb hd hz hnv hnl w0 w1
      go_enter Tryz.func129, Tryz.ntmps129
      go_wp2_with fail
      go_quiet ((go_at_call 98; refine Calls.quiet_of (unhide HK _)))
      have H1 := hide ((unhide H0).drewN nq)
      have HB1 := hide ((but_refl rb w).drewN nq)
      generalize w.drewN nq = W1 at *
      go_wp2_with fail
      refine (fail_any T _ rb W1 p .ok 1 (unhide H1)).mono ?_
      rintro e w2 ⟨rfl, h2, hb2⟩
      have H2 := hide (And.intro h2 ((unhide HB1).trans hb2))
      clear h2 hb2
      go_wp2_with fail
      refine (unhide HNM w2 (unhide H2).1).mono ?_
      rintro e w3 ⟨rfl, h3, hb3⟩
      have H3 := hide (And.intro h3 ((unhide H2).2.trans hb3))
      clear h3 hb3
      go_wp2
      go_ret
      exact ⟨rfl, unhide H3⟩
    · have hd : dimR T p .ok = (T[p].n, p + 1, .ok) := by unfold dimR; rw [hb, if_pos rfl, hnv, if_neg hz]
      rw [hd]
      rw [hnv] at hnl
      have HNM : Hid (∀ W, SR T L rb W p .ok → Calls Tryz.prog 101 #[.pointer (some ⟨rb, 0, none⟩)] W fun e w' => e = .returned (.int .i64 T[p].n) ∧ SR T L rb w' (p + 1) .ok ∧ But rb W w') := hide (fun W hW => by
        have := number_any T L rb W p .ok hW
        rw [hb, hnv] at this
        exact this)
      have hzb : ((T[p].n : Int) == 0) = false := by rw [beq_eq_false_iff_ne]; omega
      have hzi : ¬ (T[p].n : Int) = 0 := by omega
      subst hLe
      clear h hb hd hz hnv w0 w1
      generalize T[p].n = m at *
      go_enter Tryz.func129, Tryz.ntmps129
      go_wp2_with fail
      go_quiet ((go_at_call 98; refine Calls.quiet_of (unhide HK _)))
      have H1 := hide ((unhide H0).drewN nq)
      have HB1 := hide ((but_refl rb w).drewN nq)
      generalize w.drewN nq = W1 at *
      go_wp2_with fail
      refine (unhide HNM W1 (unhide H1)).mono ?_
      rintro e w2 ⟨rfl, h2, hb2⟩
      have H2 := hide (And.intro h2 ((unhide HB1).trans hb2))
      clear h2 hb2
      go_wp2
      go_ret
      exact ⟨rfl, unhide H2⟩
/-! ### rows of numbers -/
abbrev I64 : TypeId := 2
abbrev IST : TypeId := 59
theorem infoI : (Tryz.prog.info? I64).map (fun i => (i.zero, i.size, i.bytes)) = some (some (.int .i64 0), 1, 8) := by kernel_rfl
def ints (l : List Nat) : List Value := l.map fun (n : Nat) => .int .i64 (n : Int)
def OwnN (base : Nat) (w : World) (v : Value) (l : List Nat) : Prop := w.ownsRow base I64 1 v l.length (ints l)
theorem OwnN.below {base : Nat} {w w' : World} {v : Value} {l : List Nat} (h : OwnN base w v l) (hb : Below w.heap.size w w') : OwnN base w' v l := ownsRow_below h hb
theorem OwnN.shape {base : Nat} {w : World} {v : Value} {l : List Nat} (h : OwnN base w v l) : ∃ a cap, v = .slice a l.length cap := by
  rcases h.2 with ⟨rfl, h5⟩ | ⟨g, cap, cur, rfl, _⟩
  · exact ⟨none, 0, by rw [h5]⟩
  · exact ⟨_, _, rfl⟩
theorem OwnN.but {base rb : Nat} {w w' : World} {v : Value} {l : List Nat} (h : OwnN base w v l) (hb : But rb w w') (hr : rb < base) : OwnN base w' v l := by
  obtain ⟨h1, h2⟩ := h
  refine ⟨h1, ?_⟩
  rcases h2 with h2 | ⟨g, cap, cur, hv, hg, hh, r⟩
  · exact .inl h2
  · refine .inr ⟨g, cap, cur, hv, hg, ?_, r⟩
    rw [hb.block g (by
      rcases Nat.lt_or_ge g w.heap.size with h | h
      · exact h
      · rw [Array.getElem?_eq_none h] at hh; cases hh) (fun e => by injection e with e; omega)]
    exact hh
theorem OwnN.nil (base : Nat) (w : World) : OwnN base w (.slice none 0 0) [] := World.ownsRow_nil _ _ _ _
theorem OwnN.one (base : Nat) (w : World) (n : Nat) (hb : base ≤ w.heap.size) : OwnN base (w.alloc (.cells #[.int .i64 n] I64)) (.slice (some ⟨w.heap.size, 0, none⟩) 1 1) [n] := World.ownsRow_lit (e := I64) (size := 1) (base := base) w #[.int .i64 n] 1 hb (by decide) rfl
theorem append_n {base rb : Nat} {w : World} {v : Value} {l : List Nat} {n : Nat} (hs : OwnN base w v l) (hb : base ≤ w.heap.size) (hl : l.length + 1 ≤ 1000000) :
    ∃ v' w', (Builtin.append_ #[IST, IST] IST #[v, .slice (some ⟨w.heap.size, 0, none⟩) 1 1]).run Tryz.prog (w.alloc (.cells #[.int .i64 n] I64)) = .ok v' w' ∧ OwnN base w' v' (l ++ [n]) ∧ Below base w w' ∧ (∀ q, v.ownBlock = some q → But q w w') := by
  obtain ⟨i0, hi, hz0, hz1, hz2⟩ := info_parts infoI
  obtain ⟨v', w', hr, ho, hgr, _, hat⟩ := run_append_own_at (P := Tryz.prog) (w.alloc (.cells #[.int .i64 n] I64)) base IST IST I64 i0 _ 1 8 Tryz.underlying59 hi hz0 hz1 hz2 rfl (by decide) v l.length (ints l) (World.ownsRow.alloc hs _) ⟨w.heap.size, 0, none⟩ 1 1 [.int .i64 n] rfl
    (World.news_of_block (cs := #[.int .i64 n]) (t := I64) (fr := (0, 0)) (by show (w.heap.push _)[w.heap.size]? = _; exact Array.getElem?_push_size))
    (by
      intro u hu
      obtain rfl := List.mem_singleton.1 hu
      rfl) (by unfold maxLen; omega) (by omega) (by simp; omega)
  refine ⟨v', w', hr, ?_, ((Below.refl _ _).alloc hb _).grown hgr (by simp; omega) (fun j hj => (World.ownsRow.lt hs j hj).1), fun q hq => ?_⟩
  rotate_left
  · rw [hq] at hgr
    exact (but_below (alloc_below w _)).trans hgr
  unfold OwnN
  have : ints (l ++ [n]) = ints l ++ [.int .i64 n] := by simp [ints]
  rw [this, List.length_append]
  exact ho
theorem OwnN.head {base : Nat} {w : World} {v : Value} {l : List Nat} (h : OwnN base w v l) (hl : 1 ≤ l.length) : ∃ q k, v.ownBlock = some q ∧ base ≤ q ∧ w.cell? ⟨q, 0, none⟩ = some (.int .i64 k) := by
  have h' := h
  rcases h'.2 with ⟨_, h5⟩ | ⟨g, cap, cur, rfl, hg, hh, hc, hm, hcs, ht⟩
  · omega
  · have hat : (ints l)[0]? = some (.int .i64 (l[0]'(by omega) : Int)) := by simp [ints, List.getElem?_eq_getElem (show 0 < l.length by omega)]
    exact ⟨g, _, rfl, hg, (World.ownsRow.cellAt h 0 (by show 0 < l.length * 1; omega)).trans hat⟩
/-- the numbers behind the first, as they are read -/
def moreR (T : List Words.T) : Nat → List Nat → Nat → SE → List Nat × Nat × SE
  | 0, l, p, er => (l, p, er)
  | f + 1, l, p, er => if isNext T p er [44] then (if l.length = 4 then ([], p, failE er p 4) else moreR T f (l ++ [(dimR T (p + 1) er).1]) (dimR T (p + 1) er).2.1 (dimR T (p + 1) er).2.2) else (l, nextP (isNext T p er [41]) p, mustE (isNext T p er [41]) er p)
def dimsR (T : List Words.T) (p : Nat) (er : SE) : List Nat × Nat × SE :=
  if isNext T p er [40] then moreR T 5 [(dimR T (p + 1) er).1] (dimR T (p + 1) er).2.1 (dimR T (p + 1) er).2.2 else ([], p, er)
theorem seesT (T : List Words.T) (L : Value) (rb : Nat) (w : World) (p : Nat) (er : SE) (c : List UInt8) (b : Bool) (h : SR T L rb w p er) (hc : isNext T p er c = b) : Calls Tryz.prog 128 #[.pointer (some ⟨rb, 0, none⟩), .string ⟨c.toArray⟩] w fun e w' => e = .returned (.bool b) ∧ ∃ n, w' = w.drewN n := by
  have := sees_any T L rb w p er c h
  rw [hc] at this
  exact this
structure MidD (T : List Words.T) (L : Value) (rb : Nat) (w wr : World) (R : List Nat × Nat × SE) (v : Value) (l : List Nat) (p : Nat) (er : SE) (k : Nat) : Prop where
  own : OwnN w.heap.size wr v l
  rd : SR T L rb wr p er
  old : But rb w wr
  run : moreR T k l p er = R
  len : l.length + k = 6
  lo : 1 ≤ l.length
  l4 : l.length ≤ 4
theorem wpList_append_runG (t : TypeId) {ops : Array Oper} {rest : List Oper} {o : Oper} {a : Act} {w : World} {Q : Exit → Act → World → Prop} (hgd : o.guard = none) (s x : Operand)
    (ho : o.op = .call { callee := .builtin .append, args := #[s, x], argTypes := #[t, t] }) (hty : o.type = t) (sv xv : Value) (hs : a.eval s = sv) (hx : a.eval x = xv) (v' : Value) (w' : World)
    (hr : (Builtin.append_ #[t, t] t #[sv, xv]).run Tryz.prog w = .ok v' w') (h : wpList Tryz.prog ops Q rest (a.put o.dst v') w') : wpList Tryz.prog ops Q (o :: rest) a w := by
  refine wpList_plain hgd fun K hK => ?_
  unfold Oper.wp execOp
  simp only [ho, hty, resolve, invoke, builtin, Sem.run_bind, Sem.run_pure, Result.andThen_ok, List.map_toArray, List.map_cons, List.map_nil, hs, hx, hr]
  exact hK _ _ h
set_option maxHeartbeats 8000000 in
set_option maxRecDepth 100000 in
theorem dims_any (T : List Words.T) (L : Value) (rb : Nat) (w : World) (p : Nat) (er : SE) (h : SR T L rb w p er) (hN : NumOk T) : Calls Tryz.prog 97 #[.pointer (some ⟨rb, 0, none⟩)] w fun e w' => ∃ v, e = .returned v ∧ OwnN w.heap.size w' v (dimsR T p er).1 ∧ SR T L rb w' (dimsR T p er).2.1 (dimsR T p er).2.2 ∧ But rb w w' := by
  cases hb : isNext T p er [40] with
  | false =>
    have hd : dimsR T p er = ([], p, er) := by unfold dimsR; rw [hb]; rfl
    rw [hd]
    have HS := hide (takesF T L rb w p er [40] h hb)
    clear h hb hd
    go_enter Tryz.func97, Tryz.ntmps97
    go_wp2_with fail
    refine (unhide HS).mono ?_
    rintro e w1 ⟨rfl, h1, hb1⟩
    have H1 := hide (And.intro h1 hb1)
    clear h1 hb1
    go_wp2
    go_ret
    exact ⟨_, rfl, OwnN.nil _ _, unhide H1⟩
  | true =>
    have hd : dimsR T p er = moreR T 5 [(dimR T (p + 1) er).1] (dimR T (p + 1) er).2.1 (dimR T (p + 1) er).2.2 := by unfold dimsR; rw [hb]; rfl
    rw [hd]
    have HS := hide (takesT T L rb w p er [40] h hb)
    have hl := h.lt
    have HLW := hide h.lw
    have HD : Hid (∀ W, SR T L rb W (p + 1) er → _) := hide (fun W hW => dim_any T L rb W (p + 1) er hW hN)
    obtain ⟨R, hR⟩ : ∃ R, moreR T 5 [(dimR T (p + 1) er).1] (dimR T (p + 1) er).2.1 (dimR T (p + 1) er).2.2 = R := ⟨_, rfl⟩
    rw [hR]
    have HR := hide hR
    generalize dimR T (p + 1) er = D at *
    clear h hb hd hR
    have HNN := hide hN
    clear hN
    go_enter Tryz.func97, Tryz.ntmps97
    go_wp2_with fail
    refine (unhide HS).mono ?_
    rintro e w1 ⟨rfl, h1, hb1⟩
    have H1 := hide (And.intro h1 hb1)
    clear h1 hb1
    go_wp2_with fail
    refine (unhide HD w1 (unhide H1).1).mono ?_
    rintro e w2 ⟨rfl, h2, hb2⟩
    have ba := alloc_below w2 (.cells #[.int .i64 D.1] I64)
    have hs2 := (unhide H1).2.size
    have hs3 := hb2.size
    have HM : Hid (MidD T L rb w (w2.alloc (.cells #[.int .i64 D.1] I64)) R (.slice (some ⟨w2.heap.size, 0, none⟩) 1 1) [D.1] D.2.1 D.2.2 5) := hide ⟨OwnN.one _ _ _ (by omega), h2.below ba, ((unhide H1).2.trans hb2).trans (but_below ba), unhide HR, rfl, Nat.le_refl _, by simp⟩
    clear h2 hb2 ba hs2 hs3
    go_wp2_with fail
    generalize (w2.alloc (.cells #[.int .i64 D.1] I64)) = W2 at *
    generalize [D.1] = l0 at *
    generalize D.2.1 = p0 at *
    generalize D.2.2 = er0 at *
    clear HS HD H1 HR
    go_loopg [3] 5 (fun k s3 wr => ∃ l q eq, Hid (MidD T L rb w wr R s3 l q eq k))
    case atStart => exact ⟨l0, p0, er0, HM⟩
    case round =>
      obtain ⟨l, q, eq, HMM⟩ := hrel
      obtain ⟨va, vc, hv⟩ := (unhide HMM).own.shape
      generalize hln : l.length = ln at hv
      subst hv
      have HLN := hide hln
      have hlo : 1 ≤ ln := by rw [← hln]; exact (unhide HMM).lo
      have hlk : ln + gk = 6 := by rw [← hln]; exact (unhide HMM).len
      have hl4 : ln ≤ 4 := by rw [← hln]; exact (unhide HMM).l4
      have HK4 : Hid (2 ≤ gk) := hide (by omega)
      clear hln
      cases hb : isNext T q eq [44] with
      | false =>
        have HSE := hide (seesT T L rb wr q eq [44] false (unhide HMM).rd hb)
        have HRUN : Hid (R = (l, nextP (isNext T q eq [41]) q, mustE (isNext T q eq [41]) eq q)) := hide (by
          have h1 := (unhide HMM).run
          obtain ⟨k', hk'⟩ : ∃ k', gk = k' + 1 := ⟨gk - 1, by have := unhide HK4; omega⟩
          rw [hk'] at h1
          rw [← h1]
          show (if _ then _ else _) = _
          rw [hb]
          rfl)
        clear hb
        go_wp2_with fail
        refine (unhide HSE).mono ?_
        rintro e w3 ⟨rfl, n, rfl⟩
        have H3 := hide (And.intro ((unhide HMM).rd.drewN n) (And.intro ((unhide HMM).old.drewN n) ((unhide HMM).own.below (below_drewN (Below.refl _ _) n))))
        generalize wr.drewN n = W3 at *
        go_wp2_with fail
        refine (must_any T L rb W3 q eq [41] (unhide H3).1).mono ?_
        rintro e w4 ⟨rfl, h4, hb4⟩
        have H4 := hide (And.intro h4 (And.intro ((unhide H3).2.1.trans hb4) ((unhide H3).2.2.but hb4 hl)))
        clear h4 hb4
        go_wp2
        go_ret
        rw [unhide HRUN]
        exact ⟨_, rfl, (unhide H4).2.2, (unhide H4).1, (unhide H4).2.1⟩
      | true =>
        have hok := isNext_ok hb
        subst hok
        have hlt := isNext_lt hb
        have hT := (unhide HMM).rd.ht
        have HSE := hide (seesT T L rb wr q .ok [44] true (unhide HMM).rd hb)
        obtain ⟨k', hk'⟩ : ∃ k', gk = k' + 1 := ⟨gk - 1, by omega⟩
        have HRUN : Hid (R = if l.length = 4 then ([], q, failE .ok q 4) else moreR T k' (l ++ [(dimR T (q + 1) .ok).1]) (dimR T (q + 1) .ok).2.1 (dimR T (q + 1) .ok).2.2) := hide (by
          have h1 := (unhide HMM).run
          rw [hk'] at h1
          rw [← h1]
          show (if _ then _ else _) = _
          rw [hb, if_pos rfl])
        clear hb
        by_cases h44 : ln = 4
        · have h44i : (ln : Int) = 4 := by omega
          have h44b : ((ln : Int) == 4) = true := by rw [beq_iff_eq]; exact h44i
          have hR2 : R = ([], q, failE .ok q 4) := by rw [unhide HRUN, unhide HLN, if_pos h44]
          have HR2 := hide hR2
          clear hR2 HRUN
          go_wp2_with fail
          refine (unhide HSE).mono ?_
          rintro e w3 ⟨rfl, n, rfl⟩
          have H3 := hide (And.intro ((unhide HMM).rd.drewN n) ((unhide HMM).old.drewN n))
          generalize wr.drewN n = W3 at *
          go_wp2_with fail
          refine (fail_any T L rb W3 q .ok 4 (unhide H3).1).mono ?_
          rintro e w4 ⟨rfl, h4, hb4⟩
          have H4 := hide (And.intro h4 ((unhide H3).2.trans hb4))
          clear h4 hb4
          go_wp2
          go_ret
          rw [unhide HR2]
          exact ⟨_, rfl, OwnN.nil _ _, unhide H4⟩
        · have h44i : ¬ (ln : Int) = 4 := by omega
          have h44b : ((ln : Int) == 4) = false := by rw [beq_eq_false_iff_ne]; exact h44i
          have hR2 : moreR T k' (l ++ [(dimR T (q + 1) .ok).1]) (dimR T (q + 1) .ok).2.1 (dimR T (q + 1) .ok).2.2 = R := by rw [unhide HRUN, unhide HLN, if_neg h44]
          have HR2 := hide hR2
          clear hR2 HRUN
          have HD : Hid (∀ W, SR T L rb W (q + 1) .ok → _) := hide (fun W hW => dim_any T L rb W (q + 1) .ok hW (unhide HNN))
          generalize dimR T (q + 1) .ok = D2 at *
          go_wp2_with fail
          refine (unhide HSE).mono ?_
          rintro e w3 ⟨rfl, n, rfl⟩
          have H3 := hide (And.intro ((unhide HMM).rd.drewN n) (And.intro ((unhide HMM).old.drewN n) ((unhide HMM).own.below (below_drewN (Below.refl _ _) n))))
          generalize wr.drewN n = W3 at *
          have c1 := (unhide H3).1.c1
          have f1 := (unhide H3).1.f1
          have hs4 := set_but rb W3 1 (.int .i64 ((q + 1 : Nat) : Int))
          have H4 := hide (And.intro ((unhide H3).1.at1 (p' := q + 1) hlt) (And.intro ((unhide H3).2.1.trans hs4) ((unhide H3).2.2.but hs4 hl)))
          have e1 : ((q + 1 : Nat) : Int) = (q : Int) + 1 := by omega
          rw [e1] at H4
          clear hs4 e1
          go_wp2_with fail
          generalize W3.setCell ⟨rb, 1, none⟩ (.int .i64 ((q : Int) + 1)) = W4 at *
          clear c1 f1
          refine (unhide HD W4 (unhide H4).1).mono ?_
          rintro e w5 ⟨rfl, h5, hb5⟩
          have ho5 := (unhide H4).2.2.but hb5 hl
          have hs5 := ((unhide H4).2.1.trans hb5).size
          obtain ⟨v9, w9, hr9, ho9, hb9, hq9⟩ := append_n (rb := rb) (n := D2.1) ho5 hs5 (by rw [unhide HLN]; omega)
          obtain ⟨g5, n5, hgo, hgb, hgc⟩ := ho5.head (by rw [unhide HLN]; omega)
          have hsr9 := h5.otherI (hq9 g5 hgo) (show rb ≠ g5 by omega) (fun e => by have := unhide HLW _ e; omega) hgc
          have hold9 : But rb w w9 := by
            have k1 := (unhide H4).2.1.trans hb5
            exact ⟨hb9.os.trans k1.os, hb9.tape.trans k1.tape, hb9.output.trans k1.output, Nat.le_trans k1.size hb9.size, fun i hi hne => (hb9.block i hi).trans (k1.block i hi hne)⟩
          have H9 : Hid (MidD T L rb w w9 R v9 (l ++ [D2.1]) D2.2.1 D2.2.2 k') := hide ⟨ho9, hsr9, hold9, unhide HR2, by rw [List.length_append, unhide HLN]; simp; omega, by rw [List.length_append]; simp, by rw [List.length_append, unhide HLN]; simp; omega⟩
          obtain ⟨a9, c9, hv9⟩ := ho9.shape
          generalize hn9 : (l ++ [D2.1]).length = n9 at hv9
          subst hv9
          clear h5 hb5 ho5 ho9 hb9 hq9 hgo hgb hgc hsr9 hold9 hs5 hn9
          go_wp2_with (at_builtin; refine wpList_append_runG IST rfl _ _ rfl rfl _ _ rfl rfl _ _ hr9 ?_)
          go_roundg k'
          case measure => omega
          case rel => exact ⟨_, _, _, H9⟩
end Go.Proofs.YtdpjipphbhomkaaGreatDoor.Line

namespace Go.Proofs.YtdpjipphbhomkaaGreatDoor.Line
open Go.ChangeShapes Go.WideShapes Go.ChangeAt Go.RowKit
open Ex (E St)
set_option linter.unusedVariables false

abbrev ITT : TypeId := 70
abbrev ITS : TypeId := 23
abbrev Itm : Type := List UInt8 × List Nat × Value
theorem infoM : (Tryz.prog.info? ITT).map (fun i => (i.zero, i.size, i.bytes)) = some (some (.agg #[.string ⟨#[]⟩, .slice none 0 0]), 2, 40) := by kernel_rfl
def itC (p : Itm) : List Value := [.string ⟨p.1.toArray⟩, p.2.2]
def flatM (l : List Itm) : List Value := l.flatMap itC
theorem flatM_length (l : List Itm) : (flatM l).length = l.length * 2 := by
  induction l with
  | nil => rfl
  | cons t l ih => show (itC t ++ flatM l).length = _; rw [List.length_append, ih, List.length_cons]; show 2 + l.length * 2 = _; omega
theorem flatM_append (l m : List Itm) : flatM (l ++ m) = flatM l ++ flatM m := by simp [flatM]
def OwnM (base : Nat) (w : World) (v : Value) (l : List Itm) : Prop := w.ownsRow base ITT 2 v l.length (flatM l)
theorem OwnM.shape {base : Nat} {w : World} {v : Value} {l : List Itm} (h : OwnM base w v l) : ∃ a cap, v = .slice a l.length cap := by
  rcases h.2 with ⟨rfl, h5⟩ | ⟨g, cap, cur, rfl, _⟩
  · exact ⟨none, 0, by rw [h5]⟩
  · exact ⟨_, _, rfl⟩
theorem row_but {base rb n size : Nat} {e : TypeId} {xs : List Value} {w w' : World} {v : Value} (h : w.ownsRow base e size v n xs) (hb : But rb w w') (hr : rb < base) : w'.ownsRow base e size v n xs := by
  obtain ⟨h1, h2⟩ := h
  refine ⟨h1, ?_⟩
  rcases h2 with h2 | ⟨g, cap, cur, hv, hg, hh, r⟩
  · exact .inl h2
  · refine .inr ⟨g, cap, cur, hv, hg, ?_, r⟩
    rw [hb.block g (by
      rcases Nat.lt_or_ge g w.heap.size with h | h
      · exact h
      · rw [Array.getElem?_eq_none h] at hh; cases hh) (fun e => by injection e with e; omega)]
    exact hh
theorem OwnN.mono {base base' : Nat} {w : World} {v : Value} {l : List Nat} (h : OwnN base' w v l) (hb : base ≤ base') : OwnN base w v l := by
  obtain ⟨h1, h2⟩ := h
  refine ⟨h1, ?_⟩
  rcases h2 with h2 | ⟨g, cap, cur, hv, hg, r⟩
  · exact .inl h2
  · exact .inr ⟨g, cap, cur, hv, Nat.le_trans hb hg, r⟩
/-- a row of numbers is kept by what writes another row, of another type -/
theorem OwnN.apart {base base' n size q : Nat} {e : TypeId} {xs : List Value} {w w' : World} {u v : Value} {l : List Nat} (h : OwnN base w v l) (hu : w.ownsRow base' e size u n xs) (hq : u.ownBlock = some q) (he : e ≠ I64) (hb : But q w w') : OwnN base w' v l := by
  obtain ⟨h1, h2⟩ := h
  refine ⟨h1, ?_⟩
  rcases h2 with h2 | ⟨g, cap, cur, hv, hg, hh, r⟩
  · exact .inl h2
  · refine .inr ⟨g, cap, cur, hv, hg, ?_, r⟩
    have hgl : g < w.heap.size := by
      rcases Nat.lt_or_ge g w.heap.size with h | h
      · exact h
      · rw [Array.getElem?_eq_none h] at hh; cases hh
    rw [hb.block g hgl (fun e2 => by
      injection e2 with e2
      subst e2
      rcases hu.2 with ⟨rfl, _⟩ | ⟨g2, cap2, cur2, rfl, _, hh2, _⟩
      · simp [Value.ownBlock] at hq
      · have e3 : g2 = g := by simpa [Value.ownBlock] using hq
        subst e3
        rw [hh] at hh2
        injection hh2 with hh3
        injection hh3 with _ hh4 _
        exact he hh4.symm)]
    exact hh
theorem append_m {base : Nat} {w : World} {v : Value} {l : List Itm} {t : Itm} {da : Option Addr} {dn dc : Nat} (hd : t.2.2 = .slice da dn dc) (hs : OwnM base w v l) (hb : base ≤ w.heap.size) (hl : l.length + 1 ≤ 1000000) :
    ∃ v' w', (Builtin.append_ #[ITS, ITS] ITS #[v, .slice (some ⟨w.heap.size, 0, none⟩) 1 1]).run Tryz.prog (w.alloc (.cells #[.string ⟨t.1.toArray⟩, t.2.2] ITT)) = .ok v' w' ∧ OwnM base w' v' (l ++ [t]) ∧ Below base w w' ∧ (∀ q, v.ownBlock = some q → But q w w') ∧ (v.ownBlock = none → Below w.heap.size w w') := by
  obtain ⟨i0, hi, hz0, hz1, hz2⟩ := info_parts infoM
  obtain ⟨v', w', hr, ho, hgr, _, hat⟩ := run_append_own_at (P := Tryz.prog) (w.alloc (.cells #[.string ⟨t.1.toArray⟩, t.2.2] ITT)) base ITS ITS ITT i0 _ 2 40 Tryz.underlying23 hi hz0 hz1 hz2 rfl (by decide) v l.length (flatM l) (World.ownsRow.alloc hs _) ⟨w.heap.size, 0, none⟩ 1 1 (itC t) rfl
    (World.news_of_block (cs := #[.string ⟨t.1.toArray⟩, t.2.2]) (t := ITT) (fr := (0, 0)) (by show (w.heap.push _)[w.heap.size]? = _; exact Array.getElem?_push_size))
    (by
      intro u hu
      simp only [itC, List.mem_cons, List.not_mem_nil, or_false] at hu
      rcases hu with rfl | rfl
      · rfl
      · rw [hd]; rfl) (by unfold maxLen; omega) (by omega) (by simp; omega)
  refine ⟨v', w', hr, ?_, ((Below.refl _ _).alloc hb _).grown hgr (by simp; omega) (fun j hj => (World.ownsRow.lt hs j hj).1), fun q hq => ?_, fun hq => ?_⟩
  · unfold OwnM
    rw [flatM_append, List.length_append]
    exact ho
  · rw [hq] at hgr
    exact (but_below (alloc_below w _)).trans hgr
  · rw [hq] at hgr
    have h2 : Below (w.alloc (.cells #[.string ⟨t.1.toArray⟩, t.2.2] ITT)).heap.size (w.alloc (.cells #[.string ⟨t.1.toArray⟩, t.2.2] ITT)) w' := ⟨hgr.os, hgr.tape, hgr.output, hgr.size, fun k hk => hgr.block k hk (by simp)⟩
    exact bthen (alloc_below w _) h2
def itemsR (T : List Words.T) : Nat → List (List UInt8 × List Nat) → Nat → SE → List (List UInt8 × List Nat) × Nat × SE
  | 0, acc, p, er => (acc, p, er)
  | f + 1, acc, p, er =>
    if isNext T (dimsR T (nextP (isKind T p er 1) p) (mustE (isKind T p er 1) er p)).2.1 (dimsR T (nextP (isKind T p er 1) p) (mustE (isKind T p er 1) er p)).2.2 [44] then
      itemsR T f (acc ++ [(nameAt T p (isKind T p er 1), (dimsR T (nextP (isKind T p er 1) p) (mustE (isKind T p er 1) er p)).1)]) ((dimsR T (nextP (isKind T p er 1) p) (mustE (isKind T p er 1) er p)).2.1 + 1) (dimsR T (nextP (isKind T p er 1) p) (mustE (isKind T p er 1) er p)).2.2
    else (acc ++ [(nameAt T p (isKind T p er 1), (dimsR T (nextP (isKind T p er 1) p) (mustE (isKind T p er 1) er p)).1)], (dimsR T (nextP (isKind T p er 1) p) (mustE (isKind T p er 1) er p)).2.1, (dimsR T (nextP (isKind T p er 1) p) (mustE (isKind T p er 1) er p)).2.2)
theorem nextP_ge (b : Bool) (p : Nat) : p ≤ nextP b p := by cases b <;> simp [nextP]
theorem dimR_ge (T : List Words.T) (p : Nat) (er : SE) : p ≤ (dimR T p er).2.1 := by
  unfold dimR
  split
  · split
    · exact Nat.le_refl _
    · exact Nat.le_succ _
  · exact Nat.le_refl _
theorem moreR_ge (T : List Words.T) : ∀ (f : Nat) (l : List Nat) (p : Nat) (er : SE), p ≤ (moreR T f l p er).2.1 := by
  intro f
  induction f with
  | zero => intro l p er; exact Nat.le_refl _
  | succ f ih =>
    intro l p er
    show p ≤ (if _ then _ else _ : List Nat × Nat × SE).2.1
    split
    · split
      · exact Nat.le_refl _
      · have h1 := dimR_ge T (p + 1) er
        have h2 := ih (l ++ [(dimR T (p + 1) er).1]) (dimR T (p + 1) er).2.1 (dimR T (p + 1) er).2.2
        omega
    · exact nextP_ge _ _
theorem dimsR_ge (T : List Words.T) (p : Nat) (er : SE) : p ≤ (dimsR T p er).2.1 := by
  unfold dimsR
  split
  · have h1 := dimR_ge T (p + 1) er
    have h2 := moreR_ge T 5 [(dimR T (p + 1) er).1] (dimR T (p + 1) er).2.1 (dimR T (p + 1) er).2.2
    omega
  · exact Nat.le_refl _
theorem Se.otherS {B q : Nat} {w w' : World} {g : Value} {er : SE} {a : Option Addr} {n c : Nat} (h : Se B w g er) (hb : But q w w') (hq : w.cell? ⟨q, 1, none⟩ = some (.slice a n c)) : Se B w' g er := by
  have hne : ∀ {b : Nat} {k : Nat}, w.cell? ⟨b, 1, none⟩ = some (.int .i64 k) → b ≠ q := fun {b k} h e => by subst e; rw [hq] at h; cases h
  cases er with
  | ok => exact h
  | leaf p e =>
    obtain ⟨b, hB, hg, hl⟩ := h
    exact ⟨b, hB, hg, hl.keep (hb.block b hl.lt (fun e => hne hl.2.1 (by injection e)))⟩
  | sub p k e =>
    obtain ⟨b, b2, hB, hb2, hg, ⟨h0, h1, h2⟩, hl⟩ := h
    have hc : ∀ o, w'.cell? ⟨b, o, none⟩ = w.cell? ⟨b, o, none⟩ := fun o => hb.cell (p := ⟨b, o, none⟩) (cell_lt h0) (hne h1)
    exact ⟨b, b2, hB, hb2, hg, ⟨(hc 0).trans h0, (hc 1).trans h1, (hc 2).trans h2⟩, hl.keep (hb.block b2 hl.lt (fun e => hne hl.2.1 (by injection e)))⟩
theorem SR.otherS {T : List Words.T} {L : Value} {rb q : Nat} {w w' : World} {p : Nat} {er : SE} {a : Option Addr} {n c : Nat} (h : SR T L rb w p er) (hb : But q w w') (hne : rb ≠ q) (hL : L.ownBlock ≠ some q) (hq : w.cell? ⟨q, 1, none⟩ = some (.slice a n c)) : SR T L rb w' p er := by
  have hk := hb.block rb h.lt (fun e => hne (by injection e))
  have hc : ∀ o, w'.cell? ⟨rb, o, none⟩ = w.cell? ⟨rb, o, none⟩ := fun o => World.cell?_of_block (a := ⟨rb, o, none⟩) hk
  have hf : ∀ o, w'.frozen? ⟨rb, o, none⟩ = w.frozen? ⟨rb, o, none⟩ := fun o => World.frozen?_of_block (a := ⟨rb, o, none⟩) hk
  obtain ⟨g, hg, hs⟩ := h.ce
  exact ⟨(hc 0).trans h.c0, (hc 1).trans h.c1, ⟨g, (hc 2).trans hg, hs.otherS hb hq⟩, (hf 1).trans h.f1, (hf 2).trans h.f2, Nat.lt_of_lt_of_le h.lt hb.size, h.tks.but hb hL, h.own, fun q hq => Nat.lt_of_lt_of_le (h.lw q hq) hb.size, h.hp, h.ht⟩
def plainI (m : List Itm) : List (List UInt8 × List Nat) := m.map fun x => (x.1, x.2.1)
structure ItemsAt (base : Nat) (w : World) (v : Value) (m : List Itm) : Prop where
  own : OwnM base w v m
  dims : ∀ x ∈ m, OwnN base w x.2.2 x.2.1
theorem ItemsAt.cell1 {base g : Nat} {w : World} {v : Value} {m : List Itm} (h : ItemsAt base w v m) (hm : m ≠ []) (hg : v.ownBlock = some g) : ∃ a n c, w.cell? ⟨g, 1, none⟩ = some (.slice a n c) := by
  cases m with
  | nil => exact absurd rfl hm
  | cons x r =>
    obtain ⟨a, c, hx⟩ := (h.dims x (List.mem_cons_self ..)).shape
    have ho := h.own
    unfold OwnM at ho
    rcases ho.2 with ⟨_, h5⟩ | ⟨g2, cap, cur, rfl, hg2, hh, hc, hm2, hcs, ht⟩
    · simp at h5
    · have e3 : g2 = g := by simpa [Value.ownBlock] using hg
      subst e3
      refine ⟨a, x.2.1.length, c, (World.ownsRow.cellAt ho 1 (by rw [List.length_cons]; omega)).trans ?_⟩
      show (itC x ++ flatM r)[1]? = _
      rw [← hx]
      rfl
theorem ItemsAt.but {base rb : Nat} {w w' : World} {v : Value} {m : List Itm} (h : ItemsAt base w v m) (hb : But rb w w') (hr : rb < base) : ItemsAt base w' v m := ⟨row_but h.own hb hr, fun x hx => (h.dims x hx).but hb hr⟩
structure MidI (T : List Words.T) (L : Value) (rb : Nat) (w wr : World) (R : List (List UInt8 × List Nat) × Nat × SE) (v : Value) (m : List Itm) (p : Nat) (er : SE) (k : Nat) : Prop where
  its : ItemsAt w.heap.size wr v m
  rd : SR T L rb wr p er
  old : But rb w wr
  run : itemsR T k (plainI m) p er = R
  fuel : T.length + 1 ≤ p + k
  few : m.length ≤ p
  ne : m = [] → v = .slice none 0 0
set_option maxHeartbeats 8000000 in
set_option maxRecDepth 100000 in
theorem items_any (T : List Words.T) (L : Value) (rb : Nat) (w : World) (p : Nat) (er : SE) (h : SR T L rb w p er) (hN : NumOk T) : Calls Tryz.prog 53 #[.pointer (some ⟨rb, 0, none⟩)] w fun e w' => ∃ v m, e = .returned v ∧ ItemsAt w.heap.size w' v m ∧ plainI m = (itemsR T (T.length + 1) [] p er).1 ∧ SR T L rb w' (itemsR T (T.length + 1) [] p er).2.1 (itemsR T (T.length + 1) [] p er).2.2 ∧ But rb w w' := by
  obtain ⟨R, hR⟩ : ∃ R, itemsR T (T.length + 1) [] p er = R := ⟨_, rfl⟩
  rw [hR]
  have HM : Hid (MidI T L rb w w R (.slice none 0 0) [] p er (T.length + 1)) := hide ⟨⟨World.ownsRow_nil _ _ _ _, fun x hx => by simp at hx⟩, h, but_refl rb w, hR, by omega, Nat.zero_le _, fun _ => rfl⟩
  have hl := h.lt
  have HLW := hide h.lw
  have HNN := hide hN
  clear h hN hR
  go_enter Tryz.func53, Tryz.ntmps53
  go_wp2_with fail
  go_loopg [3] (T.length + 1) (fun k s3 wr => ∃ m q eq, Hid (MidI T L rb w wr R s3 m q eq k))
  case atStart => exact ⟨[], p, er, HM⟩
  case round =>
    obtain ⟨m, q, eq, HMM⟩ := hrel
    obtain ⟨va, vc, hv⟩ := (unhide HMM).its.own.shape
    generalize hln : m.length = ln at hv
    subst hv
    have HLN := hide hln
    have hT := (unhide HMM).rd.ht
    have hqT := (unhide HMM).rd.hp
    have hfew : ln ≤ q := by rw [← hln]; exact (unhide HMM).few
    obtain ⟨k', hk'⟩ : ∃ k', gk = k' + 1 := ⟨gk - 1, by have := (unhide HMM).fuel; omega⟩
    have hrun := (unhide HMM).run
    rw [hk'] at hrun
    have hdg := dimsR_ge T (nextP (isKind T q eq 1) q) (mustE (isKind T q eq 1) eq q)
    have hng := nextP_ge (isKind T q eq 1) q
    have HNA := hide (name_any T L rb wr q eq (unhide HMM).rd)
    have HDI : Hid (∀ W, SR T L rb W (nextP (isKind T q eq 1) q) (mustE (isKind T q eq 1) eq q) → _) := hide (fun W hW => dims_any T L rb W _ _ hW (unhide HNN))
    have hr2 : (if isNext T (dimsR T (nextP (isKind T q eq 1) q) (mustE (isKind T q eq 1) eq q)).2.1 (dimsR T (nextP (isKind T q eq 1) q) (mustE (isKind T q eq 1) eq q)).2.2 [44] then itemsR T k' (plainI m ++ [(nameAt T q (isKind T q eq 1), (dimsR T (nextP (isKind T q eq 1) q) (mustE (isKind T q eq 1) eq q)).1)]) ((dimsR T (nextP (isKind T q eq 1) q) (mustE (isKind T q eq 1) eq q)).2.1 + 1) (dimsR T (nextP (isKind T q eq 1) q) (mustE (isKind T q eq 1) eq q)).2.2 else (plainI m ++ [(nameAt T q (isKind T q eq 1), (dimsR T (nextP (isKind T q eq 1) q) (mustE (isKind T q eq 1) eq q)).1)], (dimsR T (nextP (isKind T q eq 1) q) (mustE (isKind T q eq 1) eq q)).2.1, (dimsR T (nextP (isKind T q eq 1) q) (mustE (isKind T q eq 1) eq q)).2.2)) = R := hrun
    generalize nameAt T q (isKind T q eq 1) = nm at *
    generalize nextP (isKind T q eq 1) q = q1 at *
    generalize mustE (isKind T q eq 1) eq q = eq1 at *
    generalize dimsR T q1 eq1 = D at *
    obtain ⟨ds, q2, eq2⟩ := D
    simp only at hr2 hdg
    have HR2 := hide hr2
    clear hr2 hrun hln
    go_wp2_with fail
    refine (unhide HNA).mono ?_
    rintro e w3 ⟨rfl, h3, hb3⟩
    have H3 := hide (And.intro h3 (And.intro ((unhide HMM).old.trans hb3) ((unhide HMM).its.but hb3 hl)))
    clear h3 hb3
    go_wp2_with fail
    refine (unhide HDI w3 (unhide H3).1).mono ?_
    rintro e w5 ⟨dv, rfl, hd5, h5, hb5⟩
    obtain ⟨da, dc, hdv⟩ := hd5.shape
    generalize hdl : ds.length = dn at hdv
    subst hdv
    have ho5 := (unhide H3).2.1.trans hb5
    have hi5 := (unhide H3).2.2.but hb5 hl
    have hd6 := hd5.mono (unhide H3).2.1.size
    obtain ⟨v9, w9, hr9, ho9, hb9, hq9, hn9⟩ := append_m (t := (nm, ds, .slice da dn dc)) rfl hi5.own ho5.size (by rw [unhide HLN]; omega)
    have hmid : ItemsAt w.heap.size w9 v9 (m ++ [(nm, ds, .slice da dn dc)]) ∧ SR T L rb w9 q2 eq2 ∧ But rb w w9 := by
      have hold9 : But rb w w9 := ⟨hb9.os.trans ho5.os, hb9.tape.trans ho5.tape, hb9.output.trans ho5.output, Nat.le_trans ho5.size hb9.size, fun i hi hne => (hb9.block i hi).trans (ho5.block i hi hne)⟩
      cases hob : (Value.slice va ln vc).ownBlock with
      | none =>
        have hB := hn9 hob
        refine ⟨⟨ho9, fun x hx => ?_⟩, h5.below hB, hold9⟩
        rcases List.mem_append.1 hx with hx | hx
        · exact (hi5.dims x hx).below hB
        · obtain rfl := List.mem_singleton.1 hx
          exact hd6.below hB
      | some g =>
        have hB := hq9 g hob
        have hgb := World.ownsRow.lt hi5.own g hob
        have hwnt := hi5.own
        refine ⟨⟨ho9, fun x hx => ?_⟩, ?_, hold9⟩
        · rcases List.mem_append.1 hx with hx | hx
          · exact (hi5.dims x hx).apart hi5.own hob (by decide) hB
          · obtain rfl := List.mem_singleton.1 hx
            exact hd6.apart hi5.own hob (by decide) hB
        · have hmne : m ≠ [] := fun e => by rw [(unhide HMM).ne e] at hob; simp [Value.ownBlock] at hob
          obtain ⟨xa, xn, xc, hx1⟩ := hi5.cell1 hmne hob
          exact h5.otherS hB (by omega) (fun e => by have := unhide HLW _ e; omega) hx1
    have hp9 : plainI (m ++ [(nm, ds, .slice da dn dc)]) = plainI m ++ [(nm, ds)] := by simp [plainI]
    have HM9 := hide hmid
    have HP9 := hide hp9
    have hl9 : (m ++ [(nm, ds, Value.slice da dn dc)]).length = ln + 1 := by rw [List.length_append, unhide HLN]; rfl
    obtain ⟨a9, c9, hv9⟩ := ho9.shape
    rw [hl9] at hv9
    subst hv9
    have HL9 := hide hl9
    have hl9b : ln + 1 ≤ 100001 := by omega
    clear hmid hp9 h5 hb5 hd5 hd6 ho5 hi5 ho9 hb9 hq9 hn9 hdl hl9
    cases hb : isNext T q2 eq2 [44] with
    | false =>
      have hR3 : (plainI m ++ [(nm, ds)], q2, eq2) = R := by have := unhide HR2; rw [hb] at this; exact this
      have HR3 := hide hR3
      have HTK := hide (fun W hW => takesF T L rb W q2 eq2 [44] hW hb)
      clear hR3 hb
      go_wp2_with (at_builtin; refine wpList_append_runG ITS rfl _ _ rfl rfl _ _ rfl rfl _ _ hr9 ?_)
      refine (unhide HTK w9 (unhide HM9).2.1).mono ?_
      rintro e w10 ⟨rfl, h10, hb10⟩
      have H10 := hide (And.intro h10 (And.intro ((unhide HM9).2.2.trans hb10) ((unhide HM9).1.but hb10 hl)))
      clear h10 hb10
      go_wp2
      go_ret
      rw [← unhide HR3]
      exact ⟨_, _, rfl, (unhide H10).2.2, unhide HP9, (unhide H10).1, (unhide H10).2.1⟩
    | true =>
      have hlt := isNext_lt hb
      have hR3 : itemsR T k' (plainI m ++ [(nm, ds)]) (q2 + 1) eq2 = R := by have := unhide HR2; rw [hb] at this; exact this
      have HR3 := hide hR3
      have HTK := hide (fun W hW => takesT T L rb W q2 eq2 [44] hW hb)
      have hfu := (unhide HMM).fuel
      clear hR3 hb
      go_wp2_with (at_builtin; refine wpList_append_runG ITS rfl _ _ rfl rfl _ _ rfl rfl _ _ hr9 ?_)
      refine (unhide HTK w9 (unhide HM9).2.1).mono ?_
      rintro e w10 ⟨rfl, h10, hb10⟩
      have H10 : Hid (MidI T L rb w w10 R (.slice a9 (ln + 1) c9) (m ++ [(nm, ds, .slice da dn dc)]) (q2 + 1) eq2 k') := hide ⟨(unhide HM9).1.but hb10 hl, h10, (unhide HM9).2.2.trans hb10, by rw [unhide HP9]; exact unhide HR3, by omega, by rw [unhide HL9]; omega, fun e => by simp at e⟩
      clear h10 hb10
      go_wp2_with fail
      go_roundg k'
      case measure => omega
      case rel => exact ⟨_, _, _, H10⟩
end Go.Proofs.YtdpjipphbhomkaaGreatDoor.Line

namespace Go.Proofs.YtdpjipphbhomkaaGreatDoor.Line
open Go.ChangeShapes Go.WideShapes Go.ChangeAt Go.RowKit
open Ex (E St)
set_option linter.unusedVariables false

def tOpen (t : Words.T) (o : Int) : Int := if t.text = [40] then o + 1 else if t.text = [41] then o - 1 else o
/-- how many words there are up to the bracket that ends what is open -/
def tScan : List Words.T → Int → Nat
  | [], _ => 0
  | t :: r, o => if tOpen t o = 0 then 1 else 1 + tScan r (tOpen t o)
def tEnd (T : List Words.T) (p : Nat) : Nat := match T[p + 1]? with
  | none => p + 1
  | some t => if t.text = [40] then p + 1 + tScan (T.drop (p + 1)) 0 else p + 1
theorem tScan_le : ∀ (l : List Words.T) (o : Int), tScan l o ≤ l.length := by
  intro l
  induction l with
  | nil => intro o; exact Nat.le_refl _
  | cons t r ih =>
    intro o
    show (if _ then _ else _) ≤ _
    have := ih (tOpen t o)
    split
    · simp
    · rw [List.length_cons, Nat.add_comm]; exact Nat.succ_le_succ this
theorem tEnd_le {T : List Words.T} {p : Nat} (h : p < T.length) : p ≤ tEnd T p ∧ tEnd T p ≤ T.length := by
  unfold tEnd
  split
  · omega
  · rename_i t ht
    have hl := (List.getElem?_eq_some_iff.1 ht).1
    split
    · have := tScan_le (T.drop (p + 1)) 0
      rw [List.length_drop] at this
      omega
    · omega
theorem Tks.text {w : World} {L : Value} {T : List Words.T} (h : Tks w L T) (hn : 0 < T.length) : ∃ b o c, L = .slice (some ⟨b, o, none⟩) T.length c ∧ T.length ≤ c ∧ ∀ i (hi : i < T.length), w.cell? ⟨b, o + i * 4 + 1, none⟩ = some (.string ⟨T[i].text.toArray⟩) := by
  rcases h with ⟨a, c, rfl, rfl⟩ | ⟨b, o, c, rfl, hc, h⟩
  · simp at hn
  · exact ⟨b, o, c, rfl, hc, fun i hi => (h i hi).2.1⟩
/-- in the midst of the search for the bracket that ends -/
theorem scan_step1 (T : List Words.T) (e : Nat) (h : e < T.length) (op : Int) : tScan (T.drop e) op = if tOpen T[e] op = 0 then 1 else 1 + tScan (T.drop (e + 1)) (tOpen T[e] op) := by
  rw [List.drop_eq_getElem_cons h]
  rfl
set_option maxHeartbeats 4000000 in
set_option maxRecDepth 100000 in
theorem targetEnd_any (T : List Words.T) (L : Value) (rb : Nat) (w : World) (p : Nat) (er : SE) (h : SR T L rb w p er) (hp : p < T.length) : Calls Tryz.prog 103 #[.pointer (some ⟨rb, 0, none⟩)] w fun e w' => e = .returned (.int .i64 (tEnd T p)) ∧ w' = w := by
  obtain ⟨b, o, c, hLe, hcap, hcell⟩ := h.tks.text (by omega)
  subst hLe
  have c0 := h.c0
  have c1 := h.c1
  have ht := h.ht
  clear h
  have HC := hide hcell
  clear hcell
  by_cases h1 : p + 1 < T.length
  · have hg : T[p + 1]? = some T[p + 1] := List.getElem?_eq_getElem h1
    have hc1 := unhide HC (p + 1) h1
    have h2 : ¬ ((p : Int) + 1) = T.length := by omega
    have h2b : (((p : Int) + 1) == T.length) = false := by rw [beq_eq_false_iff_ne]; exact h2
    have h3 : ((p : Int) + 1) < T.length := by omega
    have h4 : ((p + 1 : Nat) : Int) = (p : Int) + 1 := by omega
    by_cases htx : T[p + 1].text = [40]
    · have he : tEnd T p = p + 1 + tScan (T.drop (p + 1)) 0 := by unfold tEnd; rw [hg]; simp only; rw [if_pos htx]
      rw [he]
      rw [htx] at hc1
      have hse := tScan_le (T.drop (p + 1)) 0
      rw [List.length_drop] at hse
      obtain ⟨G, hGo⟩ : ∃ G, p + 1 + tScan (T.drop (p + 1)) 0 = G := ⟨_, rfl⟩
      rw [hGo]
      have HGo := hide hGo
      clear hse hGo he
      go_enter Tryz.func103, Tryz.ntmps103
      go_wp2_with fail
      clear hc1 htx hg h2 h2b h3
      go_loop [3, 4] (fun s3 s4 => ∃ (e : Nat) (op : Int), s3 = .int .i64 e ∧ s4 = .int .i64 op ∧ e ≤ T.length ∧ -(e : Int) ≤ op ∧ op ≤ e ∧ Hid (e + tScan (T.drop e) op = G)) (fun s3 _ => T.length - (intOf s3).toNat)
      case atStart => exact ⟨p + 1, 0, by go_num, rfl, by omega, by omega, by omega, HGo⟩
      case round =>
        obtain ⟨e, op, rfl, rfl, hel, ho1, ho2, HG⟩ := hrel
        by_cases hlt : e < T.length
        · have hlt2 : (e : Int) < T.length := by omega
          have hce := unhide HC e hlt
          have hst := scan_step1 T e hlt op
          have HST := hide hst
          clear hst
          have HTO : Hid (tOpen T[e] op = if T[e].text = [40] then op + 1 else if T[e].text = [41] then op - 1 else op) := hide rfl
          generalize tOpen T[e] op = op2 at *
          generalize T[e].text = tx at *
          by_cases k1 : tx = [40]
          · have ho : op2 = op + 1 := by rw [unhide HTO, if_pos k1]
            subst k1
            subst ho
            by_cases hz : op + 1 = 0
            · have hzb : (op + 1 == 0) = true := by rw [beq_iff_eq]; exact hz
              have hr : e + 1 = G := by rw [← unhide HG, unhide HST, if_pos hz]
              subst hr
              go_wp2
              go_ret
              exact ⟨by go_num, rfl⟩
            · have hzb : (op + 1 == 0) = false := by rw [beq_eq_false_iff_ne]; exact hz
              have hr : Hid ((e + 1) + tScan (T.drop (e + 1)) (op + 1) = G) := hide (by rw [← unhide HG, unhide HST, if_neg hz]; omega)
              go_wp2_with fail
              go_round
              case rel => exact ⟨e + 1, op + 1, by go_num, rfl, by omega, by omega, by omega, hr⟩
              case measure => simp [intOf]; omega
          · have k1b : (tx == [40]) = false := beq_eq_false_iff_ne.2 k1
            by_cases k2 : tx = [41]
            · have ho : op2 = op - 1 := by rw [unhide HTO, if_neg k1, if_pos k2]
              subst k2
              subst ho
              clear k1 k1b
              by_cases hz : op - 1 = 0
              · have hzb : (op - 1 == 0) = true := by rw [beq_iff_eq]; exact hz
                have hr : e + 1 = G := by rw [← unhide HG, unhide HST, if_pos hz]
                subst hr
                go_wp2
                go_ret
                exact ⟨by go_num, rfl⟩
              · have hzb : (op - 1 == 0) = false := by rw [beq_eq_false_iff_ne]; exact hz
                have hr : Hid ((e + 1) + tScan (T.drop (e + 1)) (op - 1) = G) := hide (by rw [← unhide HG, unhide HST, if_neg hz]; omega)
                go_wp2_with fail
                go_round
                case rel => exact ⟨e + 1, op - 1, by go_num, rfl, by omega, by omega, by omega, hr⟩
                case measure => simp [intOf]; omega
            · have k2b : (tx == [41]) = false := beq_eq_false_iff_ne.2 k2
              have ho : op2 = op := by rw [unhide HTO, if_neg k1, if_neg k2]
              subst ho
              clear HTO
              by_cases hz : op2 = 0
              · have hzb : (op2 == 0) = true := by rw [beq_iff_eq]; exact hz
                have hr : e + 1 = G := by rw [← unhide HG, unhide HST, if_pos hz]
                subst hr
                go_wp2
                go_ret
                exact ⟨by go_num, rfl⟩
              · have hzb : (op2 == 0) = false := by rw [beq_eq_false_iff_ne]; exact hz
                have hr : Hid ((e + 1) + tScan (T.drop (e + 1)) (op2) = G) := hide (by rw [← unhide HG, unhide HST, if_neg hz]; omega)
                go_wp2_with fail
                go_round
                case rel => exact ⟨e + 1, op2, by go_num, rfl, by omega, by omega, by omega, hr⟩
                case measure => simp [intOf]; omega
        · have hlt2 : ¬ (e : Int) < T.length := by omega
          have hr : e = G := by rw [← unhide HG, List.drop_of_length_le (by omega)]; rfl
          subst hr
          go_wp2
          go_ret
          exact ⟨rfl, rfl⟩
    · have he : tEnd T p = p + 1 := by unfold tEnd; rw [hg]; simp only; rw [if_neg htx]
      rw [he]
      have htb : (T[p + 1].text == [40]) = false := beq_eq_false_iff_ne.2 htx
      have htc : (T[p + 1].text != [40]) = true := by simp [bne, htb]
      generalize T[p + 1].text = tx at *
      go_enter Tryz.func103, Tryz.ntmps103
      go_wp2
      go_ret
      exact ⟨by go_num, rfl⟩
  · have he : tEnd T p = p + 1 := by unfold tEnd; rw [List.getElem?_eq_none (by omega)]
    rw [he]
    have h2 : ((p : Int) + 1) = T.length := by omega
    have h2b : (((p : Int) + 1) == T.length) = true := by rw [beq_iff_eq]; exact h2
    have h5 : ((p + 1 : Nat) : Int) = T.length := by omega
    rw [h5]
    clear h5
    go_enter Tryz.func103, Tryz.ntmps103
    go_wp2
    go_ret
    exact ⟨rfl, rfl⟩
def TargetPost (T : List Words.T) (L : Value) (rb : Nat) (w : World) (p : Nat) (e : Ending) (w' : World) : Prop := ExprPost T L rb w p (tEnd T p) e w'
set_option maxHeartbeats 4000000 in
set_option maxRecDepth 100000 in
theorem targetBad_any (T : List Words.T) (L : Value) (rb : Nat) (w : World) (p : Nat) (er : SE) (h : SR T L rb w p er) (hk : isKind T p er 1 = false) : Calls Tryz.prog 59 #[.pointer (some ⟨rb, 0, none⟩)] w fun e w' => e = .returned (treeV E.none (.slice none 0 0)) ∧ SR T L rb w' p (failE er p 2) ∧ But rb w w' := by
  have ba := alloc_below w (.cells #[.int .i64 0, .int .i64 0, .string ⟨#[]⟩, .slice none 0 0] 26)
  have hr1 : Box (w.alloc (.cells #[.int .i64 0, .int .i64 0, .string ⟨#[]⟩, .slice none 0 0] 26)) w.heap.size E.none (.slice none 0 0) := box_new w E.none (.slice none 0 0) 26
  have hl := h.lt
  have HLW : Hid (L.ownBlock ≠ some w.heap.size) := hide (fun e => by have := h.lw _ e; omega)
  have H1 := hide (And.intro (h.below ba) (And.intro ba hr1))
  clear h ba hr1
  go_enter Tryz.func59, Tryz.ntmps59
  go_wp2_with fail
  generalize (w.alloc (.cells #[.int .i64 0, .int .i64 0, .string ⟨#[]⟩, .slice none 0 0] 26)) = W1 at *
  have HS := hide (seesKind_any T L rb W1 p er 1 (unhide H1).1)
  rw [hk] at HS
  refine (unhide HS).mono ?_
  rintro e w1 ⟨rfl, n, rfl⟩
  have hbx2 : Box (W1.drewN n) w.heap.size E.none (.slice none 0 0) := (unhide H1).2.2.keep (by rfl) (Nat.le_refl _)
  have H2 := hide (And.intro ((unhide H1).1.drewN n) (And.intro ((but_below (rb := rb) (unhide H1).2.1).drewN n) hbx2))
  clear hbx2
  generalize W1.drewN n = W2 at *
  go_wp2_with fail
  refine (fail_any T L rb W2 p er 2 (unhide H2).1).mono ?_
  rintro e w3 ⟨rfl, h3, hb3⟩
  have hrs := (unhide H2).2.2.but hb3 (show w.heap.size ≠ rb by omega)
  have H3 := hide (And.intro h3 ((unhide H2).2.1.trans hb3))
  have HR3 := hide hrs
  obtain ⟨r0, r1, r2, r3, z0, z1, z2, z3, hrl⟩ := hrs
  clear h3 hb3
  go_wp2
  have hbs := but_set4 w.heap.size w3 (.int .i64 0) (.int .i64 0) (.string ⟨#[]⟩) (.slice none 0 0)
  refine bodyPost_ret (v := treeV E.none (.slice none 0 0)) (by simp [results, Tryz.results59, go_sem, r0, r1, r2, r3]; exact ⟨rfl, rfl, rfl⟩) rfl ⟨rfl, (unhide H3).1.otherI hbs (by omega) (unhide HLW) r0, ?_⟩
  have h33 := (unhide H3).2
  exact ⟨hbs.os.trans h33.os, hbs.tape.trans h33.tape, hbs.output.trans h33.output, Nat.le_trans h33.size hbs.size, fun i hi hne => (hbs.block i (Nat.lt_of_lt_of_le hi h33.size) (fun e => by injection e with e; omega)).trans (h33.block i hi hne)⟩
set_option maxHeartbeats 4000000 in
set_option maxRecDepth 100000 in
theorem targetOk_any (HPARSE : ParseSpec) (T : List Words.T) (L : Value) (rb : Nat) (w : World) (p : Nat) (h : SR T L rb w p .ok) (hG : Glob w) (hk : isKind T p .ok 1 = true) : Calls Tryz.prog 59 #[.pointer (some ⟨rb, 0, none⟩)] w fun e w' => TargetPost T L rb w p e w' := by
  have ba := alloc_below w (.cells #[.int .i64 0, .int .i64 0, .string ⟨#[]⟩, .slice none 0 0] 26)
  have hr1 : Box (w.alloc (.cells #[.int .i64 0, .int .i64 0, .string ⟨#[]⟩, .slice none 0 0] 26)) w.heap.size E.none (.slice none 0 0) := box_new w E.none (.slice none 0 0) 26
  have hl := h.lt
  have hpl := isKind_lt hk
  have hte := tEnd_le hpl
  have HLW : Hid (L.ownBlock ≠ some w.heap.size) := hide (fun e => by have := h.lw _ e; omega)
  have H1 := hide (And.intro (h.below ba) (And.intro ba (And.intro hr1 (hG.below ba))))
  clear h ba hr1 hG
  go_enter Tryz.func59, Tryz.ntmps59
  go_wp2_with fail
  generalize (w.alloc (.cells #[.int .i64 0, .int .i64 0, .string ⟨#[]⟩, .slice none 0 0] 26)) = W1 at *
  have HS := hide (seesKind_any T L rb W1 p .ok 1 (unhide H1).1)
  rw [hk] at HS
  refine (unhide HS).mono ?_
  rintro e w1 ⟨rfl, n, rfl⟩
  have hdb := below_drewN (Below.refl W1.heap.size W1) n
  have hbx2 : Box (W1.drewN n) w.heap.size E.none (.slice none 0 0) := (unhide H1).2.2.1.keep (by rfl) (Nat.le_refl _)
  have H2 := hide (And.intro ((unhide H1).1.drewN n) (And.intro (bthen (unhide H1).2.1 hdb) (And.intro hbx2 ((unhide H1).2.2.2.below hdb))))
  clear hbx2 hdb
  generalize W1.drewN n = W2 at *
  go_wp2_with fail
  refine (targetEnd_any T L rb W2 p .ok (unhide H2).1 hpl).mono ?_
  rintro e w3 ⟨rfl, hw3⟩
  subst hw3
  have HT := hide (exprOk_any HPARSE T L rb w3 p (tEnd T p) (unhide H2).1 (unhide H2).2.2.2 hte.1 hte.2)
  obtain ⟨te, hte2⟩ : ∃ te, te = tEnd T p := ⟨_, rfl⟩
  have HTE := hide hte2
  rw [← hte2] at HT ⊢
  clear hte2 hte
  go_wp2_with fail
  refine (unhide HT).mono ?_
  rintro e w6 ⟨x, s, sl, hred, rfl, hf6, h6, hb6⟩
  obtain ⟨xa, xc, hxs⟩ := hf6.shape
  generalize hxl : (ansE x s).a.length = xl at hxs
  subst hxs
  clear hxl
  have hsz := (unhide H2).2.1.size
  have hlt1 := (unhide H2).2.2.1.lt
  have hrs := (unhide H2).2.2.1.but hb6 (show w.heap.size ≠ rb by omega)
  have hbs := but_set4 w.heap.size w6 (.int .i64 (ansE x s).kind) (.int .i64 (ansE x s).n) (.string ⟨(ansE x s).name.toArray⟩) (.slice xa xl xc)
  have hold := (unhide H2).2.1
  have hsr6 := h6.otherI hbs (show rb ≠ w.heap.size by omega) (unhide HLW) hrs.c0
  have hff : Forest ((((w6.setCell ⟨w.heap.size, 0, none⟩ (.int .i64 (ansE x s).kind)).setCell ⟨w.heap.size, 1, none⟩ (.int .i64 (ansE x s).n)).setCell ⟨w.heap.size, 2, none⟩ (.string ⟨(ansE x s).name.toArray⟩)).setCell ⟨w.heap.size, 3, none⟩ (.slice xa xl xc)) (fun b => w.heap.size ≤ b) (ansE x s).a (.slice xa xl xc) := hf6.keep (fun b hS hl => hbs.block b hl (fun e => by injection e with e; omega)) (fun b hS hl => by omega)
  have hbut : But rb w ((((w6.setCell ⟨w.heap.size, 0, none⟩ (.int .i64 (ansE x s).kind)).setCell ⟨w.heap.size, 1, none⟩ (.int .i64 (ansE x s).n)).setCell ⟨w.heap.size, 2, none⟩ (.string ⟨(ansE x s).name.toArray⟩)).setCell ⟨w.heap.size, 3, none⟩ (.slice xa xl xc)) := ⟨hbs.os.trans (hb6.os.trans hold.os), hbs.tape.trans (hb6.tape.trans hold.tape), hbs.output.trans (hb6.output.trans hold.output), Nat.le_trans hsz (Nat.le_trans hb6.size hbs.size), fun i hi hne => (hbs.block i (by have := hb6.size; omega) (fun e => by injection e with e; omega)).trans ((hb6.block i (by omega) hne).trans (hold.block i hi))⟩
  have HP := hide (And.intro hred (And.intro hff (And.intro hsr6 hbut)))
  rw [unhide HTE] at HP
  obtain ⟨r0, r1, r2, r3, z0, z1, z2, z3, hrl⟩ := hrs
  clear hf6 h6 hb6 hred hbs hold hsr6 hff hbut hlt1 hsz
  go_wp2
  exact bodyPost_ret (v := treeV (ansE x s) (.slice xa xl xc)) (by simp [results, Tryz.results59, go_sem, r0, r1, r2, r3]) rfl ⟨x, s, .slice xa xl xc, (unhide HP).1, rfl, (unhide HP).2.1, (unhide HP).2.2.1, (unhide HP).2.2.2⟩
end Go.Proofs.YtdpjipphbhomkaaGreatDoor.Line

namespace Go.Proofs.YtdpjipphbhomkaaGreatDoor.Line
open Go.ChangeShapes Go.WideShapes Go.ChangeAt Go.RowKit
open Ex (E St)
set_option linter.unusedVariables false

abbrev STT : TypeId := 30
abbrev stZ (k : Int) : Array Value := #[.int .i64 k, .slice none 0 0, .int .i64 0, .int .i64 0, .string ⟨#[]⟩, .slice none 0 0, .int .i64 0, .int .i64 0, .string ⟨#[]⟩, .slice none 0 0, .string ⟨#[]⟩, .int .i64 0, .int .i64 0, .string ⟨#[]⟩, .slice none 0 0, .int .i64 0, .int .i64 0, .string ⟨#[]⟩, .slice none 0 0, .string ⟨#[]⟩, .int .i64 0, .int .i64 0, .string ⟨#[]⟩, .slice none 0 0, .int .i64 0, .int .i64 0, .string ⟨#[]⟩, .slice none 0 0, .int .i64 0]
/-- a block that holds a statement -/
def StAt (w : World) (q : Nat) (cs : Array Value) : Prop := w.heap[q]? = some (.cells cs STT (0, 0)) ∧ cs.size = 29
theorem infoS : (Tryz.prog.info? STT).map (·.size) = some 29 := by kernel_rfl
theorem undS : ∃ d, Tryz.prog.underlying STT = some d ∧ (match d with | .struct _ | .array _ _ => true | _ => false) = true := ⟨_, Tryz.underlying30, rfl⟩
theorem StAt.lt {w : World} {q : Nat} {cs : Array Value} (h : StAt w q cs) : q < w.heap.size := (Array.getElem?_eq_some_iff.1 h.1).1
theorem StAt.keep {w w' : World} {q : Nat} {cs : Array Value} (h : StAt w q cs) (hb : w'.heap[q]? = w.heap[q]?) : StAt w' q cs := ⟨hb.trans h.1, h.2⟩
theorem wpList_storeNew {ops : Array Oper} {rest : List Oper} {op : Oper} {a : Act} {w : World} {Q : Exit → Act → World → Prop} (hgd : op.guard = none) (x y : Operand) (ho : op.op = .store STT x y) (c c' : Array Value)
    (hx : a.eval x = .pointer (some ⟨w.heap.size, 0, none⟩)) (hy : a.eval y = .agg c') (hc : c.size = 29) (hc' : c'.size = 29) (h1 : c'.all (·.oneCell') = true)
    (h : wpList Tryz.prog ops Q rest (a.put op.dst undef) (w.alloc (.cells c' STT))) : wpList Tryz.prog ops Q (op :: rest) a (w.alloc (.cells c STT)) :=
  wpList_plain hgd fun K hK => by
    unfold Oper.wp execOp
    simp only [ho, hx, hy, Instr.storeAt, Instr.sureAddr, Sem.run_bind, Sem.run_pure, Result.andThen_ok, run_storeVar_new (P := Tryz.prog) w STT c c' (by rw [hc']; exact infoS) (by rw [hc, hc']) h1]
    exact hK _ _ h
theorem wpList_storeRow {ops : Array Oper} {rest : List Oper} {op : Oper} {a : Act} {w : World} {Q : Exit → Act → World → Prop} (hgd : op.guard = none) (x y : Operand) (ho : op.op = .store STT x y) (g : Nat) (c c' : Array Value)
    (hx : a.eval x = .pointer (some ⟨g, 0, none⟩)) (hy : a.eval y = .agg c') (hs : StAt w g c) (hc' : c'.size = 29) (h1 : c'.all (·.oneCell') = true)
    (h : wpList Tryz.prog ops Q rest (a.put op.dst undef) (w.setRow g c')) : wpList Tryz.prog ops Q (op :: rest) a w :=
  wpList_plain hgd fun K hK => by
    unfold Oper.wp execOp
    simp only [ho, hx, hy, Instr.storeAt, Instr.sureAddr, Sem.run_bind, Sem.run_pure, Result.andThen_ok, run_storeVar_row (P := Tryz.prog) w g STT STT c c' hs.1 (by rw [hc']; exact infoS) (by rw [hs.2, hc']) h1]
    exact hK _ _ h
theorem wpList_loadRow {ops : Array Oper} {rest : List Oper} {op : Oper} {a : Act} {w : World} {Q : Exit → Act → World → Prop} (hgd : op.guard = none) (x : Operand) (ho : op.op = .load STT x) (g : Nat) (c : Array Value)
    (hx : a.eval x = .pointer (some ⟨g, 0, none⟩)) (hs : StAt w g c)
    (h : wpList Tryz.prog ops Q rest (a.put op.dst (.agg c)) w) : wpList Tryz.prog ops Q (op :: rest) a w :=
  wpList_load_row hgd STT x ho g hx STT c (0, 0) _ hs.1 Tryz.underlying30 rfl (by rw [hs.2]; exact infoS) h
theorem StAt.setRow {w : World} {g : Nat} {c c' : Array Value} (h : StAt w g c) (hc' : c'.size = 29) : StAt (w.setRow g c') g c' ∧ But g w (w.setRow g c') := by
  refine ⟨⟨?_, hc'⟩, ⟨rfl, rfl, rfl, by simp [World.setRow], fun i hi hne => ?_⟩⟩
  · show (w.heap.modify g _)[g]? = _
    rw [Array.getElem?_modify, if_pos rfl, h.1]
    rfl
  · show (w.heap.modify g _)[i]? = _
    rw [Array.getElem?_modify, if_neg (fun e => hne (by rw [e]))]
theorem StAt.new (w : World) (c : Array Value) (hc : c.size = 29) : StAt (w.alloc (.cells c STT)) w.heap.size c := ⟨heap_alloc_last w _, hc⟩
theorem stBut {rb g : Nat} {w W W' : World} (h : But rb w W) (hb : But g W W') (hg : w.heap.size ≤ g) : But rb w W' := ⟨hb.os.trans h.os, hb.tape.trans h.tape, hb.output.trans h.output, Nat.le_trans h.size hb.size, fun i hi hne => (hb.block i (Nat.lt_of_lt_of_le hi h.size) (fun e => by injection e with e; omega)).trans (h.block i hi hne)⟩
theorem stZ_one (k : Int) : (stZ k).all (·.oneCell') = true := by kernel_rfl
set_option maxHeartbeats 8000000 in
set_option maxRecDepth 100000 in
theorem stmt_plain (k : Int) (hk : k = 0 ∨ k = 4 ∨ k = 6 ∨ k = 7) (T : List Words.T) (L : Value) (rb : Nat) (w : World) (p' : Nat) (er' : SE) (hlt : rb < w.heap.size) (HLW : ∀ q, L.ownBlock = some q → q < w.heap.size) (HK : ∀ W, Below w.heap.size w W → Calls Tryz.prog 52 #[.pointer (some ⟨rb, 0, none⟩)] W fun e w' => e = .returned (.int .i64 k) ∧ SR T L rb w' p' er' ∧ But rb W w') : Calls Tryz.prog 21 #[.pointer (some ⟨rb, 0, none⟩)] w fun e w' => e = .returned (.agg (stZ k)) ∧ SR T L rb w' p' er' ∧ But rb w w' := by
  have ba := alloc_below w (.cells (stZ 0) STT)
  have HKA := hide (HK _ ba)
  have HB := hide (And.intro ba (And.intro (StAt.new w (stZ 0) rfl) HLW))
  clear HK ba HLW
  have k1 : ¬ k = 1 := by omega
  have k2 : ¬ k = 2 := by omega
  have k3 : ¬ k = 3 := by omega
  have k5 : ¬ k = 5 := by omega
  have k8 : ¬ k = 8 := by omega
  have k9 : ¬ k = 9 := by omega
  have kb1 : (k == 1) = false := beq_eq_false_iff_ne.2 k1
  have kb2 : (k == 2) = false := beq_eq_false_iff_ne.2 k2
  have kb3 : (k == 3) = false := beq_eq_false_iff_ne.2 k3
  have kb5 : (k == 5) = false := beq_eq_false_iff_ne.2 k5
  have kb8 : (k == 8) = false := beq_eq_false_iff_ne.2 k8
  have kb9 : (k == 9) = false := beq_eq_false_iff_ne.2 k9
  clear hk
  go_enter Tryz.func21, Tryz.ntmps21
  go_wp2_with fail
  refine (unhide HKA).mono ?_
  rintro e w3 ⟨rfl, h3, hb3⟩
  have hst := (unhide HB).2.1.keep (hb3.block w.heap.size (unhide HB).2.1.lt (fun e => by injection e with e; omega))
  have ba3 := alloc_below w3 (.cells (stZ k) STT)
  have hst3 := hst.keep (ba3.block _ hst.lt)
  have hsq := StAt.new w3 (stZ k) rfl
  have H3 := hide (And.intro (h3.below ba3) (And.intro (((but_below (rb := rb) (unhide HB).1).trans hb3).trans (but_below ba3)) (And.intro hst3 hsq)))
  have hl3 := hst.lt
  clear h3 hb3 hst ba3 hst3 hsq
  go_upto_region 24 with (refine wpList_storeNew rfl _ _ rfl _ _ rfl rfl rfl rfl (by kernel_rfl) ?_)
  generalize w3.alloc (.cells (stZ k) STT) = W4 at *
  have hset := (unhide H3).2.2.1.setRow (c' := stZ k) rfl
  have hsr := (unhide H3).1.otherS hset.2 (by omega) (fun e => by have := (unhide HB).2.2 _ e; omega) (cell_of_row _ _ 1 _ _ _ (unhide H3).2.2.1.1)
  have hbb := stBut (unhide H3).2.1 hset.2 (Nat.le_refl _)
  have hone := stZ_one k
  have hsz : (stZ k).size = 29 := rfl
  have HE := hide (And.intro hset.1 (And.intro hsr hbb))
  clear hset hsr hbb
  go_wp2_with (first | (refine wpList_loadRow rfl _ rfl _ _ rfl (unhide H3).2.2.2 ?_) | (refine wpList_storeRow rfl _ _ rfl _ _ _ rfl rfl (unhide H3).2.2.1 hsz hone ?_))
  exact bodyPost_ret (results_cell_row rfl _ _ w.heap.size STT (stZ k) (0, 0) _ rfl (unhide HE).1.1 Tryz.underlying30 rfl infoS) rfl ⟨rfl, (unhide HE).2⟩
end Go.Proofs.YtdpjipphbhomkaaGreatDoor.Line

namespace Go.Proofs.YtdpjipphbhomkaaGreatDoor.Line
open Go.ChangeShapes Go.WideShapes Go.ChangeAt Go.RowKit
open Ex (E St)
set_option linter.unusedVariables false

/-- how an expression is read that begins at p and ends at hi at the latest -/
def XR (T : List Words.T) (p hi : Nat) (er : SE) (x : E) (p' : Nat) (er' : SE) : Prop := (er ≠ .ok ∧ x = E.none ∧ p' = p ∧ er' = er) ∨ (er = .ok ∧ ∃ x0 s, Ex.RExpr ((T.drop p).take (hi - p)) 0 s00 (x0, s) ∧ x = ansE x0 s ∧ p' = behP p s ∧ er' = behE p s)
def TR (T : List Words.T) (p : Nat) (er : SE) (x : E) (p' : Nat) (er' : SE) : Prop := (isKind T p er 1 = false ∧ x = E.none ∧ p' = p ∧ er' = failE er p 2) ∨ (isKind T p er 1 = true ∧ XR T p (tEnd T p) .ok x p' er')
theorem expr_any (HPARSE : ParseSpec) (T : List Words.T) (L : Value) (rb : Nat) (w : World) (p hi : Nat) (er : SE) (h : SR T L rb w p er) (hG : Glob w) (h1 : p ≤ hi) (h2 : hi ≤ T.length) : Calls Tryz.prog 56 #[.pointer (some ⟨rb, 0, none⟩), .int .i64 hi] w fun e w' => ∃ x a n c p' er', XR T p hi er x p' er' ∧ e = .returned (treeV x (.slice a n c)) ∧ Forest w' (fun b => w.heap.size ≤ b) x.a (.slice a n c) ∧ SR T L rb w' p' er' ∧ But rb w w' := by
  by_cases he : er = .ok
  · subst he
    refine (exprOk_any HPARSE T L rb w p hi h hG h1 h2).mono ?_
    rintro e w' ⟨x, s, sl, hr, rfl, hf, hs, hb⟩
    obtain ⟨a, c, rfl⟩ := hf.shape
    exact ⟨_, a, _, c, _, _, .inr ⟨rfl, x, s, hr, rfl, rfl, rfl⟩, rfl, hf, hs, hb⟩
  · refine (exprBad_any T L rb w p hi er h he).mono ?_
    rintro e w' ⟨rfl, hs, hb⟩
    exact ⟨E.none, none, 0, 0, p, er, .inl ⟨he, rfl, rfl, rfl⟩, rfl, .nil none 0, hs, hb⟩
theorem target_any (HPARSE : ParseSpec) (T : List Words.T) (L : Value) (rb : Nat) (w : World) (p : Nat) (er : SE) (h : SR T L rb w p er) (hG : Glob w) : Calls Tryz.prog 59 #[.pointer (some ⟨rb, 0, none⟩)] w fun e w' => ∃ x a n c p' er', TR T p er x p' er' ∧ e = .returned (treeV x (.slice a n c)) ∧ Forest w' (fun b => w.heap.size ≤ b) x.a (.slice a n c) ∧ SR T L rb w' p' er' ∧ But rb w w' := by
  cases hk : isKind T p er 1 with
  | true =>
    have hok := isKind_ok hk
    subst hok
    refine (targetOk_any HPARSE T L rb w p h hG hk).mono ?_
    rintro e w' ⟨x, s, sl, hr, rfl, hf, hs, hb⟩
    obtain ⟨a, c, rfl⟩ := hf.shape
    exact ⟨_, a, _, c, _, _, .inr ⟨hk, .inr ⟨rfl, x, s, hr, rfl, rfl, rfl⟩⟩, rfl, hf, hs, hb⟩
  | false =>
    refine (targetBad_any T L rb w p er h hk).mono ?_
    rintro e w' ⟨rfl, hs, hb⟩
    exact ⟨E.none, none, 0, 0, p, _, .inl ⟨hk, rfl, rfl, rfl⟩, rfl, .nil none 0, hs, hb⟩
theorem StAt.cell {w : World} {q : Nat} {cs : Array Value} (h : StAt w q cs) (i : Nat) (v : Value) (hv : cs[i]? = some v) : w.cell? ⟨q, i, none⟩ = some v := (cell_of_row _ _ i _ _ _ h.1).trans hv
theorem StAt.frozen {w : World} {q : Nat} {cs : Array Value} (h : StAt w q cs) (i : Nat) : w.frozen? ⟨q, i, none⟩ = false := frozen_of_row _ _ i _ _ h.1
theorem StAt.set {w : World} {q : Nat} {cs : Array Value} (h : StAt w q cs) (i : Nat) (v : Value) : StAt (w.setCell ⟨q, i, none⟩ v) q (cs.setIfInBounds i v) ∧ But q w (w.setCell ⟨q, i, none⟩ v) := by
  refine ⟨⟨?_, by rw [Array.size_setIfInBounds]; exact h.2⟩, set_but q w i v⟩
  have := h.1
  show (w.setCell ⟨q, i, none⟩ v).heap[q]? = _
  simp [World.setCell, Array.getElem?_modify, this]
structure MidSt (T : List Words.T) (L : Value) (rb : Nat) (w W : World) (q : Nat) (cs : Array Value) (p : Nat) (er : SE) : Prop where
  var : StAt W q cs
  res : StAt W w.heap.size (stZ 0)
  rd : SR T L rb W p er
  old : But rb w W
  qq : w.heap.size < q
  c1 : ∃ a n c, cs[1]? = some (.slice a n c)
  hl : rb < w.heap.size
  lw : ∀ q, L.ownBlock = some q → q < w.heap.size
theorem MidSt.call {T : List Words.T} {L : Value} {rb : Nat} {w W W' : World} {q : Nat} {cs : Array Value} {p p' : Nat} {er er' : SE} (h : MidSt T L rb w W q cs p er) (hs : SR T L rb W' p' er') (hb : But rb W W') : MidSt T L rb w W' q cs p' er' := by
  have hq := h.qq
  have hl := h.hl
  exact ⟨h.var.keep (hb.block q h.var.lt (fun e => by injection e with e; omega)), h.res.keep (hb.block _ h.res.lt (fun e => by injection e with e; omega)), hs, h.old.trans hb, hq, h.c1, hl, h.lw⟩
theorem MidSt.set {T : List Words.T} {L : Value} {rb : Nat} {w W : World} {q : Nat} {cs : Array Value} {p : Nat} {er : SE} (h : MidSt T L rb w W q cs p er) (i : Nat) (v : Value) (hv : i = 1 → ∃ a n c, v = .slice a n c) : MidSt T L rb w (W.setCell ⟨q, i, none⟩ v) q (cs.setIfInBounds i v) p er := by
  have hq := h.qq
  have hl := h.hl
  obtain ⟨h1, hb⟩ := h.var.set i v
  obtain ⟨a, n, c, hc⟩ := h.c1
  refine ⟨h1, h.res.keep (hb.block _ h.res.lt (fun e => by injection e with e; omega)), h.rd.otherS hb (by omega) (fun e => by have := h.lw _ e; omega) (h.var.cell 1 _ hc), stBut h.old hb (by omega), hq, ?_, hl, h.lw⟩
  by_cases hi : i = 1
  · subst hi
    obtain ⟨a', n', c', rfl⟩ := hv rfl
    have := h.var.2
    exact ⟨a', n', c', by simp [this]⟩
  · exact ⟨a, n, c, by rw [Array.getElem?_setIfInBounds, if_neg hi]; exact hc⟩
theorem MidSt.set4 {T : List Words.T} {L : Value} {rb : Nat} {w W : World} {q : Nat} {cs : Array Value} {p : Nat} {er : SE} (h : MidSt T L rb w W q cs p er) (i : Nat) (hi : 2 ≤ i) (a b c d : Value) : MidSt T L rb w ((((W.setCell ⟨q, i, none⟩ a).setCell ⟨q, i + 1, none⟩ b).setCell ⟨q, i + 2, none⟩ c).setCell ⟨q, i + 3, none⟩ d) q ((((cs.setIfInBounds i a).setIfInBounds (i + 1) b).setIfInBounds (i + 2) c).setIfInBounds (i + 3) d) p er :=
  (((h.set i a (fun e => by omega)).set (i + 1) b (fun e => by omega)).set (i + 2) c (fun e => by omega)).set (i + 3) d (fun e => by omega)
/-- what is given back: the variable, copied into the result -/
theorem MidSt.done {T : List Words.T} {L : Value} {rb : Nat} {w W : World} {q : Nat} {cs : Array Value} {p : Nat} {er : SE} (h : MidSt T L rb w W q cs p er) : StAt (W.setRow w.heap.size cs) w.heap.size cs ∧ SR T L rb (W.setRow w.heap.size cs) p er ∧ But rb w (W.setRow w.heap.size cs) ∧ But w.heap.size W (W.setRow w.heap.size cs) := by
  have hl := h.hl
  obtain ⟨h1, hb⟩ := h.res.setRow (c' := cs) h.var.2
  exact ⟨h1, h.rd.otherS hb (by omega) (fun e => by have := h.lw _ e; omega) (cell_of_row _ _ 1 _ _ _ h.res.1), stBut h.old hb (Nat.le_refl _), hb⟩
theorem midSt_start {T : List Words.T} {L : Value} {rb : Nat} {w w3 : World} {p : Nat} {er : SE} (k : Int) (h3 : SR T L rb w3 p er) (hb3 : But rb (w.alloc (.cells (stZ 0) STT)) w3) (hl : rb < w.heap.size) (hlw : ∀ q, L.ownBlock = some q → q < w.heap.size) : MidSt T L rb w (w3.alloc (.cells (stZ k) STT)) w3.heap.size (stZ k) p er := by
  have ba := alloc_below w (.cells (stZ 0) STT)
  have hr := StAt.new w (stZ 0) rfl
  have hst := hr.keep (hb3.block w.heap.size hr.lt (fun e => by injection e with e; omega))
  have ba3 := alloc_below w3 (.cells (stZ k) STT)
  exact ⟨StAt.new w3 (stZ k) rfl, hst.keep (ba3.block _ hst.lt), h3.below ba3, ((but_below ba).trans hb3).trans (but_below ba3), hst.lt, ⟨none, 0, 0, rfl⟩, hl, hlw⟩
end Go.Proofs.YtdpjipphbhomkaaGreatDoor.Line
