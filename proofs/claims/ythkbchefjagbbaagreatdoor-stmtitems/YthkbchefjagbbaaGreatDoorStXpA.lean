/- The contracts of the statement reader's took, step.
   The contracts of the statement reader's expression and cond, over those of the project's Parse, ParseCond. -/
import Derived.Test.YthkbchefjagbbaaGreatDoorStFnAll
import Derived.Test.YthkbchefjagbbaaGreatDoorAsB
import Derived.Test.YthkbchefjagbbaaGreatDoorBaseAll
import Derived.Deep.RegionLaw
import Derived.Test.YthkbchefjagbbaaGreatDoorExMem
import Derived.Test.YthkbchefjagbbaaGreatDoorPlainAll
import Derived.Test.YthkbchefjagbbaaGreatDoorExRef
import Derived.Deep.DeepCutAuto
namespace Go.Proofs.YthkbchefjagbbaaGreatDoor.Line
open Go.ChangeShapes Go.WideShapes Go.ChangeAt Go.RowKit
open Ex (E St)
set_option linter.unusedVariables false

set_option maxHeartbeats 4000000 in
set_option maxRecDepth 100000 in
theorem tookOk_any (T : List Words.T) (L : Value) (rb : Nat) (w : World) (p n : Nat) (er : SE) (h : SR T L rb w p er) (hn : p + n ≤ T.length) : Calls Tryz.prog 153 #[.pointer (some ⟨rb, 0, none⟩), .int .i64 n, .nilIface] w fun e w' => e = .returned (.tuple #[]) ∧ SR T L rb w' (p + n) er ∧ But rb w w' := by
  have c1 := h.c1
  have f1 := h.f1
  have ht := h.ht
  have H2 := hide (h.at1 (p' := p + n) hn)
  clear h
  have e1 : ((p + n : Nat) : Int) = (p : Int) + n := by omega
  rw [e1] at H2
  clear e1
  go_enter Tryz.func153, Tryz.ntmps153
  go_wp2
  exact bodyPost_ret (v := .tuple #[]) (by simp [results, Tryz.results153, go_sem]) rfl ⟨rfl, unhide H2, set_but rb _ 1 _⟩
set_option maxHeartbeats 4000000 in
set_option maxRecDepth 100000 in
theorem tookErr_any (T : List Words.T) (L : Value) (rb : Nat) (w : World) (p n b2 k e : Nat) (h : SR T L rb w p .ok) (hG : Glob w) (hl2 : Leaf w b2 wExpr k e) (hb2 : rb + 1 ≤ b2) (hk : p + k ≤ T.length) : Calls Tryz.prog 153 #[.pointer (some ⟨rb, 0, none⟩), .int .i64 n, .iface FPT (.pointer (some ⟨b2, 0, none⟩))] w fun e' w' => e' = .returned (.tuple #[]) ∧ SR T L rb w' (p + k) (.sub (p + k) k e) ∧ But rb w w' := by
  have ht := h.ht
  have hlt := h.lt
  have ba := alloc_below w (.cells #[.pointer none] FPT)
  have hz : (w.alloc (.cells #[.pointer none] FPT)).heap.size = w.heap.size + 1 := by simp
  have t0 : (w.alloc (.cells #[.pointer none] FPT)).cell? ⟨w.heap.size, 0, none⟩ = some (.pointer none) := by simp
  have t1 : (w.alloc (.cells #[.pointer none] FPT)).frozen? ⟨w.heap.size, 0, none⟩ = false := by simp
  have H1 := hide (And.intro (h.below ba) (And.intro (hG.below ba) (And.intro (hl2.keep (ba.block b2 hl2.lt)) ba)))
  have HA := hide (Err.as_hit45 ⟨b2, 0, none⟩ ⟨w.heap.size, 0, none⟩ (.pointer none) _ (hG.below ba) t0 t1)
  have hbl := hl2.lt
  have H0 := hide (And.intro h hl2)
  clear h hl2 ba t0 t1 hG
  have e1 : ((p + k : Nat) : Int) = (p : Int) + k := by omega
  go_enter Tryz.func153, Tryz.ntmps153
  go_wp2_with fail
  refine (unhide HA).mono ?_
  rintro ev w2 ⟨rfl, x0, hB2, hS2⟩
  have hB3 : Below w.heap.size w w2 := (unhide H1).2.2.2.trans hB2
  have hS3 : w.heap.size + 1 ≤ w2.heap.size := by rw [← hz]; exact hS2
  have H3 := hide (And.intro ((unhide H0).1.below hB3) (And.intro ((unhide H0).2.keep (hB3.block b2 hbl)) hB3))
  have d1 := (unhide H3).1.c1
  have g1 := (unhide H3).1.f1
  have l1 := (unhide H3).2.1.2.1
  have H4 := hide ((unhide H3).1.at1 (p' := p + k) hk)
  have HL4 := hide ((unhide H3).2.1.keep ((set_but rb w2 1 (.int .i64 ((p + k : Nat) : Int))).block b2 (Nat.lt_of_lt_of_le hbl hB3.size) (fun e => by injection e with e; omega)))
  rw [e1] at H4 HL4
  clear hB2 hB3 H1 HA
  go_wp2_with fail
  go_region
  all_goals (
    go_wp2_with fail
    refine (failSub_any T L rb _ (p + k) b2 k e ((unhide H4).drewN 1) ((unhide HL4).keep rfl) hb2).mono ?_
    rintro ev w5 ⟨rfl, h5, hb5⟩
    have H5 := hide (And.intro h5 ((((but_below (unhide H3).2.2).trans (set_but rb w2 1 _)).drewN 1).trans hb5))
    clear h5 hb5
    go_wp2
    go_end0
    exact ⟨rfl, unhide H5⟩)
/-- how a step is read: its number, the place behind, what is wrong -/
def stepR (T : List Words.T) (p : Nat) (er : SE) : Int × Nat × SE :=
  if isNext T p er [44] then
    (if isNext T (p + 1) er [45] then (-(numAt T (p + 2) (isKind T (p + 2) er 2) : Int), nextP (isKind T (p + 2) er 2) (p + 2), mustE (isKind T (p + 2) er 2) er (p + 2))
     else ((numAt T (p + 1) (isKind T (p + 1) er 2) : Int), nextP (isKind T (p + 1) er 2) (p + 1), mustE (isKind T (p + 1) er 2) er (p + 1)))
  else (1, p, er)
def NumOk (T : List Words.T) : Prop := ∀ t ∈ T, t.n ≤ 9223372036854775807
theorem numAt_le {T : List Words.T} (h : NumOk T) (p : Nat) (b : Bool) : numAt T p b ≤ 9223372036854775807 := by
  unfold numAt
  cases b with
  | false => exact Nat.zero_le _
  | true =>
    rw [if_pos rfl]
    split
    · rename_i t ht
      exact h t (List.mem_of_getElem? ht)
    · exact Nat.zero_le _
set_option maxHeartbeats 4000000 in
set_option maxRecDepth 100000 in
theorem step_any (T : List Words.T) (L : Value) (rb : Nat) (w : World) (p : Nat) (er : SE) (h : SR T L rb w p er) (hN : NumOk T) : Calls Tryz.prog 103 #[.pointer (some ⟨rb, 0, none⟩)] w fun e w' => e = .returned (.int .i64 (stepR T p er).1) ∧ SR T L rb w' (stepR T p er).2.1 (stepR T p er).2.2 ∧ But rb w w' := by
  have HS := hide (takes_any T L rb w p er [44] h)
  unfold stepR
  cases hbb : isNext T p er [44] with
  | false =>
    rw [hbb] at HS
    rw [if_neg (by decide)]
    clear h hbb
    go_enter Tryz.func103, Tryz.ntmps103
    go_wp2_with fail
    refine (unhide HS).mono ?_
    rintro e w1 ⟨rfl, h1, hb1⟩
    have H1 := hide (And.intro h1 hb1)
    clear h1 hb1
    go_wp2
    go_ret
    exact ⟨rfl, unhide H1⟩
  | true =>
    rw [hbb] at HS
    rw [if_pos rfl]
    clear h hbb
    have HS2 : Hid (∀ W, SR T L rb W (p + 1) er → _) := hide (fun W hW => takes_any T L rb W (p + 1) er [45] hW)
    cases hb2 : isNext T (p + 1) er [45] with
    | true =>
      rw [hb2] at HS2
      rw [if_pos rfl]
      have hnl := numAt_le hN (p + 2) (isKind T (p + 2) er 2)
      have HN2 := hide (fun W hW => number_any T L rb W (p + 2) er hW)
      generalize numAt T (p + 2) (isKind T (p + 2) er 2) = m at *
      clear hb2
      go_enter Tryz.func103, Tryz.ntmps103
      go_wp2_with fail
      refine (unhide HS).mono ?_
      rintro e w1 ⟨rfl, h1, hb1⟩
      have H1 := hide (And.intro h1 hb1)
      clear h1 hb1
      go_wp2_with fail
      refine (unhide HS2 w1 (unhide H1).1).mono ?_
      rintro e w2 ⟨rfl, h2, hb2⟩
      have H2 := hide (And.intro h2 ((unhide H1).2.trans hb2))
      clear h2 hb2
      go_wp2_with fail
      refine (unhide HN2 w2 (unhide H2).1).mono ?_
      rintro e w3 ⟨rfl, h3, hb3⟩
      have H3 := hide (And.intro h3 ((unhide H2).2.trans hb3))
      clear h3 hb3
      go_wp2
      go_ret
      exact ⟨rfl, unhide H3⟩
    | false =>
      rw [hb2] at HS2
      rw [if_neg (by decide)]
      have HN2 := hide (fun W hW => number_any T L rb W (p + 1) er hW)
      generalize numAt T (p + 1) (isKind T (p + 1) er 2) = m at *
      clear hb2
      go_enter Tryz.func103, Tryz.ntmps103
      go_wp2_with fail
      refine (unhide HS).mono ?_
      rintro e w1 ⟨rfl, h1, hb1⟩
      have H1 := hide (And.intro h1 hb1)
      clear h1 hb1
      go_wp2_with fail
      refine (unhide HS2 w1 (unhide H1).1).mono ?_
      rintro e w2 ⟨rfl, h2, hb2⟩
      have H2 := hide (And.intro h2 ((unhide H1).2.trans hb2))
      clear h2 hb2
      go_wp2_with fail
      refine (unhide HN2 w2 (unhide H2).1).mono ?_
      rintro e w3 ⟨rfl, h3, hb3⟩
      have H3 := hide (And.intro h3 ((unhide H2).2.trans hb3))
      clear h3 hb3
      go_wp2
      go_ret
      exact ⟨rfl, unhide H3⟩
end Go.Proofs.YthkbchefjagbbaaGreatDoor.Line

namespace Go.Proofs.YthkbchefjagbbaaGreatDoor.Line
open Go.ChangeShapes Go.WideShapes Go.ChangeAt Go.RowKit
open Ex (E St)
set_option linter.unusedVariables false

/-- where the reader is behind an expression that began at p; what is wrong -/
def behP (p : Nat) (s : St) : Nat := if s.err = 0 then p + s.pos else p + s.bad
def behE (p : Nat) (s : St) : SE := if s.err = 0 then .ok else .sub (p + s.bad) s.bad s.err
def ExprPost (T : List Words.T) (L : Value) (rb : Nat) (w : World) (p hi : Nat) (e : Ending) (w' : World) : Prop :=
  ∃ x s sl, Ex.RExpr ((T.drop p).take (hi - p)) 0 s00 (x, s) ∧ e = .returned (treeV (ansE x s) sl) ∧ Forest w' (fun b => w.heap.size ≤ b) (ansE x s).a sl ∧ SR T L rb w' (behP p s) (behE p s) ∧ But rb w w'
theorem beh_le {T : List Words.T} {p hi : Nat} {x : E} {s : St} (h : Ex.RExpr ((T.drop p).take (hi - p)) 0 s00 (x, s)) (hp : p ≤ hi) (hh : hi ≤ T.length) : p + s.pos ≤ T.length ∧ p + s.bad ≤ T.length := by
  have h1 := Ex.RExpr.inn h ⟨Nat.zero_le _, Nat.zero_le _⟩
  have hl : ((T.drop p).take (hi - p)).length = hi - p := by rw [List.length_take, List.length_drop]; omega
  unfold Ex.In at h1
  rw [hl] at h1
  omega
theorem says_leaf {B : Nat} {w : World} {g : Value} {k er : Nat} (h : Says B w g wExpr k er) (he : er ≠ 0) : ∃ b, B ≤ b ∧ g = .iface FPT (.pointer (some ⟨b, 0, none⟩)) ∧ Leaf w b wExpr k er := by
  rcases h with ⟨h0, _⟩ | ⟨_, b, hb, hg, h0, h1, h2⟩
  · exact absurd h0 he
  · exact ⟨b, hb, hg, h0, h1, h2⟩
set_option maxHeartbeats 8000000 in
set_option maxRecDepth 100000 in
theorem exprBad_any (T : List Words.T) (L : Value) (rb : Nat) (w : World) (p hi : Nat) (er : SE) (h : SR T L rb w p er) (he : er ≠ .ok) : Calls Tryz.prog 102 #[.pointer (some ⟨rb, 0, none⟩), .int .i64 hi] w fun e w' => e = .returned (treeV E.none (.slice none 0 0)) ∧ SR T L rb w' p er ∧ But rb w w' := by
  obtain ⟨g, hg, hs⟩ := h.ce
  have hl := h.lt
  obtain ⟨b, rfl⟩ : ∃ b, g = .iface FPT (.pointer (some ⟨b, 0, none⟩)) := by
    rcases hs.shape with ⟨h0, _⟩ | ⟨_, b, hb⟩
    · exact absurd h0 he
    · exact ⟨b, hb⟩
  have ba := alloc_below w (.cells #[.int .i64 0, .int .i64 0, .string ⟨#[]⟩, .slice none 0 0] 24)
  have H1 := hide (And.intro (h.below ba) ba)
  clear h hs ba he
  go_enter Tryz.func102, Tryz.ntmps102
  go_wp2
  exact bodyPost_ret (v := treeV E.none (.slice none 0 0)) (by simp [results, Tryz.results102, go_sem]; exact ⟨rfl, rfl, rfl⟩) rfl ⟨rfl, (unhide H1).1, but_below (unhide H1).2⟩
theorem says_nilS {B : Nat} {w : World} {g : Value} {word : List UInt8} {p er : Nat} (h : Says B w g word p er) (he : er = 0) : g = .nilIface := by
  rcases h with ⟨_, h0⟩ | ⟨h0, _⟩
  · exact h0
  · exact absurd he h0
theorem drew_belowS (W : World) : Below W.heap.size W W.drew := below_drewN (Below.refl _ _) 1
theorem box4_at {W w5 : World} {z0 z1 z2 z3 : Value} {t : TypeId} (hb : Below (W.alloc (.cells #[z0, z1, z2, z3] t)).drew.heap.size (W.alloc (.cells #[z0, z1, z2, z3] t)).drew w5) : (w5.cell? ⟨W.heap.size, 0, none⟩ = some z0 ∧ w5.cell? ⟨W.heap.size, 1, none⟩ = some z1 ∧ w5.cell? ⟨W.heap.size, 2, none⟩ = some z2 ∧ w5.cell? ⟨W.heap.size, 3, none⟩ = some z3) ∧ (w5.frozen? ⟨W.heap.size, 0, none⟩ = false ∧ w5.frozen? ⟨W.heap.size, 1, none⟩ = false ∧ w5.frozen? ⟨W.heap.size, 2, none⟩ = false ∧ w5.frozen? ⟨W.heap.size, 3, none⟩ = false) ∧ W.heap.size < w5.heap.size ∧ Below W.heap.size W w5 := by
  have hb' := bthen (drew_belowS _) hb
  have h0 : (W.alloc (.cells #[z0, z1, z2, z3] t)).heap.size = W.heap.size + 1 := by simp
  have hs := hb'.size
  have hc : ∀ o, w5.cell? ⟨W.heap.size, o, none⟩ = (W.alloc (.cells #[z0, z1, z2, z3] t)).cell? ⟨W.heap.size, o, none⟩ := fun o => hb'.cell (p := ⟨W.heap.size, o, none⟩) (show W.heap.size < _ by omega)
  have hf : ∀ o, w5.frozen? ⟨W.heap.size, o, none⟩ = (W.alloc (.cells #[z0, z1, z2, z3] t)).frozen? ⟨W.heap.size, o, none⟩ := fun o => hb'.frozen (p := ⟨W.heap.size, o, none⟩) (show W.heap.size < _ by omega)
  exact ⟨⟨(hc 0).trans (by simp), (hc 1).trans (by simp), (hc 2).trans (by simp), (hc 3).trans (by simp)⟩, ⟨(hf 0).trans (by simp), (hf 1).trans (by simp), (hf 2).trans (by simp), (hf 3).trans (by simp)⟩, by omega, bthen (alloc_below W _) hb'⟩
theorem SR.other {T : List Words.T} {L : Value} {rb q : Nat} {w w' : World} {p : Nat} (h : SR T L rb w p .ok) (hb : But q w w') (hne : rb ≠ q) (hL : L.ownBlock ≠ some q) : SR T L rb w' p .ok := by
  have hk := hb.block rb h.lt (fun e => hne (by injection e))
  have hc : ∀ o, w'.cell? ⟨rb, o, none⟩ = w.cell? ⟨rb, o, none⟩ := fun o => World.cell?_of_block (a := ⟨rb, o, none⟩) hk
  have hf : ∀ o, w'.frozen? ⟨rb, o, none⟩ = w.frozen? ⟨rb, o, none⟩ := fun o => World.frozen?_of_block (a := ⟨rb, o, none⟩) hk
  obtain ⟨g, hg, hs⟩ := h.ce
  exact ⟨(hc 0).trans h.c0, (hc 1).trans h.c1, ⟨g, (hc 2).trans hg, hs⟩, (hf 1).trans h.f1, (hf 2).trans h.f2, Nat.lt_of_lt_of_le h.lt hb.size, h.tks.but hb hL, h.own, fun q hq => Nat.lt_of_lt_of_le (h.lw q hq) hb.size, h.hp, h.ht⟩
theorem Se.other {B q : Nat} {w w' : World} {g : Value} {er : SE} {k : IntKind} {v : Int} (h : Se B w g er) (hb : But q w w') (hq : w.cell? ⟨q, 0, none⟩ = some (.int k v)) : Se B w' g er := by
  have hne : ∀ {b : Nat} {l : List UInt8}, w.cell? ⟨b, 0, none⟩ = some (.string ⟨l.toArray⟩) → b ≠ q := fun {b l} h e => by subst e; rw [hq] at h; cases h
  cases er with
  | ok => exact h
  | leaf p e =>
    obtain ⟨b, hB, hg, hl⟩ := h
    exact ⟨b, hB, hg, hl.keep (hb.block b hl.lt (fun e => hne hl.1 (by injection e)))⟩
  | sub p k e =>
    obtain ⟨b, b2, hB, hb2, hg, ⟨h0, h1, h2⟩, hl⟩ := h
    have hc : ∀ o, w'.cell? ⟨b, o, none⟩ = w.cell? ⟨b, o, none⟩ := fun o => hb.cell (p := ⟨b, o, none⟩) (cell_lt h0) (hne h0)
    exact ⟨b, b2, hB, hb2, hg, ⟨(hc 0).trans h0, (hc 1).trans h1, (hc 2).trans h2⟩, hl.keep (hb.block b2 hl.lt (fun e => hne hl.1 (by injection e)))⟩
theorem SR.otherI {T : List Words.T} {L : Value} {rb q : Nat} {w w' : World} {p : Nat} {er : SE} {k : IntKind} {v : Int} (h : SR T L rb w p er) (hb : But q w w') (hne : rb ≠ q) (hL : L.ownBlock ≠ some q) (hq : w.cell? ⟨q, 0, none⟩ = some (.int k v)) : SR T L rb w' p er := by
  have hk := hb.block rb h.lt (fun e => hne (by injection e))
  have hc : ∀ o, w'.cell? ⟨rb, o, none⟩ = w.cell? ⟨rb, o, none⟩ := fun o => World.cell?_of_block (a := ⟨rb, o, none⟩) hk
  have hf : ∀ o, w'.frozen? ⟨rb, o, none⟩ = w.frozen? ⟨rb, o, none⟩ := fun o => World.frozen?_of_block (a := ⟨rb, o, none⟩) hk
  obtain ⟨g, hg, hs⟩ := h.ce
  exact ⟨(hc 0).trans h.c0, (hc 1).trans h.c1, ⟨g, (hc 2).trans hg, hs.other hb hq⟩, (hf 1).trans h.f1, (hf 2).trans h.f2, Nat.lt_of_lt_of_le h.lt hb.size, h.tks.but hb hL, h.own, fun q hq => Nat.lt_of_lt_of_le (h.lw q hq) hb.size, h.hp, h.ht⟩
theorem but_set4 (q : Nat) (w : World) (a b c d : Value) : But q w ((((w.setCell ⟨q, 0, none⟩ a).setCell ⟨q, 1, none⟩ b).setCell ⟨q, 2, none⟩ c).setCell ⟨q, 3, none⟩ d) := (((set_but q w 0 a).trans (set_but q _ 1 b)).trans (set_but q _ 2 c)).trans (set_but q _ 3 d)
theorem box_set4 {w : World} {q : Nat} {z0 z1 z2 z3 : Value} (x : E) (sl : Value) (hc : w.cell? ⟨q, 0, none⟩ = some z0 ∧ w.cell? ⟨q, 1, none⟩ = some z1 ∧ w.cell? ⟨q, 2, none⟩ = some z2 ∧ w.cell? ⟨q, 3, none⟩ = some z3) (hf : w.frozen? ⟨q, 0, none⟩ = false ∧ w.frozen? ⟨q, 1, none⟩ = false ∧ w.frozen? ⟨q, 2, none⟩ = false ∧ w.frozen? ⟨q, 3, none⟩ = false) : Box ((((w.setCell ⟨q, 0, none⟩ (.int .i64 x.kind)).setCell ⟨q, 1, none⟩ (.int .i64 x.n)).setCell ⟨q, 2, none⟩ (.string ⟨x.name.toArray⟩)).setCell ⟨q, 3, none⟩ sl) q x sl := by
  obtain ⟨c0, c1, c2, c3⟩ := hc
  obtain ⟨f0, f1, f2, f3⟩ := hf
  have hfz : ∀ (u : World) (j o : Nat) (v : Value), (u.setCell ⟨q, j, none⟩ v).frozen? ⟨q, o, none⟩ = u.frozen? ⟨q, o, none⟩ := fun u j o v => by simp [go_sem]
  have hs := (but_set4 q w (.int .i64 x.kind) (.int .i64 x.n) (.string ⟨x.name.toArray⟩) sl).size
  exact ⟨set_cell (i := 0) (j := 3) (set_cell (i := 0) (j := 2) (set_cell (i := 0) (j := 1) (set_cell (i := 0) (j := 0) c0))), set_cell (i := 1) (j := 3) (set_cell (i := 1) (j := 2) (set_cell (i := 1) (j := 1) (set_cell (i := 1) (j := 0) c1))), set_cell (i := 2) (j := 3) (set_cell (i := 2) (j := 2) (set_cell (i := 2) (j := 1) (set_cell (i := 2) (j := 0) c2))), set_cell (i := 3) (j := 3) (set_cell (i := 3) (j := 2) (set_cell (i := 3) (j := 1) (set_cell (i := 3) (j := 0) c3))),
    by rw [hfz, hfz, hfz, hfz]; exact f0, by rw [hfz, hfz, hfz, hfz]; exact f1, by rw [hfz, hfz, hfz, hfz]; exact f2, by rw [hfz, hfz, hfz, hfz]; exact f3, Nat.lt_of_lt_of_le (cell_lt c0) hs⟩
/-- behind the call of Parse: the tree in its variable, what was told; the result's own block as it was -/
structure MidX (T : List Words.T) (L : Value) (rb : Nat) (w wx : World) (p hi q : Nat) (x : E) (s : St) (sl g : Value) : Prop where
  red : Ex.RExpr ((T.drop p).take (hi - p)) 0 s00 (x, s)
  box : Box wx q (ansE x s) sl
  res : Box wx w.heap.size E.none (.slice none 0 0)
  qq : w.heap.size < q
  fst : Forest wx (fun b => w.heap.size < b) (ansE x s).a sl
  say : Says (w.heap.size + 1) wx g wExpr s.bad s.err
  rd : SR T L rb wx p .ok
  old : Below w.heap.size w wx
/-- what Parse tells, in the world behind it; w1: the world ahead of it -/
structure PrX (T : List Words.T) (L : Value) (rb : Nat) (w w1 w5 : World) (p hi : Nat) (x : E) (s : St) (sl g : Value) : Prop where
  red : Ex.RExpr ((T.drop p).take (hi - p)) 0 s00 (x, s)
  fst : Forest w5 (fun b => w1.heap.size ≤ b) (ansE x s).a sl
  say : Says w1.heap.size w5 g wExpr s.bad s.err
  rd : SR T L rb w5 p .ok
  res : Box w5 w.heap.size E.none (.slice none 0 0)
  bel : Below w1.heap.size w1 w5
  old : Below w.heap.size w w1
  sz : w.heap.size < w1.heap.size
theorem PrX.late {T : List Words.T} {L : Value} {rb : Nat} {w w1 w5 : World} {p hi : Nat} {x : E} {s : St} {sl g : Value} (h : PrX T L rb w w1 w5 p hi x s sl g) (t : TypeId) : MidX T L rb w (w5.alloc (.cells #[.int .i64 (ansE x s).kind, .int .i64 (ansE x s).n, .string ⟨(ansE x s).name.toArray⟩, sl] t)) p hi w5.heap.size x s sl g := by
  have hb := alloc_below w5 (.cells #[.int .i64 (ansE x s).kind, .int .i64 (ansE x s).n, .string ⟨(ansE x s).name.toArray⟩, sl] t)
  have h1 := h.sz
  have h2 := h.bel.size
  refine ⟨h.red, box_new w5 (ansE x s) sl t, h.res.keep (hb.block _ h.res.lt) hb.size, by omega, (h.fst.old hb).mono (fun b hb _ => by omega), ?_, h.rd.below hb, bthen (bthen h.old h.bel) hb⟩
  rcases h.say.below hb with h0 | ⟨h0, b, hb0, hr⟩
  · exact .inl h0
  · exact .inr ⟨h0, b, by omega, hr⟩
theorem PrX.early {T : List Words.T} {L : Value} {rb : Nat} {w w0 w1 w5 : World} {p hi : Nat} {x : E} {s : St} {sl g : Value} {z0 z1 z2 z3 : Value} (h : PrX T L rb w w1 w5 p hi x s sl g) (hw0 : w0.heap.size < w1.heap.size) (hw : w.heap.size < w0.heap.size) (hL : L.ownBlock ≠ some w0.heap.size) (hrb : rb < w.heap.size)
    (hc : w5.cell? ⟨w0.heap.size, 0, none⟩ = some z0 ∧ w5.cell? ⟨w0.heap.size, 1, none⟩ = some z1 ∧ w5.cell? ⟨w0.heap.size, 2, none⟩ = some z2 ∧ w5.cell? ⟨w0.heap.size, 3, none⟩ = some z3) (hf : w5.frozen? ⟨w0.heap.size, 0, none⟩ = false ∧ w5.frozen? ⟨w0.heap.size, 1, none⟩ = false ∧ w5.frozen? ⟨w0.heap.size, 2, none⟩ = false ∧ w5.frozen? ⟨w0.heap.size, 3, none⟩ = false) :
    MidX T L rb w ((((w5.setCell ⟨w0.heap.size, 0, none⟩ (.int .i64 (ansE x s).kind)).setCell ⟨w0.heap.size, 1, none⟩ (.int .i64 (ansE x s).n)).setCell ⟨w0.heap.size, 2, none⟩ (.string ⟨(ansE x s).name.toArray⟩)).setCell ⟨w0.heap.size, 3, none⟩ sl) p hi w0.heap.size x s sl g := by
  have hb := but_set4 w0.heap.size w5 (.int .i64 (ansE x s).kind) (.int .i64 (ansE x s).n) (.string ⟨(ansE x s).name.toArray⟩) sl
  have h1 := h.sz
  have h2 := h.bel.size
  refine ⟨h.red, box_set4 _ _ hc hf, h.res.but hb (by omega), hw, (h.fst.keep (fun b hS hl => hb.block b hl (fun e => by injection e with e; omega)) (fun b hS hl => by omega)), ?_, h.rd.other hb (by omega) hL, (bthen h.old h.bel).trans (hb.below (by omega) (by have := h.old.size; omega))⟩
  rcases h.say with h0 | ⟨h0, b, hb0, hg, k0, k1, k2⟩
  · exact .inl h0
  · have hc : ∀ o, _ = w5.cell? ⟨b, o, none⟩ := fun o => hb.cell (p := ⟨b, o, none⟩) (cell_lt k0) (show b ≠ w0.heap.size by omega)
    exact .inr ⟨h0, b, by omega, hg, (hc 0).trans k0, (hc 1).trans k1, (hc 2).trans k2⟩
set_option maxHeartbeats 8000000 in
set_option maxRecDepth 100000 in
theorem exprOk_any (HPARSE : ParseSpec) (T : List Words.T) (L : Value) (rb : Nat) (w : World) (p hi : Nat) (h : SR T L rb w p .ok) (hG : Glob w) (h1 : p ≤ hi) (h2 : hi ≤ T.length) : Calls Tryz.prog 102 #[.pointer (some ⟨rb, 0, none⟩), .int .i64 hi] w fun e w' => ExprPost T L rb w p hi e w' := by
  have hl := h.lt
  have ht := h.ht
  obtain ⟨la, lc, hLe, hlc, htk, hob⟩ := h.tks.cut p hi h1 h2
  have hsl : ∀ W, (Instr.slice 46 (.slice la T.length lc) (some (.int .i64 p)) (some (.int .i64 hi)) none).run Tryz.prog W = .ok (.slice (if lc = p then la else la.map (·.add (p * 4))) (hi - p) (lc - p)) W := fun W => runT_slice2 (w := W) la T.length lc p hi h1 (by omega)
  have hlen : ((T.drop p).take (hi - p)).length = hi - p := by rw [List.length_take, List.length_drop]; omega
  have ba := alloc_below w (.cells #[.int .i64 0, .int .i64 0, .string ⟨#[]⟩, .slice none 0 0] 24)
  have hz : (w.alloc (.cells #[.int .i64 0, .int .i64 0, .string ⟨#[]⟩, .slice none 0 0] 24)).heap.size = w.heap.size + 1 := by simp
  have hr1 : Box (w.alloc (.cells #[.int .i64 0, .int .i64 0, .string ⟨#[]⟩, .slice none 0 0] 24)) w.heap.size E.none (.slice none 0 0) := box_new w E.none (.slice none 0 0) 24
  have H1 := hide (And.intro (h.below ba) (And.intro (hG.below ba) ba))
  have HGW := hide hG
  have HOB : Hid (∀ q, (Value.slice (if lc = p then la else la.map (·.add (p * 4))) (hi - p) (lc - p)).ownBlock = some q → q < w.heap.size) := hide (fun q hq => h.lw q (hob q hq))
  have HTK := hide htk
  have HLW := hide h.lw
  obtain ⟨g, hg, hs⟩ := (h.below ba).ce
  obtain rfl : g = .nilIface := hs
  have c0 := (h.below ba).c0
  have c1 := (h.below ba).c1
  generalize hsa : (if lc = p then la else la.map (·.add (p * 4))) = sa at *
  generalize hsn : hi - p = sn at *
  generalize hsc : lc - p = sc at *
  clear hob htk ba hG h hsa hsc
  have HR1 := hide hr1
  clear hr1
  subst hLe
  go_enter Tryz.func102, Tryz.ntmps102
  go_wp2_with fail
  generalize hW1 : (w.alloc (.cells #[.int .i64 0, .int .i64 0, .string ⟨#[]⟩, .slice none 0 0] 24)) = W1 at *
  have HW1 := hide hW1
  clear hW1
  go_cut [5, 6, 7] (fun s5 s6 s7 wx => ∃ x s sl q, s5 = .pointer (some ⟨q, 0, none⟩) ∧ s6 = .int .i64 (ansN s) ∧ Hid (MidX T (.slice la T.length lc) rb w wx p hi q x s sl s7))
  case first =>
    have hne : (Value.slice la T.length lc).ownBlock ≠ some W1.heap.size := fun e => by have := unhide HLW _ e; omega
    have HP : Hid (∀ W, Below W1.heap.size W1 W → Calls Tryz.prog 17 #[.slice sa sn sc] W fun e w' => ∃ x s sa5 sn5 sc5 g, e = .returned (.tuple #[treeV (ansE x s) (.slice sa5 sn5 sc5), .int .i64 (ansN s), g]) ∧ PrX T (.slice la T.length lc) rb w W w' p hi x s (.slice sa5 sn5 sc5) g ∧ Below W.heap.size W w') := hide (fun W hW => by
      have hb0 := bthen (unhide H1).2.2 hW
      refine (HPARSE _ _ W (by rw [hlen]; omega) ((unhide HTK).below hb0) (fun q hq => Nat.lt_of_lt_of_le (unhide HOB q hq) hb0.size)).mono ?_
      rintro e w' ⟨x, s, sl, g, hr, rfl, hf, hs, hb⟩
      obtain ⟨a5, c5, rfl⟩ := hf.shape
      have hzz := hW.size
      exact ⟨x, s, _, _, _, g, rfl, ⟨by rw [hsn]; exact hr, hf, hs, ((unhide H1).1.below hW).below hb, ((unhide HR1).keep (hW.block _ (unhide HR1).lt) hW.size).keep (hb.block _ (by omega)) hb.size, hb, hb0, by omega⟩, hb⟩)
    have HXa := hide (unhide HP W1.drew (drew_belowS W1))
    have HXb : Hid (∀ z0 z1 z2 z3 t, Calls Tryz.prog 17 #[.slice sa sn sc] (W1.alloc (.cells #[z0, z1, z2, z3] t)).drew fun e w' => ∃ x s sa5 sn5 sc5 g, e = .returned (.tuple #[treeV (ansE x s) (.slice sa5 sn5 sc5), .int .i64 (ansN s), g]) ∧ (w'.cell? ⟨W1.heap.size, 0, none⟩ = some z0 ∧ w'.cell? ⟨W1.heap.size, 1, none⟩ = some z1 ∧ w'.cell? ⟨W1.heap.size, 2, none⟩ = some z2 ∧ w'.cell? ⟨W1.heap.size, 3, none⟩ = some z3) ∧ (w'.frozen? ⟨W1.heap.size, 0, none⟩ = false ∧ w'.frozen? ⟨W1.heap.size, 1, none⟩ = false ∧ w'.frozen? ⟨W1.heap.size, 2, none⟩ = false ∧ w'.frozen? ⟨W1.heap.size, 3, none⟩ = false) ∧ MidX T (.slice la T.length lc) rb w ((((w'.setCell ⟨W1.heap.size, 0, none⟩ (.int .i64 (ansE x s).kind)).setCell ⟨W1.heap.size, 1, none⟩ (.int .i64 (ansE x s).n)).setCell ⟨W1.heap.size, 2, none⟩ (.string ⟨(ansE x s).name.toArray⟩)).setCell ⟨W1.heap.size, 3, none⟩ (.slice sa5 sn5 sc5)) p hi W1.heap.size x s (.slice sa5 sn5 sc5) g) := hide (fun z0 z1 z2 z3 t => (unhide HP _ (bthen (alloc_below W1 _) (drew_belowS _))).mono (by
      rintro e w' ⟨x, s, sa5, sn5, sc5, g, he, hpr, hb⟩
      obtain ⟨hc, hf, hlt, hbb⟩ := box4_at hb
      have hs1 : (W1.alloc (.cells #[z0, z1, z2, z3] t)).drew.heap.size = W1.heap.size + 1 := by show (W1.alloc _).heap.size = _; simp
      exact ⟨x, s, sa5, sn5, sc5, g, he, hc, hf, hpr.early (w0 := W1) (by omega) (by omega) hne (by omega) hc hf⟩))
    clear HP
    have hW1s : rb < W1.heap.size := by omega
    clear hz
    go_region_law (first
      | (go_simp; go_at_call 17; with_reducible refine (unhide HXa).mono ?_; rintro ev w5 ⟨x5, s5, sa5, sn5, sc5, g5, rfl, hpr, hb5⟩; replace hpr := hide hpr; clear hb5; dsimp only)
      | (go_simp; go_at_call 17; with_reducible refine (unhide HXb _ _ _ _ _).mono ?_; rintro ev w5 ⟨x5, s5, sa5, sn5, sc5, g5, rfl, ⟨q0, q1, q2, q3⟩, ⟨k0, k1, k2, k3⟩, hmx⟩; replace hmx := hide hmx; dsimp only))
    all_goals (
      go_wp2_with fail
      go_meet
      case rel => first
        | exact ⟨x5, s5, _, _, rfl, rfl, hide ((unhide hpr).late 24)⟩
        | exact ⟨x5, s5, _, _, rfl, rfl, hmx⟩)
  case rest =>
    obtain ⟨x, s, sl, q, rfl, rfl, HM⟩ := hcut
    have hbl := beh_le (unhide HM).red h1 h2
    have hqq := (unhide HM).qq
    obtain ⟨xa, xc, hxs⟩ := (unhide HM).fst.shape
    generalize hxl : (ansE x s).a.length = xl at hxs
    subst hxs
    clear hxl
    have HPOST : Hid (∀ w6, SR T (.slice la T.length lc) rb w6 (behP p s) (behE p s) → But rb wc w6 → Box w6 q (ansE x s) (.slice xa xl xc) ∧ Box w6 w.heap.size E.none (.slice none 0 0) ∧ (SR T (.slice la T.length lc) rb ((((w6.setCell ⟨w.heap.size, 0, none⟩ (.int .i64 (ansE x s).kind)).setCell ⟨w.heap.size, 1, none⟩ (.int .i64 (ansE x s).n)).setCell ⟨w.heap.size, 2, none⟩ (.string ⟨(ansE x s).name.toArray⟩)).setCell ⟨w.heap.size, 3, none⟩ (.slice xa xl xc)) (behP p s) (behE p s) ∧ Forest ((((w6.setCell ⟨w.heap.size, 0, none⟩ (.int .i64 (ansE x s).kind)).setCell ⟨w.heap.size, 1, none⟩ (.int .i64 (ansE x s).n)).setCell ⟨w.heap.size, 2, none⟩ (.string ⟨(ansE x s).name.toArray⟩)).setCell ⟨w.heap.size, 3, none⟩ (.slice xa xl xc)) (fun b => w.heap.size ≤ b) (ansE x s).a (.slice xa xl xc) ∧ But rb w ((((w6.setCell ⟨w.heap.size, 0, none⟩ (.int .i64 (ansE x s).kind)).setCell ⟨w.heap.size, 1, none⟩ (.int .i64 (ansE x s).n)).setCell ⟨w.heap.size, 2, none⟩ (.string ⟨(ansE x s).name.toArray⟩)).setCell ⟨w.heap.size, 3, none⟩ (.slice xa xl xc)))) := hide (by
      intro w6 hs6 hb6
      have hbs := but_set4 w.heap.size w6 (.int .i64 (ansE x s).kind) (.int .i64 (ansE x s).n) (.string ⟨(ansE x s).name.toArray⟩) (.slice xa xl xc)
      have hsz := (unhide HM).old.size
      have hbx := (unhide HM).box.but hb6 (by omega)
      have hrs := (unhide HM).res.but hb6 (by omega)
      have hne : (Value.slice la T.length lc).ownBlock ≠ some w.heap.size := fun e => by have := unhide HLW _ e; omega
      have h6s := hb6.size
      refine ⟨hbx, hrs, hs6.otherI hbs (by omega) hne hrs.c0, ?_, ?_⟩
      · have hf6 : Forest w6 (fun b => w.heap.size < b) (ansE x s).a (.slice xa xl xc) := (unhide HM).fst.keep (fun b hS hl => hb6.block b hl (fun e => by injection e with e; omega)) (fun b hS hl => hS)
        exact hf6.keep (fun b hS hl => hbs.block b hl (fun e => by injection e with e; omega)) (fun b hS hl => by omega)
      · refine ⟨hbs.os.trans (hb6.os.trans (unhide HM).old.os), hbs.tape.trans (hb6.tape.trans (unhide HM).old.tape), hbs.output.trans (hb6.output.trans (unhide HM).old.output), Nat.le_trans hsz (Nat.le_trans h6s hbs.size), fun i hi hne => ?_⟩
        exact (hbs.block i (by omega) (fun e => by injection e with e; omega)).trans ((hb6.block i (by omega) hne).trans ((unhide HM).old.block i hi)))
    have HRED := hide (unhide HM).red
    by_cases he : s.err = 0
    · have hP : behP p s = p + s.pos := if_pos he
      have hE : behE p s = .ok := if_pos he
      have hN : ansN s = s.pos := if_pos he
      obtain rfl := says_nilS (unhide HM).say he
      have HT := hide (tookOk_any T (.slice la T.length lc) rb wc p s.pos .ok (unhide HM).rd hbl.1)
      rw [hN]
      rw [← hP] at HT
      have HOK : Hid (SE.ok = behE p s) := hide hE.symm
      rw [unhide HOK] at HT
      clear hP hE hN he
      generalize s.pos = sp at *
      go_wp2_with fail
      refine (unhide HT).mono ?_
      rintro ev w6 ⟨rfl, h6, hb6⟩
      obtain ⟨hbx, hrs, hpost⟩ := unhide HPOST w6 h6 hb6
      have HP6 := hide hpost
      obtain ⟨m0, m1, m2, m3, -, -, -, -, -⟩ := hbx
      obtain ⟨r0, r1, r2, r3, z0, z1, z2, z3, hrl⟩ := hrs
      clear h6 hb6 hpost
      have hqne : ¬ q = w.heap.size := by omega
      have hqne2 : ¬ w.heap.size = q := by omega
      go_wp2
      exact bodyPost_ret (v := treeV (ansE x s) (.slice xa xl xc)) (by simp [results, Tryz.results102, go_sem, r0, r1, r2, r3]) rfl ⟨x, s, .slice xa xl xc, unhide HRED, rfl, (unhide HP6).2.1, (unhide HP6).1, (unhide HP6).2.2⟩
    · have hP : behP p s = p + s.bad := if_neg he
      have hE : behE p s = .sub (p + s.bad) s.bad s.err := if_neg he
      obtain ⟨b2, hb2, hgg, hl2⟩ := says_leaf (unhide HM).say he
      subst hgg
      have hGc := (unhide HGW).below (unhide HM).old
      have HT := hide (tookErr_any T (.slice la T.length lc) rb wc p (ansN s) b2 s.bad s.err (unhide HM).rd hGc hl2 (by omega) hbl.2)
      rw [← hP] at HT
      have HOK : Hid (SE.sub (behP p s) s.bad s.err = behE p s) := hide (by rw [hE, hP])
      rw [unhide HOK] at HT
      clear hP hE he hl2 hb2
      go_wp2_with fail
      refine (unhide HT).mono ?_
      rintro ev w6 ⟨rfl, h6, hb6⟩
      obtain ⟨hbx, hrs, hpost⟩ := unhide HPOST w6 h6 hb6
      have HP6 := hide hpost
      obtain ⟨m0, m1, m2, m3, -, -, -, -, -⟩ := hbx
      obtain ⟨r0, r1, r2, r3, z0, z1, z2, z3, hrl⟩ := hrs
      clear h6 hb6 hpost
      have hqne : ¬ q = w.heap.size := by omega
      have hqne2 : ¬ w.heap.size = q := by omega
      go_wp2
      exact bodyPost_ret (v := treeV (ansE x s) (.slice xa xl xc)) (by simp [results, Tryz.results102, go_sem, r0, r1, r2, r3]) rfl ⟨x, s, .slice xa xl xc, unhide HRED, rfl, (unhide HP6).2.1, (unhide HP6).1, (unhide HP6).2.2⟩
end Go.Proofs.YthkbchefjagbbaaGreatDoor.Line
