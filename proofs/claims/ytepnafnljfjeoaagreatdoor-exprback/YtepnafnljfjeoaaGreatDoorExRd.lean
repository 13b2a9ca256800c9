/- The contracts of the reference's reader: fail, sign, took.
   The contracts of the reference's reader: factor, term, expr, subs. -/
import Derived.Test.YtepnafnljfjeoaaGreatDoorBaseAll
import Derived.Test.YtepnafnljfjeoaaGreatDoorExMem
import Derived.BigQuiet
import Derived.Deep.QuietTactic
import Derived.Deep.RegionWith
import Derived.Deep.CutRange
namespace Go.Proofs.YtepnafnljfjeoaaGreatDoor.Line
open Go.ChangeShapes Go.WideShapes Go.ChangeAt Go.RowKit
open Ex (E St)
set_option linter.unusedVariables false

theorem isSign_err {T : List Words.T} {s : St} {c : List UInt8} (h : s.err ≠ 0) : Ex.isSign T s c = false := by unfold Ex.isSign; rw [decide_eq_false h]; rfl
theorem isSign_out {T : List Words.T} {s : St} {c : List UInt8} (h : ¬ s.pos < T.length) : Ex.isSign T s c = false := by unfold Ex.isSign; rw [List.getElem?_eq_none (by omega)]; simp
theorem isSign_at {T : List Words.T} {s : St} {c : List UInt8} (h0 : s.err = 0) (h : s.pos < T.length) : Ex.isSign T s c = (decide (T[s.pos].kind = 3) && decide (T[s.pos].text = c)) := by unfold Ex.isSign; rw [decide_eq_true h0, List.getElem?_eq_getElem h]; rfl
set_option maxHeartbeats 4000000 in
set_option maxRecDepth 100000 in
theorem rdSign_any (T : List Words.T) (L : Value) (w : World) (S : Nat → Prop) (rb : Nat) (s : St) (c : List UInt8) (hR : Rdr w S wExpr rb L s) (hT : Tks w L T) (hl : T.length ≤ 1000000) : Calls Tryz.prog 73 #[.pointer (some ⟨rb, 0, none⟩), .string ⟨c.toArray⟩] w fun e w' => e = .returned (.bool (Ex.isSign T s c)) ∧ ∃ n, w' = w.drewN n := by
  obtain ⟨h1, h2, -, h5, -, -⟩ := hR
  by_cases h0 : s.err = 0
  · rw [h0] at h5
    have h5' : w.cell? ⟨rb, 3, none⟩ = some (.int .i64 0) := h5
    clear h5
    by_cases hp : s.pos < T.length
    · rw [isSign_at h0 hp]
      rcases hT with ⟨_, _, _, hnil⟩ | ⟨b, off, cap, rfl, hcap, hcells⟩
      · exact absurd hp (by rw [hnil]; simp)
      obtain ⟨d0, d1, -, -⟩ := hcells s.pos hp
      have hp2 : (s.pos : Int) < T.length := by omega
      have q1 : decide (s.pos < T.length) = true := decide_eq_true hp
      clear hcells h0
      generalize T[s.pos].kind = k at *
      generalize T[s.pos].text = x at *
      generalize s.pos = p at *
      by_cases g1 : k = 3
      · have HG := hide g1
        have k1 : (k : Int) = 3 := by omega
        rw [k1] at d0
        clear k1 g1
        by_cases g2 : x = c
        · subst g2
          go_enter Tryz.func73, Tryz.ntmps73
          go_wp2_with fail
          go_quiet (fail)
          go_wp2
          go_ret
          exact ⟨ret_bool (by rw [unhide HG]; simp), _, rfl⟩
        · have k2 : (x == c) = false := beq_eq_false_iff_ne.2 g2
          have HG2 := hide g2
          clear g2
          go_enter Tryz.func73, Tryz.ntmps73
          go_wp2_with fail
          go_quiet (fail)
          go_wp2
          go_ret
          exact ⟨ret_bool (by rw [decide_eq_false (unhide HG2)]; simp), _, rfl⟩
      · have k1 : ((k : Int) == 3) = false := by rw [beq_eq_false_iff_ne]; omega
        have HG := hide g1
        clear g1
        go_enter Tryz.func73, Tryz.ntmps73
        go_wp2_with fail
        go_quiet (fail)
        go_wp2
        go_ret
        exact ⟨ret_bool (by rw [decide_eq_false (unhide HG)]; rfl), _, rfl⟩
    · rw [isSign_out hp]
      obtain ⟨a, cap, rfl⟩ := hT.shape
      have q1 : decide (s.pos < T.length) = false := decide_eq_false hp
      clear hT h0
      generalize s.pos = p at *
      go_enter Tryz.func73, Tryz.ntmps73
      go_wp2_with fail
      go_quiet (fail)
      go_wp2
      go_ret
      exact ⟨rfl, _, rfl⟩
  · rw [isSign_err h0]
    obtain ⟨a, cap, rfl⟩ := hT.shape
    have k1 : ((s.err : Int) == 0) = false := by rw [beq_eq_false_iff_ne]; omega
    clear hT h0
    generalize s.pos = p at *
    generalize s.err = er at *
    go_enter Tryz.func73, Tryz.ntmps73
    go_wp2_with fail
    go_quiet (fail)
    go_wp2
    go_ret
    exact ⟨rfl, _, rfl⟩
set_option maxHeartbeats 4000000 in
theorem rdTook_any (T : List Words.T) (L : Value) (w : World) (S : Nat → Prop) (rb : Nat) (s : St) (c : List UInt8) (hR : Rdr w S wExpr rb L s) (hT : Tks w L T) (hl : T.length ≤ 1000000) (hS : ¬ S rb) : Calls Tryz.prog 52 #[.pointer (some ⟨rb, 0, none⟩), .string ⟨c.toArray⟩] w fun e w' => e = .returned (.bool (Ex.isSign T s c)) ∧ Rdr w' S wExpr rb L (if Ex.isSign T s c then s.next else s) ∧ But rb w w' ∧ w'.heap.size = w.heap.size := by
  have HC := hide (rdSign_any T L w S rb s c hR hT hl)
  have HR := hide hR
  have hpl : Ex.isSign T s c = true → s.pos < T.length := fun h => by
    rcases Nat.lt_or_ge s.pos T.length with h1 | h1
    · exact h1
    · rw [isSign_out (by omega)] at h; cases h
  cases hb : Ex.isSign T s c
  · rw [hb] at HC
    clear hpl hR hT hb
    go_enter Tryz.func52, Tryz.ntmps52
    go_wp2_with fail
    refine (unhide HC).mono ?_
    rintro e w1 ⟨rfl, n, rfl⟩
    go_wp2
    go_ret
    exact ⟨rfl, (unhide HR).drewN n, (but_refl _ _).drewN n, rfl⟩
  · rw [hb] at HC
    have hp := hpl hb
    have hp2 : s.pos ≤ 1000000 := by omega
    clear hpl hR hT hb hp
    go_enter Tryz.func52, Tryz.ntmps52
    go_wp2_with fail
    refine (unhide HC).mono ?_
    rintro e w1 ⟨rfl, n, rfl⟩
    have HR2 := hide ((unhide HR).drewN n)
    have hc1 := (unhide HR2).pos
    have hf1 := (unhide HR2).fr.2.1
    go_wp2
    go_ret
    refine ⟨rfl, (unhide HR2).next hS, ((but_refl _ _).drewN n).set (.inr rfl) _, by simp [World.setCell]⟩
set_option maxHeartbeats 4000000 in
theorem rdFail_any (L : Value) (w : World) (S : Nat → Prop) (rb : Nat) (s : St) (k er : Nat) (hR : Rdr w S wExpr rb L s) (hS : ¬ S rb) (hN : ∀ b, w.heap.size ≤ b → S b) (he : er ≠ 0) : Calls Tryz.prog 90 #[.pointer (some ⟨rb, 0, none⟩), .int .i64 k, .int .i64 er] w fun e w' => e = .returned (.tuple #[]) ∧ Rdr w' S wExpr rb L (s.fail k er) ∧ But rb w w' := by
  have HR := hide hR
  have h5 := hR.err
  have hlt := hR.lt
  clear hR
  by_cases h0 : s.err = 0
  · rw [h0] at h5
    have h5' : w.cell? ⟨rb, 3, none⟩ = some (.int .i64 0) := h5
    clear h5
    have HF : Hid (s.fail k er = ⟨s.pos, er, k⟩) := hide (by unfold St.fail; rw [if_pos h0])
    rw [unhide HF]
    have HA := hide (at_any wExpr k er w)
    have HE := hide he
    clear h0 he
    go_enter Tryz.func90, Tryz.ntmps90
    go_wp2_with fail
    refine (unhide HA).mono ?_
    rintro e w1 ⟨b1, rfl, hb1, c0, c1, hB1⟩
    have HR1 := hide ((unhide HR).below hB1)
    obtain ⟨g0, g1, ⟨sl, g2, -⟩, g3, ⟨f0, f1, f2, f3⟩, g7⟩ := unhide HR1
    have H1 := hide (And.intro hB1 (And.intro c0 (And.intro c1 (hN b1 hb1))))
    clear hB1 c0 c1 hb1 hN
    go_wp2
    go_end0
    exact ⟨rfl, (unhide HR1).fails hS (unhide H1).2.2.2 (unhide HE) (unhide H1).2.1 (unhide H1).2.2.1, But.set (p := ⟨rb, 3, none⟩) (But.set (p := ⟨rb, 2, none⟩) (but_below (unhide H1).1) (.inr rfl) _) (.inr rfl) _⟩
  · have k1 : ((s.err : Int) == 0) = false := by rw [beq_eq_false_iff_ne]; omega
    have HF : Hid (s.fail k er = s) := hide (by unfold St.fail; rw [if_neg h0])
    rw [unhide HF]
    clear h0 he hN
    generalize s.err = er2 at *
    go_enter Tryz.func90, Tryz.ntmps90
    go_wp2
    go_end0
    exact ⟨rfl, unhide HR, but_refl _ _⟩
end Go.Proofs.YtepnafnljfjeoaaGreatDoor.Line

namespace Go.Proofs.YtepnafnljfjeoaaGreatDoor.Line
open Go.ChangeShapes Go.WideShapes Go.ChangeAt Go.RowKit
open Ex (E St)
set_option linter.unusedVariables false

theorem Tks.but {w w' : World} {v : Value} {l : List Words.T} {rb : Nat} (h : Tks w v l) (hb : But rb w w') (hne : v.ownBlock ≠ some rb) : Tks w' v l := by
  rcases h with h | ⟨b, off, cap, rfl, hc, h⟩
  · exact .inl h
  · refine .inr ⟨b, off, cap, rfl, hc, fun i hi => ?_⟩
    obtain ⟨h0, h1, h2, h3⟩ := h i hi
    have hl := cell_lt h0
    have hbr : b ≠ rb := fun e => hne (by rw [e]; rfl)
    exact ⟨(hb.cell (p := ⟨b, off + i * 4, none⟩) hl hbr).trans h0, (hb.cell (p := ⟨b, off + i * 4 + 1, none⟩) hl hbr).trans h1, (hb.cell (p := ⟨b, off + i * 4 + 2, none⟩) hl hbr).trans h2, (hb.cell (p := ⟨b, off + i * 4 + 3, none⟩) hl hbr).trans h3⟩
/-- where a reader is, out of its memory -/
def posOf (rb : Nat) (w : World) : Nat := match w.cell? ⟨rb, 1, none⟩ with
  | some (.int _ p) => p.toNat
  | _ => 0
theorem Rdr.posOf {w : World} {S : Nat → Prop} {word : List UInt8} {rb : Nat} {L : Value} {s : St} (h : Rdr w S word rb L s) : posOf rb w = s.pos := by unfold Line.posOf; rw [h.pos]; simp
/-- what a call of a reading function does -/
def Reads (T : List Words.T) (L : Value) (fn : FuncId) (R : List Words.T → Nat → St → E × St → Prop) (n : Nat) : Prop :=
  ∀ (w : World) (S : Nat → Prop) (rb d : Nat) (s : St), Rdr w S wExpr rb L s → Tks w L T → (∀ p, L.ownBlock = some p → p < w.heap.size ∧ p ≠ rb) → ¬ S rb → (∀ b, w.heap.size ≤ b → S b) → s.pos ≤ T.length → T.length - s.pos ≤ n → d ≤ 20 →
    Calls Tryz.prog fn #[.pointer (some ⟨rb, 0, none⟩), .int .i64 d] w fun e w' => ∃ x s' sl, e = .returned (treeV x sl) ∧ R T d s (x, s') ∧ Forest w' (fun b => w.heap.size ≤ b) x.a sl ∧ Rdr w' S wExpr rb L s' ∧ But rb w w' ∧ s'.pos ≤ T.length ∧ s.pos ≤ s'.pos
/-- the block of a variable that holds a tree -/
structure Box (w : World) (p : Nat) (x : E) (sl : Value) : Prop where
  c0 : w.cell? ⟨p, 0, none⟩ = some (.int .i64 x.kind)
  c1 : w.cell? ⟨p, 1, none⟩ = some (.int .i64 x.n)
  c2 : w.cell? ⟨p, 2, none⟩ = some (.string ⟨x.name.toArray⟩)
  c3 : w.cell? ⟨p, 3, none⟩ = some sl
  f0 : w.frozen? ⟨p, 0, none⟩ = false
  f1 : w.frozen? ⟨p, 1, none⟩ = false
  f2 : w.frozen? ⟨p, 2, none⟩ = false
  f3 : w.frozen? ⟨p, 3, none⟩ = false
  lt : p < w.heap.size
theorem Box.keep {w w' : World} {p : Nat} {x : E} {sl : Value} (h : Box w p x sl) (hp : w'.heap[p]? = w.heap[p]?) (hs : w.heap.size ≤ w'.heap.size) : Box w' p x sl := by
  have hc : ∀ o, w'.cell? ⟨p, o, none⟩ = w.cell? ⟨p, o, none⟩ := fun o => World.cell?_of_block (a := ⟨p, o, none⟩) hp
  have hf : ∀ o, w'.frozen? ⟨p, o, none⟩ = w.frozen? ⟨p, o, none⟩ := fun o => World.frozen?_of_block (a := ⟨p, o, none⟩) hp
  exact ⟨(hc 0).trans h.c0, (hc 1).trans h.c1, (hc 2).trans h.c2, (hc 3).trans h.c3, (hf 0).trans h.f0, (hf 1).trans h.f1, (hf 2).trans h.f2, (hf 3).trans h.f3, by have := h.lt; omega⟩
theorem Box.but {w w' : World} {p rb : Nat} {x : E} {sl : Value} (h : Box w p x sl) (hb : But rb w w') (hne : p ≠ rb) : Box w' p x sl := h.keep (hb.block p h.lt (fun e => hne (by injection e))) hb.size
theorem box_new (w : World) (x : E) (sl : Value) (t : TypeId) : Box (w.alloc (.cells #[.int .i64 x.kind, .int .i64 x.n, .string ⟨x.name.toArray⟩, sl] t)) w.heap.size x sl := by
  refine ⟨?_, ?_, ?_, ?_, ?_, ?_, ?_, ?_, ?_⟩ <;> simp
abbrev ET : TypeId := 30
abbrev zeroE : Array Value := #[.int .i64 0, .int .i64 0, .string ⟨#[]⟩, .slice none 0 0]

/-- in the midst of a loop: the two variables, the tree so far, the reader; p: the result's block, q: the tree's -/
structure Mid (T : List Words.T) (L : Value) (w : World) (S : Nat → Prop) (rb q : Nat) (wr : World) (e : E) (s : St) (sl : Value) : Prop where
  box4 : Box wr w.heap.size E.none (.slice none 0 0)
  box5 : Box wr q e sl
  forest : Forest wr (fun b => w.heap.size < b ∧ b ≠ q) e.a sl
  rdr : Rdr wr (fun b => S b ∧ b ≠ w.heap.size ∧ b ≠ q) wExpr rb L s
  tks : Tks wr L T
  but : But rb w wr
  lt : w.heap.size < q
  rbl : rb < w.heap.size
theorem Mid.step {T : List Words.T} {L : Value} {w : World} {S : Nat → Prop} {rb q : Nat} {wr w3 : World} {e : E} {s s3 : St} {sl : Value} (h : Mid T L w S rb q wr e s sl) (hL : L.ownBlock ≠ some rb) (hb : But rb wr w3) (hR : Rdr w3 (fun b => S b ∧ b ≠ w.heap.size ∧ b ≠ q) wExpr rb L s3) : Mid T L w S rb q w3 e s3 sl := by
  have h1 := h.lt
  have h2 := h.rbl
  exact ⟨h.box4.but hb (by omega), h.box5.but hb (by omega), h.forest.but hb (fun b hs => by have := hs.1; omega), hR, h.tks.but hb hL, h.but.trans hb, h1, h2⟩
theorem box_set {w : World} {p : Nat} {x : E} {sl : Value} (h : Box w p x sl) (y : E) (sm : Value) : Box ((((w.setCell ⟨p, 0, none⟩ (.int .i64 y.kind)).setCell ⟨p, 1, none⟩ (.int .i64 y.n)).setCell ⟨p, 2, none⟩ (.string ⟨y.name.toArray⟩)).setCell ⟨p, 3, none⟩ sm) p y sm := by
  obtain ⟨c0, c1, c2, c3, f0, f1, f2, f3, hl⟩ := h
  refine ⟨by simp [go_sem, c0], by simp [go_sem, c1], by simp [go_sem, c2], by simp [go_sem, c3], by simp [go_sem, f0], by simp [go_sem, f1], by simp [go_sem, f2], by simp [go_sem, f3], by simp [World.setCell]; omega⟩
/-- four cells of a block are set: other blocks stay -/
theorem heap_set4 (w : World) (p : Nat) (a b c d : Value) (k : Nat) (h : k ≠ p) : ((((w.setCell ⟨p, 0, none⟩ a).setCell ⟨p, 1, none⟩ b).setCell ⟨p, 2, none⟩ c).setCell ⟨p, 3, none⟩ d).heap[k]? = w.heap[k]? := by
  rw [Below.heap_setCell _ _ _ _ (show k ≠ p from h), Below.heap_setCell _ _ _ _ (show k ≠ p from h), Below.heap_setCell _ _ _ _ (show k ≠ p from h), Below.heap_setCell _ _ _ _ (show k ≠ p from h)]
theorem size_set4 (w : World) (p : Nat) (a b c d : Value) : ((((w.setCell ⟨p, 0, none⟩ a).setCell ⟨p, 1, none⟩ b).setCell ⟨p, 2, none⟩ c).setCell ⟨p, 3, none⟩ d).heap.size = w.heap.size := by simp [World.setCell]
theorem Mid.join {T : List Words.T} {L : Value} {w : World} {S : Nat → Prop} {rb q : Nat} {wr : World} {e x : E} {s : St} {sl sx : Value} {B : Nat} (h : Mid T L w S rb q wr e s sl) (hL : L.ownBlock ≠ some q) (hx : Forest wr (fun b => B ≤ b) x.a sx) (hB : q < B) (k : Int) :
    Mid T L w S rb q (((((wr.setCell ⟨q, 0, none⟩ (.int .i64 k)).setCell ⟨q, 1, none⟩ (.int .i64 0)).setCell ⟨q, 2, none⟩ (.string ⟨#[]⟩)).setCell ⟨q, 3, none⟩ (.slice (some ⟨wr.heap.size, 0, none⟩) 2 2)).alloc (.cells #[.int .i64 e.kind, .int .i64 e.n, .string ⟨e.name.toArray⟩, sl, .int .i64 x.kind, .int .i64 x.n, .string ⟨x.name.toArray⟩, sx] ET)) (.mk k 0 [] [e, x]) s (.slice (some ⟨wr.heap.size, 0, none⟩) 2 2) := by
  have h1 := h.lt
  have h2 := h.rbl
  have h3 := h.box5.lt
  have hk4 : ∀ b, b ≠ q → ((((wr.setCell ⟨q, 0, none⟩ (.int .i64 k)).setCell ⟨q, 1, none⟩ (.int .i64 0)).setCell ⟨q, 2, none⟩ (.string ⟨#[]⟩)).setCell ⟨q, 3, none⟩ (.slice (some ⟨wr.heap.size, 0, none⟩) 2 2)).heap[b]? = wr.heap[b]? := fun b hb => heap_set4 _ _ _ _ _ _ _ hb
  have hz4 : ((((wr.setCell ⟨q, 0, none⟩ (.int .i64 k)).setCell ⟨q, 1, none⟩ (.int .i64 0)).setCell ⟨q, 2, none⟩ (.string ⟨#[]⟩)).setCell ⟨q, 3, none⟩ (.slice (some ⟨wr.heap.size, 0, none⟩) 2 2)).heap.size = wr.heap.size := size_set4 _ _ _ _ _ _
  have hb5 : Box ((((wr.setCell ⟨q, 0, none⟩ (.int .i64 k)).setCell ⟨q, 1, none⟩ (.int .i64 0)).setCell ⟨q, 2, none⟩ (.string ⟨#[]⟩)).setCell ⟨q, 3, none⟩ (.slice (some ⟨wr.heap.size, 0, none⟩) 2 2)) q (.mk k 0 [] [e, x]) (.slice (some ⟨wr.heap.size, 0, none⟩) 2 2) := box_set (y := .mk k 0 [] [e, x]) h.box5 _
  have hbt : But rb w ((((wr.setCell ⟨q, 0, none⟩ (.int .i64 k)).setCell ⟨q, 1, none⟩ (.int .i64 0)).setCell ⟨q, 2, none⟩ (.string ⟨#[]⟩)).setCell ⟨q, 3, none⟩ (.slice (some ⟨wr.heap.size, 0, none⟩) 2 2)) := But.set (p := ⟨q, 3, none⟩) (But.set (p := ⟨q, 2, none⟩) (But.set (p := ⟨q, 1, none⟩) (But.set (p := ⟨q, 0, none⟩) h.but (.inl (by show w.heap.size ≤ q; omega)) _) (.inl (by show w.heap.size ≤ q; omega)) _) (.inl (by show w.heap.size ≤ q; omega)) _) (.inl (by show w.heap.size ≤ q; omega)) _
  generalize ((((wr.setCell ⟨q, 0, none⟩ (.int .i64 k)).setCell ⟨q, 1, none⟩ (.int .i64 0)).setCell ⟨q, 2, none⟩ (.string ⟨#[]⟩)).setCell ⟨q, 3, none⟩ (.slice (some ⟨wr.heap.size, 0, none⟩) 2 2)) = W at *
  have hb := alloc_below W (.cells #[.int .i64 e.kind, .int .i64 e.n, .string ⟨e.name.toArray⟩, sl, .int .i64 x.kind, .int .i64 x.n, .string ⟨x.name.toArray⟩, sx] ET)
  have hfo : Forest (W.alloc (.cells #[.int .i64 e.kind, .int .i64 e.n, .string ⟨e.name.toArray⟩, sl, .int .i64 x.kind, .int .i64 x.n, .string ⟨x.name.toArray⟩, sx] ET)) (fun b => w.heap.size < b ∧ b ≠ q) [e, x] (.slice (some ⟨W.heap.size, 0, none⟩) 2 2) := forest_two (h.forest.keep (fun b hs _ => hk4 b hs.2) (fun _ h _ => h)) (hx.keep (fun b hs _ => hk4 b (by omega)) (fun b hs _ => ⟨by omega, by omega⟩)) ⟨by omega, by omega⟩
  rw [hz4] at hfo
  refine ⟨?_, hb5.keep (hb.block _ (by omega)) hb.size, hfo, ?_, ?_, hbt.alloc _, h1, h2⟩
  · exact (h.box4.keep (hk4 _ (by omega)) (by omega)).keep (hb.block _ (by have := h.box4.lt; omega)) hb.size
  · exact (h.rdr.keep (hk4 _ (by omega)) (by omega) (fun b hs _ => hk4 b hs.2.2) (fun _ h _ => h)).below hb
  · refine Tks.below ?_ hb
    rcases h.tks with h | ⟨b, off, cap, rfl, hc, h⟩
    · exact .inl h
    · have hbq : b ≠ q := fun e => hL (by rw [e]; rfl)
      have hh := hk4 b hbq
      refine .inr ⟨b, off, cap, rfl, hc, fun i hi => ?_⟩
      obtain ⟨e0, e1, e2, e3⟩ := h i hi
      exact ⟨(World.cell?_of_block (a := ⟨b, off + i * 4, none⟩) hh).trans e0, (World.cell?_of_block (a := ⟨b, off + i * 4 + 1, none⟩) hh).trans e1, (World.cell?_of_block (a := ⟨b, off + i * 4 + 2, none⟩) hh).trans e2, (World.cell?_of_block (a := ⟨b, off + i * 4 + 3, none⟩) hh).trans e3⟩
/-- the tree is the answer -/
theorem Mid.done {T : List Words.T} {L : Value} {w : World} {S : Nat → Prop} {rb q : Nat} {wr : World} {e : E} {s : St} {sl : Value} (h : Mid T L w S rb q wr e s sl) {W : World} (hW : W = (((wr.setCell ⟨w.heap.size, 0, none⟩ (.int .i64 e.kind)).setCell ⟨w.heap.size, 1, none⟩ (.int .i64 e.n)).setCell ⟨w.heap.size, 2, none⟩ (.string ⟨e.name.toArray⟩)).setCell ⟨w.heap.size, 3, none⟩ sl) :
    Forest W (fun b => w.heap.size ≤ b) e.a sl ∧ Rdr W S wExpr rb L s ∧ But rb w W := by
  have h1 := h.lt
  have h2 := h.rbl
  subst hW
  refine ⟨?_, ?_, ?_⟩
  · exact h.forest.keep (fun b hs _ => heap_set4 _ _ _ _ _ _ _ (by have := hs.1; omega)) (fun b hs _ => by have := hs.1; omega)
  · exact h.rdr.keep (heap_set4 _ _ _ _ _ _ _ (by omega)) (by rw [size_set4]; exact Nat.le_refl _) (fun b hs _ => heap_set4 _ _ _ _ _ _ _ hs.2.1) (fun _ h _ => h.1)
  · exact But.set (p := ⟨w.heap.size, 3, none⟩) (But.set (p := ⟨w.heap.size, 2, none⟩) (But.set (p := ⟨w.heap.size, 1, none⟩) (But.set (p := ⟨w.heap.size, 0, none⟩) h.but (.inl (Nat.le_refl _)) _) (.inl (Nat.le_refl _)) _) (.inl (Nat.le_refl _)) _) (.inl (Nat.le_refl _)) _

set_option maxHeartbeats 8000000 in
set_option maxRecDepth 100000 in
theorem rdTerm_of (T : List Words.T) (L : Value) (hl : T.length ≤ 1000000) (n : Nat) (HF : Reads T L 72 Ex.RFactor n) : Reads T L 51 Ex.RTerm n := by
  intro w S rb d s0 hR hT hL hS hN hp hn hd
  have hrb := hR.lt
  have hR0 := (hR.mono (S' := fun b => S b ∧ b ≠ w.heap.size) (fun b hs hl => ⟨hs, by omega⟩)).below (alloc_below w (.cells zeroE ET))
  have hT0 := hT.below (alloc_below w (.cells zeroE ET))
  have hB4 : Box (w.alloc (.cells zeroE ET)) w.heap.size E.none (.slice none 0 0) := box_new w E.none (.slice none 0 0) ET
  have hsz0 : (w.alloc (.cells zeroE ET)).heap.size = w.heap.size + 1 := by simp
  have HC := hide (HF (w.alloc (.cells zeroE ET)) (fun b => S b ∧ b ≠ w.heap.size) rb d s0 hR0 hT0 (fun p h => ⟨by have := (hL p h).1; omega, (hL p h).2⟩) (fun h => hS h.1) (fun b hb => ⟨hN b (by omega), by omega⟩) hp hn hd)
  have HFF := hide HF
  have H4 := hide (And.intro hB4 (And.intro hT0 (And.intro hN (And.intro hL (And.intro hS hsz0)))))
  clear HF hR0 hT0 hB4 hR hT hN hL hS hsz0
  go_enter Tryz.func51, Tryz.ntmps51
  go_wp2_with fail
  refine (unhide HC).mono ?_
  rintro ev w1 ⟨x, s1, sl, rfl, hr1, hf1, hR1, hb1, hp1, hp2⟩
  obtain ⟨la, lc, hsl⟩ := hf1.shape
  generalize hln : x.a.length = ln at hsl
  subst hsl
  clear hln
  have hsz1 : w.heap.size < w1.heap.size := by have := hb1.size; have := (unhide H4).2.2.2.2.2; omega
  have HM : Hid (Mid T L w S rb w1.heap.size (w1.alloc (.cells #[.int .i64 x.kind, .int .i64 x.n, .string ⟨x.name.toArray⟩, .slice la ln lc] ET)) x s1 (.slice la ln lc)) := hide (by
    have hz := (unhide H4).2.2.2.2.2
    have hbz : But rb w w1 := (but_below (alloc_below _ _)).trans hb1
    refine ⟨((unhide H4).1.but hb1 (by omega)).keep ((alloc_below w1 (.cells #[.int .i64 x.kind, .int .i64 x.n, .string ⟨x.name.toArray⟩, .slice la ln lc] ET)).block _ hsz1) (alloc_below w1 (.cells #[.int .i64 x.kind, .int .i64 x.n, .string ⟨x.name.toArray⟩, .slice la ln lc] ET)).size, box_new _ _ _ _, (hf1.mono (S' := fun b => w.heap.size < b ∧ b ≠ w1.heap.size) (fun b hs hl => ⟨by omega, by omega⟩)).old (alloc_below _ _), (hR1.mono (S' := fun b => S b ∧ b ≠ w.heap.size ∧ b ≠ w1.heap.size) (fun b hs hl => ⟨hs.1, hs.2, by omega⟩)).below (alloc_below _ _), ((unhide H4).2.1.but hb1 (fun h => ((unhide H4).2.2.2.1 rb h).2 rfl)).below (alloc_below _ _), hbz.alloc _, hsz1, hrb⟩)
  have HRR : Hid (∀ r, Ex.RProds T d x s1 r → Ex.RTerm T d s0 r) := hide (fun r h => Ex.rTerm hr1 h)
  have HLQ : Hid (∀ q, w.heap.size ≤ q → L.ownBlock ≠ some q) := hide (fun q hq h => by have := ((unhide H4).2.2.2.1 q h).1; omega)
  clear hr1 hf1 hR1 hb1 HC
  go_wp2_with fail
  generalize hq : w1.heap.size = q at *
  generalize w1.alloc (.cells #[.int .i64 x.kind, .int .i64 x.n, .string ⟨x.name.toArray⟩, .slice la ln lc] ET) = W1 at *
  clear hq
  go_loopw [6] (fun _ wr => ∃ (e : E) (s : St) (sl : Value), s.pos ≤ T.length ∧ s1.pos ≤ s.pos ∧ Hid (Mid T L w S rb q wr e s sl) ∧ Hid (∀ r, Ex.RProds T d e s r → Ex.RTerm T d s0 r)) (fun _ wr => T.length - posOf rb wr)
  case atStart => exact ⟨x, s1, _, hp1, Nat.le_refl _, HM, HRR⟩
  case round =>
    obtain ⟨e, s, sl2, hps, hps2, HMM, HRS⟩ := hrel
    obtain ⟨la2, lc2, hsl⟩ := (unhide HMM).forest.shape
    generalize hln : e.a.length = ln2 at hsl
    subst hsl
    clear hln
    have hrq : rb < q := by have := (unhide HMM).lt; have := (unhide HMM).rbl; omega
    have HT1 := hide (rdTook_any T L wr (fun b => S b ∧ b ≠ w.heap.size ∧ b ≠ q) rb s [42] (unhide HMM).rdr (unhide HMM).tks hl (fun h => (unhide H4).2.2.2.2.1 h.1))
    have HLR : Hid (L.ownBlock ≠ some rb) := hide (fun h => ((unhide H4).2.2.2.1 rb h).2 rfl)
    cases hc1 : Ex.isSign T s [42]
    · rw [hc1] at HT1
      have HC1 := hide hc1
      clear hc1
      go_wp2_with fail
      refine (unhide HT1).mono ?_
      rintro ev w2 ⟨rfl, hR2, hb2, hz2⟩
      have hM2 := (unhide HMM).step (unhide HLR) hb2 hR2
      have HM2 : Hid (Mid T L w S rb q w2 e s (.slice la2 ln2 lc2)) := hide hM2
      have HT2 := hide (rdTook_any T L w2 (fun b => S b ∧ b ≠ w.heap.size ∧ b ≠ q) rb s [47] hM2.rdr hM2.tks hl (fun h => (unhide H4).2.2.2.2.1 h.1))
      clear hR2 hb2 hM2 HT1
      cases hc2 : Ex.isSign T s [47]
      · rw [hc2] at HT2
        have HC2 := hide hc2
        clear hc2
        go_wp2_with fail
        refine (unhide HT2).mono ?_
        rintro ev w3 ⟨rfl, hR3, hb3, hz3⟩
        have hM3 := (unhide HM2).step (unhide HLR) hb3 hR3
        have HM3 : Hid (Mid T L w S rb q w3 e s (.slice la2 ln2 lc2)) := hide hM3
        obtain ⟨d0, d1, d2, d3, -, -, -, -, -⟩ := hM3.box5
        obtain ⟨g0, g1, g2, g3, f0, f1, f2, f3, hg⟩ := hM3.box4
        have hne : w.heap.size ≠ q := by have := hM3.lt; omega
        clear hM3 hR3 hb3 HT2
        go_wp2
        refine bodyPost_ret (v := treeV e (.slice la2 ln2 lc2)) (by simp [results, Tryz.results51, go_sem, g0, g1, g2, g3]) rfl ⟨e, s, _, rfl, unhide HRS _ (Ex.rProds_end (unhide HC1) (unhide HC2)), ?_⟩
        obtain ⟨r1, r2, r3⟩ := (unhide HM3).done rfl
        exact ⟨r1, r2, r3, hps, by omega⟩
      · have hlt : s.pos < T.length := by
          rcases Nat.lt_or_ge s.pos T.length with h1 | h1
          · exact h1
          · rw [isSign_out (by omega)] at hc2; cases hc2
        rw [hc2] at HT2
        have HC2 := hide hc2
        clear hc2
        go_wp2_with fail
        refine (unhide HT2).mono ?_
        rintro ev w3 ⟨rfl, hR3, hb3, hz3⟩
        have hM3 : Mid T L w S rb q w3 e s.next (.slice la2 ln2 lc2) := (unhide HM2).step (unhide HLR) hb3 hR3
        clear hR3 hb3 HT2
        have HM3 := hide hM3
        have hq3 := hM3.box5.lt
        have HFC : Hid (∀ m, Calls Tryz.prog 72 #[.pointer (some ⟨rb, 0, none⟩), .int .i64 d] (w3.drewN m) fun e w' => ∃ x s' sl, e = .returned (treeV x sl) ∧ Ex.RFactor T d s.next (x, s') ∧ Forest w' (fun b => w3.heap.size ≤ b) x.a sl ∧ Rdr w' (fun b => S b ∧ b ≠ w.heap.size ∧ b ≠ q) wExpr rb L s' ∧ But rb w3 w' ∧ s'.pos ≤ T.length ∧ s.next.pos ≤ s'.pos) := hide (fun m => by
          have := unhide HFF (w3.drewN m) (fun b => S b ∧ b ≠ w.heap.size ∧ b ≠ q) rb d s.next (hM3.rdr.drewN m) (hM3.tks.drewN m) (fun p h => ⟨by have := ((unhide H4).2.2.2.1 p h).1; have := hM3.but.size; show p < w3.heap.size; omega, ((unhide H4).2.2.2.1 p h).2⟩) (fun h => (unhide H4).2.2.2.2.1 h.1) (fun b hb => by
            have hb : w3.heap.size ≤ b := hb
            have := hM3.but.size
            exact ⟨(unhide H4).2.2.1 b (by omega), by have := hM3.lt; omega, by omega⟩) (by show s.pos + 1 ≤ T.length; omega) (by show T.length - (s.pos + 1) ≤ n; omega) hd
          refine this.mono ?_
          rintro ev w' ⟨x, s', sl, h1, h2, h3, h4, h5, h6, h7⟩
          exact ⟨x, s', sl, h1, h2, h3, h4, ((but_refl rb w3).drewN m).trans h5, h6, h7⟩)
        obtain ⟨d0, d1, d2, d3, f0, f1, f2, f3, -⟩ := hM3.box5
        clear hM3
        go_wp2_with fail
        go_region_with (go_at_call 72; refine (unhide HFC _).mono ?_; rintro ev w5 ⟨x5, s5, sl5, rfl, hr5, hf5, hR5, hb5, hp5, hp6⟩; obtain ⟨la5, lc5, hsl⟩ := hf5.shape; generalize hln : x5.a.length = ln5 at hsl; subst hsl; clear hln; have k0 := (hb5.cell (p := ⟨q, 0, none⟩) hq3 (by show q ≠ rb; omega)).trans d0; have k1 := (hb5.cell (p := ⟨q, 1, none⟩) hq3 (by show q ≠ rb; omega)).trans d1; have k2 := (hb5.cell (p := ⟨q, 2, none⟩) hq3 (by show q ≠ rb; omega)).trans d2; have k3 := (hb5.cell (p := ⟨q, 3, none⟩) hq3 (by show q ≠ rb; omega)).trans d3; have z0 := (hb5.frozen (p := ⟨q, 0, none⟩) hq3 (by show q ≠ rb; omega)).trans f0; have z1 := (hb5.frozen (p := ⟨q, 1, none⟩) hq3 (by show q ≠ rb; omega)).trans f1; have z2 := (hb5.frozen (p := ⟨q, 2, none⟩) hq3 (by show q ≠ rb; omega)).trans f2; have z3 := (hb5.frozen (p := ⟨q, 3, none⟩) hq3 (by show q ≠ rb; omega)).trans f3; have hq5 : q < w5.heap.size := Nat.lt_of_lt_of_le hq3 hb5.size; have HX := hide (And.intro hr5 (And.intro hf5 (And.intro hR5 hb5))); clear hr5 hf5 hR5 hb5)
        all_goals (
          have hM5 := (unhide HM3).step (unhide HLR) (unhide HX).2.2.2 (unhide HX).2.2.1
          have hM6 := hM5.join (unhide HLQ q (by omega)) (unhide HX).2.1 hq3 8
          have HM6 := hide hM6
          have HPO := hide hM6.rdr.posOf
          have HPW := hide (unhide HMM).rdr.posOf
          have HRN : Hid (∀ r, Ex.RProds T d (.mk 8 0 [] [e, x5]) s5 r → Ex.RTerm T d s0 r) := hide (fun r h => unhide HRS r (Ex.rProds_div (unhide HC1) (unhide HC2) (unhide HX).1 h))
          clear hM5 hM6
          go_wp2
          go_roundw
          case rel => exact ⟨_, s5, _, hp5, by have : s.next.pos = s.pos + 1 := rfl; omega, HM6, HRN⟩
          case measure => rw [unhide HPO, unhide HPW]; have : s.next.pos = s.pos + 1 := rfl; omega)
    · have hlt : s.pos < T.length := by
        rcases Nat.lt_or_ge s.pos T.length with h1 | h1
        · exact h1
        · rw [isSign_out (by omega)] at hc1; cases hc1
      rw [hc1] at HT1
      have HC1 := hide hc1
      clear hc1
      go_wp2_with fail
      refine (unhide HT1).mono ?_
      rintro ev w3 ⟨rfl, hR3, hb3, hz3⟩
      have hM3 : Mid T L w S rb q w3 e s.next (.slice la2 ln2 lc2) := (unhide HMM).step (unhide HLR) hb3 hR3
      clear hR3 hb3 HT1
      have HM3 := hide hM3
      have hq3 := hM3.box5.lt
      have HFC : Hid (∀ m, Calls Tryz.prog 72 #[.pointer (some ⟨rb, 0, none⟩), .int .i64 d] (w3.drewN m) fun e w' => ∃ x s' sl, e = .returned (treeV x sl) ∧ Ex.RFactor T d s.next (x, s') ∧ Forest w' (fun b => w3.heap.size ≤ b) x.a sl ∧ Rdr w' (fun b => S b ∧ b ≠ w.heap.size ∧ b ≠ q) wExpr rb L s' ∧ But rb w3 w' ∧ s'.pos ≤ T.length ∧ s.next.pos ≤ s'.pos) := hide (fun m => by
        have := unhide HFF (w3.drewN m) (fun b => S b ∧ b ≠ w.heap.size ∧ b ≠ q) rb d s.next (hM3.rdr.drewN m) (hM3.tks.drewN m) (fun p h => ⟨by have := ((unhide H4).2.2.2.1 p h).1; have := hM3.but.size; show p < w3.heap.size; omega, ((unhide H4).2.2.2.1 p h).2⟩) (fun h => (unhide H4).2.2.2.2.1 h.1) (fun b hb => by
          have hb : w3.heap.size ≤ b := hb
          have := hM3.but.size
          exact ⟨(unhide H4).2.2.1 b (by omega), by have := hM3.lt; omega, by omega⟩) (by show s.pos + 1 ≤ T.length; omega) (by show T.length - (s.pos + 1) ≤ n; omega) hd
        refine this.mono ?_
        rintro ev w' ⟨x, s', sl, h1, h2, h3, h4, h5, h6, h7⟩
        exact ⟨x, s', sl, h1, h2, h3, h4, ((but_refl rb w3).drewN m).trans h5, h6, h7⟩)
      obtain ⟨d0, d1, d2, d3, f0, f1, f2, f3, -⟩ := hM3.box5
      clear hM3
      go_wp2_with fail
      go_region_with (go_at_call 72; refine (unhide HFC _).mono ?_; rintro ev w5 ⟨x5, s5, sl5, rfl, hr5, hf5, hR5, hb5, hp5, hp6⟩; obtain ⟨la5, lc5, hsl⟩ := hf5.shape; generalize hln : x5.a.length = ln5 at hsl; subst hsl; clear hln; have k0 := (hb5.cell (p := ⟨q, 0, none⟩) hq3 (by show q ≠ rb; omega)).trans d0; have k1 := (hb5.cell (p := ⟨q, 1, none⟩) hq3 (by show q ≠ rb; omega)).trans d1; have k2 := (hb5.cell (p := ⟨q, 2, none⟩) hq3 (by show q ≠ rb; omega)).trans d2; have k3 := (hb5.cell (p := ⟨q, 3, none⟩) hq3 (by show q ≠ rb; omega)).trans d3; have z0 := (hb5.frozen (p := ⟨q, 0, none⟩) hq3 (by show q ≠ rb; omega)).trans f0; have z1 := (hb5.frozen (p := ⟨q, 1, none⟩) hq3 (by show q ≠ rb; omega)).trans f1; have z2 := (hb5.frozen (p := ⟨q, 2, none⟩) hq3 (by show q ≠ rb; omega)).trans f2; have z3 := (hb5.frozen (p := ⟨q, 3, none⟩) hq3 (by show q ≠ rb; omega)).trans f3; have hq5 : q < w5.heap.size := Nat.lt_of_lt_of_le hq3 hb5.size; have HX := hide (And.intro hr5 (And.intro hf5 (And.intro hR5 hb5))); clear hr5 hf5 hR5 hb5)
      all_goals (
        have hM5 := (unhide HM3).step (unhide HLR) (unhide HX).2.2.2 (unhide HX).2.2.1
        have hM6 := hM5.join (unhide HLQ q (by omega)) (unhide HX).2.1 hq3 7
        have HM6 := hide hM6
        have HPO := hide hM6.rdr.posOf
        have HPW := hide (unhide HMM).rdr.posOf
        have HRN : Hid (∀ r, Ex.RProds T d (.mk 7 0 [] [e, x5]) s5 r → Ex.RTerm T d s0 r) := hide (fun r h => unhide HRS r (Ex.rProds_mul (unhide HC1) (unhide HX).1 h))
        clear hM5 hM6
        go_wp2
        go_roundw
        case rel => exact ⟨_, s5, _, hp5, by have : s.next.pos = s.pos + 1 := rfl; omega, HM6, HRN⟩
        case measure => rw [unhide HPO, unhide HPW]; have : s.next.pos = s.pos + 1 := rfl; omega)
set_option maxHeartbeats 8000000 in
set_option maxRecDepth 100000 in
theorem rdExpr_of (T : List Words.T) (L : Value) (hl : T.length ≤ 1000000) (n : Nat) (HF : Reads T L 51 Ex.RTerm n) : Reads T L 39 Ex.RExpr n := by
  intro w S rb d s0 hR hT hL hS hN hp hn hd
  have hrb := hR.lt
  have hR0 := (hR.mono (S' := fun b => S b ∧ b ≠ w.heap.size) (fun b hs hl => ⟨hs, by omega⟩)).below (alloc_below w (.cells zeroE ET))
  have hT0 := hT.below (alloc_below w (.cells zeroE ET))
  have hB4 : Box (w.alloc (.cells zeroE ET)) w.heap.size E.none (.slice none 0 0) := box_new w E.none (.slice none 0 0) ET
  have hsz0 : (w.alloc (.cells zeroE ET)).heap.size = w.heap.size + 1 := by simp
  have HC := hide (HF (w.alloc (.cells zeroE ET)) (fun b => S b ∧ b ≠ w.heap.size) rb d s0 hR0 hT0 (fun p h => ⟨by have := (hL p h).1; omega, (hL p h).2⟩) (fun h => hS h.1) (fun b hb => ⟨hN b (by omega), by omega⟩) hp hn hd)
  have HFF := hide HF
  have H4 := hide (And.intro hB4 (And.intro hT0 (And.intro hN (And.intro hL (And.intro hS hsz0)))))
  clear HF hR0 hT0 hB4 hR hT hN hL hS hsz0
  go_enter Tryz.func39, Tryz.ntmps39
  go_wp2_with fail
  refine (unhide HC).mono ?_
  rintro ev w1 ⟨x, s1, sl, rfl, hr1, hf1, hR1, hb1, hp1, hp2⟩
  obtain ⟨la, lc, hsl⟩ := hf1.shape
  generalize hln : x.a.length = ln at hsl
  subst hsl
  clear hln
  have hsz1 : w.heap.size < w1.heap.size := by have := hb1.size; have := (unhide H4).2.2.2.2.2; omega
  have HM : Hid (Mid T L w S rb w1.heap.size (w1.alloc (.cells #[.int .i64 x.kind, .int .i64 x.n, .string ⟨x.name.toArray⟩, .slice la ln lc] ET)) x s1 (.slice la ln lc)) := hide (by
    have hz := (unhide H4).2.2.2.2.2
    have hbz : But rb w w1 := (but_below (alloc_below _ _)).trans hb1
    refine ⟨((unhide H4).1.but hb1 (by omega)).keep ((alloc_below w1 (.cells #[.int .i64 x.kind, .int .i64 x.n, .string ⟨x.name.toArray⟩, .slice la ln lc] ET)).block _ hsz1) (alloc_below w1 (.cells #[.int .i64 x.kind, .int .i64 x.n, .string ⟨x.name.toArray⟩, .slice la ln lc] ET)).size, box_new _ _ _ _, (hf1.mono (S' := fun b => w.heap.size < b ∧ b ≠ w1.heap.size) (fun b hs hl => ⟨by omega, by omega⟩)).old (alloc_below _ _), (hR1.mono (S' := fun b => S b ∧ b ≠ w.heap.size ∧ b ≠ w1.heap.size) (fun b hs hl => ⟨hs.1, hs.2, by omega⟩)).below (alloc_below _ _), ((unhide H4).2.1.but hb1 (fun h => ((unhide H4).2.2.2.1 rb h).2 rfl)).below (alloc_below _ _), hbz.alloc _, hsz1, hrb⟩)
  have HRR : Hid (∀ r, Ex.RSums T d x s1 r → Ex.RExpr T d s0 r) := hide (fun r h => Ex.rExpr hr1 h)
  have HLQ : Hid (∀ q, w.heap.size ≤ q → L.ownBlock ≠ some q) := hide (fun q hq h => by have := ((unhide H4).2.2.2.1 q h).1; omega)
  clear hr1 hf1 hR1 hb1 HC
  go_wp2_with fail
  generalize hq : w1.heap.size = q at *
  generalize w1.alloc (.cells #[.int .i64 x.kind, .int .i64 x.n, .string ⟨x.name.toArray⟩, .slice la ln lc] ET) = W1 at *
  clear hq
  go_loopw [6] (fun _ wr => ∃ (e : E) (s : St) (sl : Value), s.pos ≤ T.length ∧ s1.pos ≤ s.pos ∧ Hid (Mid T L w S rb q wr e s sl) ∧ Hid (∀ r, Ex.RSums T d e s r → Ex.RExpr T d s0 r)) (fun _ wr => T.length - posOf rb wr)
  case atStart => exact ⟨x, s1, _, hp1, Nat.le_refl _, HM, HRR⟩
  case round =>
    obtain ⟨e, s, sl2, hps, hps2, HMM, HRS⟩ := hrel
    obtain ⟨la2, lc2, hsl⟩ := (unhide HMM).forest.shape
    generalize hln : e.a.length = ln2 at hsl
    subst hsl
    clear hln
    have hrq : rb < q := by have := (unhide HMM).lt; have := (unhide HMM).rbl; omega
    have HT1 := hide (rdTook_any T L wr (fun b => S b ∧ b ≠ w.heap.size ∧ b ≠ q) rb s [43] (unhide HMM).rdr (unhide HMM).tks hl (fun h => (unhide H4).2.2.2.2.1 h.1))
    have HLR : Hid (L.ownBlock ≠ some rb) := hide (fun h => ((unhide H4).2.2.2.1 rb h).2 rfl)
    cases hc1 : Ex.isSign T s [43]
    · rw [hc1] at HT1
      have HC1 := hide hc1
      clear hc1
      go_wp2_with fail
      refine (unhide HT1).mono ?_
      rintro ev w2 ⟨rfl, hR2, hb2, hz2⟩
      have hM2 := (unhide HMM).step (unhide HLR) hb2 hR2
      have HM2 : Hid (Mid T L w S rb q w2 e s (.slice la2 ln2 lc2)) := hide hM2
      have HT2 := hide (rdTook_any T L w2 (fun b => S b ∧ b ≠ w.heap.size ∧ b ≠ q) rb s [45] hM2.rdr hM2.tks hl (fun h => (unhide H4).2.2.2.2.1 h.1))
      clear hR2 hb2 hM2 HT1
      cases hc2 : Ex.isSign T s [45]
      · rw [hc2] at HT2
        have HC2 := hide hc2
        clear hc2
        go_wp2_with fail
        refine (unhide HT2).mono ?_
        rintro ev w3 ⟨rfl, hR3, hb3, hz3⟩
        have hM3 := (unhide HM2).step (unhide HLR) hb3 hR3
        have HM3 : Hid (Mid T L w S rb q w3 e s (.slice la2 ln2 lc2)) := hide hM3
        obtain ⟨d0, d1, d2, d3, -, -, -, -, -⟩ := hM3.box5
        obtain ⟨g0, g1, g2, g3, f0, f1, f2, f3, hg⟩ := hM3.box4
        have hne : w.heap.size ≠ q := by have := hM3.lt; omega
        clear hM3 hR3 hb3 HT2
        go_wp2
        refine bodyPost_ret (v := treeV e (.slice la2 ln2 lc2)) (by simp [results, Tryz.results39, go_sem, g0, g1, g2, g3]) rfl ⟨e, s, _, rfl, unhide HRS _ (Ex.rSums_end (unhide HC1) (unhide HC2)), ?_⟩
        obtain ⟨r1, r2, r3⟩ := (unhide HM3).done rfl
        exact ⟨r1, r2, r3, hps, by omega⟩
      · have hlt : s.pos < T.length := by
          rcases Nat.lt_or_ge s.pos T.length with h1 | h1
          · exact h1
          · rw [isSign_out (by omega)] at hc2; cases hc2
        rw [hc2] at HT2
        have HC2 := hide hc2
        clear hc2
        go_wp2_with fail
        refine (unhide HT2).mono ?_
        rintro ev w3 ⟨rfl, hR3, hb3, hz3⟩
        have hM3 : Mid T L w S rb q w3 e s.next (.slice la2 ln2 lc2) := (unhide HM2).step (unhide HLR) hb3 hR3
        clear hR3 hb3 HT2
        have HM3 := hide hM3
        have hq3 := hM3.box5.lt
        have HFC : Hid (∀ m, Calls Tryz.prog 51 #[.pointer (some ⟨rb, 0, none⟩), .int .i64 d] (w3.drewN m) fun e w' => ∃ x s' sl, e = .returned (treeV x sl) ∧ Ex.RTerm T d s.next (x, s') ∧ Forest w' (fun b => w3.heap.size ≤ b) x.a sl ∧ Rdr w' (fun b => S b ∧ b ≠ w.heap.size ∧ b ≠ q) wExpr rb L s' ∧ But rb w3 w' ∧ s'.pos ≤ T.length ∧ s.next.pos ≤ s'.pos) := hide (fun m => by
          have := unhide HFF (w3.drewN m) (fun b => S b ∧ b ≠ w.heap.size ∧ b ≠ q) rb d s.next (hM3.rdr.drewN m) (hM3.tks.drewN m) (fun p h => ⟨by have := ((unhide H4).2.2.2.1 p h).1; have := hM3.but.size; show p < w3.heap.size; omega, ((unhide H4).2.2.2.1 p h).2⟩) (fun h => (unhide H4).2.2.2.2.1 h.1) (fun b hb => by
            have hb : w3.heap.size ≤ b := hb
            have := hM3.but.size
            exact ⟨(unhide H4).2.2.1 b (by omega), by have := hM3.lt; omega, by omega⟩) (by show s.pos + 1 ≤ T.length; omega) (by show T.length - (s.pos + 1) ≤ n; omega) hd
          refine this.mono ?_
          rintro ev w' ⟨x, s', sl, h1, h2, h3, h4, h5, h6, h7⟩
          exact ⟨x, s', sl, h1, h2, h3, h4, ((but_refl rb w3).drewN m).trans h5, h6, h7⟩)
        obtain ⟨d0, d1, d2, d3, f0, f1, f2, f3, -⟩ := hM3.box5
        clear hM3
        go_wp2_with fail
        go_region_with (go_at_call 51; refine (unhide HFC _).mono ?_; rintro ev w5 ⟨x5, s5, sl5, rfl, hr5, hf5, hR5, hb5, hp5, hp6⟩; obtain ⟨la5, lc5, hsl⟩ := hf5.shape; generalize hln : x5.a.length = ln5 at hsl; subst hsl; clear hln; have k0 := (hb5.cell (p := ⟨q, 0, none⟩) hq3 (by show q ≠ rb; omega)).trans d0; have k1 := (hb5.cell (p := ⟨q, 1, none⟩) hq3 (by show q ≠ rb; omega)).trans d1; have k2 := (hb5.cell (p := ⟨q, 2, none⟩) hq3 (by show q ≠ rb; omega)).trans d2; have k3 := (hb5.cell (p := ⟨q, 3, none⟩) hq3 (by show q ≠ rb; omega)).trans d3; have z0 := (hb5.frozen (p := ⟨q, 0, none⟩) hq3 (by show q ≠ rb; omega)).trans f0; have z1 := (hb5.frozen (p := ⟨q, 1, none⟩) hq3 (by show q ≠ rb; omega)).trans f1; have z2 := (hb5.frozen (p := ⟨q, 2, none⟩) hq3 (by show q ≠ rb; omega)).trans f2; have z3 := (hb5.frozen (p := ⟨q, 3, none⟩) hq3 (by show q ≠ rb; omega)).trans f3; have hq5 : q < w5.heap.size := Nat.lt_of_lt_of_le hq3 hb5.size; have HX := hide (And.intro hr5 (And.intro hf5 (And.intro hR5 hb5))); clear hr5 hf5 hR5 hb5)
        all_goals (
          have hM5 := (unhide HM3).step (unhide HLR) (unhide HX).2.2.2 (unhide HX).2.2.1
          have hM6 := hM5.join (unhide HLQ q (by omega)) (unhide HX).2.1 hq3 6
          have HM6 := hide hM6
          have HPO := hide hM6.rdr.posOf
          have HPW := hide (unhide HMM).rdr.posOf
          have HRN : Hid (∀ r, Ex.RSums T d (.mk 6 0 [] [e, x5]) s5 r → Ex.RExpr T d s0 r) := hide (fun r h => unhide HRS r (Ex.rSums_sub (unhide HC1) (unhide HC2) (unhide HX).1 h))
          clear hM5 hM6
          go_wp2
          go_roundw
          case rel => exact ⟨_, s5, _, hp5, by have : s.next.pos = s.pos + 1 := rfl; omega, HM6, HRN⟩
          case measure => rw [unhide HPO, unhide HPW]; have : s.next.pos = s.pos + 1 := rfl; omega)
    · have hlt : s.pos < T.length := by
        rcases Nat.lt_or_ge s.pos T.length with h1 | h1
        · exact h1
        · rw [isSign_out (by omega)] at hc1; cases hc1
      rw [hc1] at HT1
      have HC1 := hide hc1
      clear hc1
      go_wp2_with fail
      refine (unhide HT1).mono ?_
      rintro ev w3 ⟨rfl, hR3, hb3, hz3⟩
      have hM3 : Mid T L w S rb q w3 e s.next (.slice la2 ln2 lc2) := (unhide HMM).step (unhide HLR) hb3 hR3
      clear hR3 hb3 HT1
      have HM3 := hide hM3
      have hq3 := hM3.box5.lt
      have HFC : Hid (∀ m, Calls Tryz.prog 51 #[.pointer (some ⟨rb, 0, none⟩), .int .i64 d] (w3.drewN m) fun e w' => ∃ x s' sl, e = .returned (treeV x sl) ∧ Ex.RTerm T d s.next (x, s') ∧ Forest w' (fun b => w3.heap.size ≤ b) x.a sl ∧ Rdr w' (fun b => S b ∧ b ≠ w.heap.size ∧ b ≠ q) wExpr rb L s' ∧ But rb w3 w' ∧ s'.pos ≤ T.length ∧ s.next.pos ≤ s'.pos) := hide (fun m => by
        have := unhide HFF (w3.drewN m) (fun b => S b ∧ b ≠ w.heap.size ∧ b ≠ q) rb d s.next (hM3.rdr.drewN m) (hM3.tks.drewN m) (fun p h => ⟨by have := ((unhide H4).2.2.2.1 p h).1; have := hM3.but.size; show p < w3.heap.size; omega, ((unhide H4).2.2.2.1 p h).2⟩) (fun h => (unhide H4).2.2.2.2.1 h.1) (fun b hb => by
          have hb : w3.heap.size ≤ b := hb
          have := hM3.but.size
          exact ⟨(unhide H4).2.2.1 b (by omega), by have := hM3.lt; omega, by omega⟩) (by show s.pos + 1 ≤ T.length; omega) (by show T.length - (s.pos + 1) ≤ n; omega) hd
        refine this.mono ?_
        rintro ev w' ⟨x, s', sl, h1, h2, h3, h4, h5, h6, h7⟩
        exact ⟨x, s', sl, h1, h2, h3, h4, ((but_refl rb w3).drewN m).trans h5, h6, h7⟩)
      obtain ⟨d0, d1, d2, d3, f0, f1, f2, f3, -⟩ := hM3.box5
      clear hM3
      go_wp2_with fail
      go_region_with (go_at_call 51; refine (unhide HFC _).mono ?_; rintro ev w5 ⟨x5, s5, sl5, rfl, hr5, hf5, hR5, hb5, hp5, hp6⟩; obtain ⟨la5, lc5, hsl⟩ := hf5.shape; generalize hln : x5.a.length = ln5 at hsl; subst hsl; clear hln; have k0 := (hb5.cell (p := ⟨q, 0, none⟩) hq3 (by show q ≠ rb; omega)).trans d0; have k1 := (hb5.cell (p := ⟨q, 1, none⟩) hq3 (by show q ≠ rb; omega)).trans d1; have k2 := (hb5.cell (p := ⟨q, 2, none⟩) hq3 (by show q ≠ rb; omega)).trans d2; have k3 := (hb5.cell (p := ⟨q, 3, none⟩) hq3 (by show q ≠ rb; omega)).trans d3; have z0 := (hb5.frozen (p := ⟨q, 0, none⟩) hq3 (by show q ≠ rb; omega)).trans f0; have z1 := (hb5.frozen (p := ⟨q, 1, none⟩) hq3 (by show q ≠ rb; omega)).trans f1; have z2 := (hb5.frozen (p := ⟨q, 2, none⟩) hq3 (by show q ≠ rb; omega)).trans f2; have z3 := (hb5.frozen (p := ⟨q, 3, none⟩) hq3 (by show q ≠ rb; omega)).trans f3; have hq5 : q < w5.heap.size := Nat.lt_of_lt_of_le hq3 hb5.size; have HX := hide (And.intro hr5 (And.intro hf5 (And.intro hR5 hb5))); clear hr5 hf5 hR5 hb5)
      all_goals (
        have hM5 := (unhide HM3).step (unhide HLR) (unhide HX).2.2.2 (unhide HX).2.2.1
        have hM6 := hM5.join (unhide HLQ q (by omega)) (unhide HX).2.1 hq3 5
        have HM6 := hide hM6
        have HPO := hide hM6.rdr.posOf
        have HPW := hide (unhide HMM).rdr.posOf
        have HRN : Hid (∀ r, Ex.RSums T d (.mk 5 0 [] [e, x5]) s5 r → Ex.RExpr T d s0 r) := hide (fun r h => unhide HRS r (Ex.rSums_add (unhide HC1) (unhide HX).1 h))
        clear hM5 hM6
        go_wp2
        go_roundw
        case rel => exact ⟨_, s5, _, hp5, by have : s.next.pos = s.pos + 1 := rfl; omega, HM6, HRN⟩
        case measure => rw [unhide HPO, unhide HPW]; have : s.next.pos = s.pos + 1 := rfl; omega)
end Go.Proofs.YtepnafnljfjeoaaGreatDoor.Line
