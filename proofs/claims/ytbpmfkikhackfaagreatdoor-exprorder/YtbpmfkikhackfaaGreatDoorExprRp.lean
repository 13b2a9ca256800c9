/- The contract of the reference's ParseExpr. -/
import Derived.Test.YtbpmfkikhackfaaGreatDoorExprFa
namespace Go.Proofs.YtbpmfkikhackfaaGreatDoor.Line
open Go.ChangeShapes Go.WideShapes Go.ChangeAt Go.RowKit
open Ex (E St)
set_option linter.unusedVariables false

abbrev s00 : St := ⟨0, 0, 0⟩
/-- what a reading answers: the tree, or none -/
def ansE (x : E) (s : St) : E := if s.err = 0 then x else E.none
def ansN (s : St) : Nat := if s.err = 0 then s.pos else 0
abbrev WrT : TypeId := 26
abbrev RdT : TypeId := 88
/-- the block of a Wrong -/
structure BoxW (w : World) (p : Nat) (a : Value) (e : Int) : Prop where
  c0 : w.cell? ⟨p, 0, none⟩ = some a
  c1 : w.cell? ⟨p, 1, none⟩ = some (.int .i64 e)
  f0 : w.frozen? ⟨p, 0, none⟩ = false
  f1 : w.frozen? ⟨p, 1, none⟩ = false
  lt : p < w.heap.size
theorem BoxW.keep {w w' : World} {p : Nat} {a : Value} {e : Int} (h : BoxW w p a e) (hp : w'.heap[p]? = w.heap[p]?) (hs : w.heap.size ≤ w'.heap.size) : BoxW w' p a e := by
  have hc : ∀ o, w'.cell? ⟨p, o, none⟩ = w.cell? ⟨p, o, none⟩ := fun o => World.cell?_of_block (a := ⟨p, o, none⟩) hp
  have hf : ∀ o, w'.frozen? ⟨p, o, none⟩ = w.frozen? ⟨p, o, none⟩ := fun o => World.frozen?_of_block (a := ⟨p, o, none⟩) hp
  exact ⟨(hc 0).trans h.c0, (hc 1).trans h.c1, (hf 0).trans h.f0, (hf 1).trans h.f1, by have := h.lt; omega⟩
theorem Bad.told {w : World} {S : Nat → Prop} {word : List UInt8} {sl : Value} {s : St} {B : Nat} (h : Bad w S word sl s) (hS : ∀ b, S b → B ≤ b) : Told B w (.agg #[sl, .int .i64 s.err]) word s.bad s.err := by
  rcases h with ⟨h0, rfl⟩ | ⟨h0, bb, hb, rfl, h1, h2⟩
  · exact .inl ⟨h0, by rw [h0]; rfl⟩
  · exact .inr ⟨h0, bb, hS bb hb, rfl, h1, h2⟩
theorem rdr_new (w : World) (L : Value) (S : Nat → Prop) (t : TypeId) : Rdr (w.alloc (.cells #[L, .int .i64 0, .slice none 0 0, .int .i64 0] t)) S wExpr w.heap.size L s00 := by
  refine ⟨by simp, by simp, ⟨.slice none 0 0, by simp, .inl ⟨rfl, rfl⟩⟩, by simp, ⟨by simp, by simp, by simp, by simp⟩, by simp⟩
theorem boxW_new (w : World) (a : Value) (e : Int) (t : TypeId) : BoxW (w.alloc (.cells #[a, .int .i64 e] t)) w.heap.size a e := by
  refine ⟨?_, ?_, ?_, ?_, ?_⟩ <;> simp
abbrev start3 (w : World) (L : Value) : World := ((w.alloc (.cells zeroE ET)).alloc (.cells #[.slice none 0 0, .int .i64 0] WrT)).alloc (.cells #[L, .int .i64 0, .slice none 0 0, .int .i64 0] RdT)
theorem start3_ok (w : World) (L : Value) : Box (start3 w L) w.heap.size E.none (.slice none 0 0) ∧ BoxW (start3 w L) (w.heap.size + 1) (.slice none 0 0) 0 ∧ Rdr (start3 w L) (fun b => w.heap.size + 3 ≤ b) wExpr (w.heap.size + 2) L s00 ∧ (start3 w L).heap.size = w.heap.size + 3 ∧ Below w.heap.size w (start3 w L) := by
  have z1 : (w.alloc (.cells zeroE ET)).heap.size = w.heap.size + 1 := by simp
  have z2 : ((w.alloc (.cells zeroE ET)).alloc (.cells #[.slice none 0 0, .int .i64 0] WrT)).heap.size = w.heap.size + 2 := by simp
  have b1 := alloc_below (w.alloc (.cells zeroE ET)) (.cells #[.slice none 0 0, .int .i64 0] WrT)
  have b2 := alloc_below ((w.alloc (.cells zeroE ET)).alloc (.cells #[.slice none 0 0, .int .i64 0] WrT)) (.cells #[L, .int .i64 0, .slice none 0 0, .int .i64 0] RdT)
  refine ⟨?_, ?_, ?_, by simp, ?_⟩
  · have h := box_new w E.none (.slice none 0 0) ET
    exact (h.keep (b1.block _ (by omega)) b1.size).keep (b2.block _ (by omega)) b2.size
  · have h := boxW_new (w.alloc (.cells zeroE ET)) (.slice none 0 0) 0 WrT
    rw [z1] at h
    exact h.keep (b2.block _ (by omega)) b2.size
  · have h := rdr_new ((w.alloc (.cells zeroE ET)).alloc (.cells #[.slice none 0 0, .int .i64 0] WrT)) L (fun b => w.heap.size + 3 ≤ b) RdT
    rw [z2] at h
    exact h
  · exact ((alloc_below w _).trans (b1.mono (by omega))).trans (b2.mono (by omega))
/-- six cells of two blocks are set, a draw: other blocks stay -/
theorem heap_set2 (w : World) (q : Nat) (e f : Value) (k : Nat) (h2 : k ≠ q) : ((w.setCell ⟨q, 0, none⟩ e).setCell ⟨q, 1, none⟩ f).heap[k]? = w.heap[k]? := (Below.heap_setCell _ ⟨q, 1, none⟩ f k h2).trans (Below.heap_setCell _ ⟨q, 0, none⟩ e k h2)
theorem heap_drew (w : World) (k : Nat) : w.drew.heap[k]? = w.heap[k]? := rfl
theorem heap_set6 (w : World) (p q : Nat) (a b c d e f : Value) (k : Nat) (h : k ≠ p) (h2 : k ≠ q) : (((((((w.setCell ⟨p, 0, none⟩ a).setCell ⟨p, 1, none⟩ b).setCell ⟨p, 2, none⟩ c).setCell ⟨p, 3, none⟩ d).setCell ⟨q, 0, none⟩ e).setCell ⟨q, 1, none⟩ f).drew).heap[k]? = w.heap[k]? := by
  have h4 := heap_set4 w p a b c d k h
  generalize (((w.setCell ⟨p, 0, none⟩ a).setCell ⟨p, 1, none⟩ b).setCell ⟨p, 2, none⟩ c).setCell ⟨p, 3, none⟩ d = W at *
  exact ((heap_drew _ k).trans (heap_set2 W q e f k h2)).trans h4
theorem below_set6 {w w' : World} (h : Below w.heap.size w w') (a b c d e f : Value) : Below w.heap.size w ((((((w'.setCell ⟨w.heap.size, 0, none⟩ a).setCell ⟨w.heap.size, 1, none⟩ b).setCell ⟨w.heap.size, 2, none⟩ c).setCell ⟨w.heap.size, 3, none⟩ d).setCell ⟨w.heap.size + 1, 0, none⟩ e).setCell ⟨w.heap.size + 1, 1, none⟩ f).drew := by
  have h1 := h.setCell (p := ⟨w.heap.size, 0, none⟩) (Nat.le_refl _) a
  have h2 := h1.setCell (p := ⟨w.heap.size, 1, none⟩) (Nat.le_refl _) b
  have h3 := h2.setCell (p := ⟨w.heap.size, 2, none⟩) (Nat.le_refl _) c
  have h4 := h3.setCell (p := ⟨w.heap.size, 3, none⟩) (Nat.le_refl _) d
  have h5 := h4.setCell (p := ⟨w.heap.size + 1, 0, none⟩) (Nat.le_succ _) e
  have h6 := h5.setCell (p := ⟨w.heap.size + 1, 1, none⟩) (Nat.le_succ _) f
  exact h6.drew
def RefParseSpec : Prop := ∀ (T : List Words.T) (L : Value) (w : World), T.length ≤ 1000000 → Tks w L T → (∀ p, L.ownBlock = some p → p < w.heap.size) → Calls Tryz.prog 11 #[L] w fun e w' => ∃ x s sl g, Ex.RExpr T 0 s00 (x, s) ∧ e = .returned (.tuple #[treeV (ansE x s) sl, .int .i64 (ansN s), g]) ∧ Forest w' (fun b => w.heap.size ≤ b) (ansE x s).a sl ∧ Told w.heap.size w' g wExpr s.bad s.err ∧ Below w.heap.size w w' ∧ s.pos ≤ T.length
set_option maxHeartbeats 8000000 in
set_option maxRecDepth 100000 in
theorem refParse_any : RefParseSpec := by
  intro T L w hl hT hL
  obtain ⟨hb2, hb4, hR, hz, hB⟩ := start3_ok w L
  have HC := hide ((rdAll T L hl T.length).2.1 (start3 w L) (fun b => w.heap.size + 3 ≤ b) (w.heap.size + 2) 0 s00 hR (hT.below hB) (fun p h => by have := hL p h; exact ⟨by omega, by omega⟩) (by omega) (fun b hb => by omega) (Nat.zero_le _) (by show T.length - 0 ≤ T.length; omega) (by omega))
  obtain ⟨ta, tc, rfl⟩ := hT.shape
  have HB := hide (And.intro hb2 (And.intro hb4 (And.intro hz hB)))
  clear hb2 hb4 hR hz hB hT hL
  go_enter Tryz.func11, Tryz.ntmps11
  go_wp2_with fail
  refine (unhide HC).mono ?_
  rintro ev w1 ⟨x, s1, sl, rfl, hr1, hf1, hR1, hb1, hp1, hp2⟩
  obtain ⟨la, lc, hsl⟩ := hf1.shape
  generalize hln : x.a.length = ln at hsl
  subst hsl
  clear hln
  obtain ⟨hb2, hb4, hz, hB⟩ := unhide HB
  have hz1 := hb1.size
  have ba := alloc_below w1 (.cells #[.int .i64 x.kind, .int .i64 x.n, .string ⟨x.name.toArray⟩, .slice la ln lc] ET)
  have hx2 := (hb2.but hb1 (by omega)).keep (ba.block _ (by omega)) ba.size
  have hx4 := (hb4.keep (hb1.block _ hb4.lt (by intro e; injection e with e; omega)) hb1.size).keep (ba.block _ (by omega)) ba.size
  have hx6 := box_new w1 x (.slice la ln lc) ET
  have hfo : Forest (w1.alloc (.cells #[.int .i64 x.kind, .int .i64 x.n, .string ⟨x.name.toArray⟩, .slice la ln lc] ET)) (fun b => w.heap.size + 3 ≤ b ∧ b ≠ w1.heap.size) x.a (.slice la ln lc) := (hf1.mono (fun b hs hl => ⟨by omega, by omega⟩)).old ba
  have hRR := hR1.below ba
  have hbb : Below w.heap.size w (w1.alloc (.cells #[.int .i64 x.kind, .int .i64 x.n, .string ⟨x.name.toArray⟩, .slice la ln lc] ET)) := (hB.trans (hb1.below (by omega) (by omega))).trans (ba.mono (by omega))
  obtain ⟨d0, d1, d2, d3, -, -, -, -, -⟩ := hx6
  obtain ⟨a0, a1, a2, a3, f0, f1, f2, f3, hg2⟩ := hx2
  obtain ⟨c0, c1, e0, e1, hg4⟩ := hx4
  obtain ⟨-, r1, ⟨bs, r2, hbad⟩, r3, -, -⟩ := hRR
  have hq : w.heap.size + 3 ≤ w1.heap.size := by omega
  have hbs : ∃ a n, bs = .slice a n n := by
    rcases hbad with ⟨_, rfl⟩ | ⟨_, bb, _, rfl, _⟩
    · exact ⟨_, _, rfl⟩
    · exact ⟨_, _, rfl⟩
  obtain ⟨ba1, bn, rfl⟩ := hbs
  have H1 := hide (And.intro hr1 (And.intro hfo (And.intro hbad hbb)))
  clear hr1 hf1 hR1 hb1 hb2 hb4 hz hB ba hfo hbad hbb HC HB hz1
  by_cases h0 : s1.err = 0
  · rw [h0] at r3
    have r3' : (w1.alloc (.cells #[.int .i64 x.kind, .int .i64 x.n, .string ⟨x.name.toArray⟩, .slice la ln lc] ET)).cell? ⟨w.heap.size + 2, 3, none⟩ = some (.int .i64 0) := r3
    have HA : Hid (ansE x s1 = x ∧ ansN s1 = s1.pos) := hide ⟨by unfold ansE; rw [if_pos h0], by unfold ansN; rw [if_pos h0]⟩
    have H0 := hide h0
    clear r3 h0
    go_wp2_with fail
    generalize hqq : w1.heap.size = q at *
    generalize w1.alloc (.cells #[.int .i64 x.kind, .int .i64 x.n, .string ⟨x.name.toArray⟩, .slice la ln lc] ET) = W1 at *
    clear hqq
    go_region
    go_wp2
    refine bodyPost_ret (v := .tuple #[treeV x (.slice la ln lc), .int .i64 s1.pos, .agg #[.slice none 0 0, .int .i64 0]]) (by simp [results, Tryz.results11, go_sem, a0, a1, a2, a3, c0, c1]) rfl ⟨x, s1, .slice la ln lc, .agg #[.slice none 0 0, .int .i64 0], (unhide H1).1, by rw [(unhide HA).1, (unhide HA).2], ?_, ?_, below_set6 (unhide H1).2.2.2 _ _ _ _ _ _, hp1⟩
    · rw [(unhide HA).1]
      exact (unhide H1).2.1.keep (fun b hs _ => heap_set6 _ _ _ _ _ _ _ _ _ b (by omega) (by omega)) (fun b hs _ => by omega)
    · exact .inl ⟨unhide H0, rfl⟩
  · have k1 : ((s1.err : Int) != 0) = true := by rw [bne_iff_ne]; omega
    have k2 : ¬ (s1.err : Int) = 0 := by omega
    have HA : Hid (ansE x s1 = E.none ∧ ansN s1 = 0) := hide ⟨by unfold ansE; rw [if_neg h0], by unfold ansN; rw [if_neg h0]⟩
    clear h0
    go_wp2_with fail
    generalize hqq : w1.heap.size = q at *
    generalize w1.alloc (.cells #[.int .i64 x.kind, .int .i64 x.n, .string ⟨x.name.toArray⟩, .slice la ln lc] ET) = W1 at *
    clear hqq
    go_region
    go_wp2
    refine bodyPost_ret (v := .tuple #[treeV E.none (.slice none 0 0), .int .i64 0, .agg #[.slice ba1 bn bn, .int .i64 s1.err]]) (by simp [results, Tryz.results11, go_sem, a0, a1, a2, a3, c0, c1, E.none, E.kind, E.n, E.name]) rfl ⟨x, s1, .slice none 0 0, .agg #[.slice ba1 bn bn, .int .i64 s1.err], (unhide H1).1, by rw [(unhide HA).1, (unhide HA).2]; rfl, ?_, ?_, below_set6 (unhide H1).2.2.2 _ _ _ _ _ _, hp1⟩
    · rw [(unhide HA).1]
      exact .nil none 0
    · exact ((unhide H1).2.2.1.keep (S' := fun b => w.heap.size ≤ b) (fun b hs _ => heap_set6 _ _ _ _ _ _ _ _ _ b (by omega) (by omega)) (fun b hs _ => by omega)).told (fun b hs => hs)
end Go.Proofs.YtbpmfkikhackfaaGreatDoor.Line
