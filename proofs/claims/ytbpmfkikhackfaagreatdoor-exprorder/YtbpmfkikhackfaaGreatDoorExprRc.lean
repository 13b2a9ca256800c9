/- The contract of the reference's Rel and ParseCond. -/
import Derived.Test.YtbpmfkikhackfaaGreatDoorExprRp
import Derived.Deep.CutRange
namespace Go.Proofs.YtbpmfkikhackfaaGreatDoor.Line
open Go.ChangeShapes Go.WideShapes Go.ChangeAt Go.RowKit
open Ex (E St)
set_option linter.unusedVariables false

/-- the signs of a comparison -/
def rels : List (List UInt8) := [[60], [60, 61], [62], [62, 61], [61, 61], [47, 61]]
def isRel (s : List UInt8) : Bool := rels.contains s
set_option maxHeartbeats 4000000 in
theorem refRel_any (l : List UInt8) (w : World) : Calls Tryz.prog 39 #[.string ⟨l.toArray⟩] w fun e w' => e = .returned (.bool (isRel l)) ∧ w' = w := by
  by_cases h : l ∈ rels
  · have hE : isRel l = true := by unfold isRel; rw [List.contains_iff_mem]; exact h
    rw [hE]
    clear hE
    simp only [rels, List.mem_cons, List.not_mem_nil, or_false] at h
    rcases h with rfl | rfl | rfl | rfl | rfl | rfl
    all_goals (
      go_enter Tryz.func39, Tryz.ntmps39
      go_wp2
      go_ret
      exact ⟨rfl, rfl⟩)
  · have hE : isRel l = false := by
      rw [← Bool.not_eq_true]
      intro h1
      unfold isRel at h1
      rw [List.contains_iff_mem] at h1
      exact h h1
    rw [hE]
    clear hE
    simp only [rels, List.mem_cons, List.not_mem_nil, or_false, not_or] at h
    obtain ⟨h1, h2, h3, h4, h5, h6⟩ := h
    have k1 := beq_eq_false_iff_ne.2 h1
    have k2 := beq_eq_false_iff_ne.2 h2
    have k3 := beq_eq_false_iff_ne.2 h3
    have k4 := beq_eq_false_iff_ne.2 h4
    have k5 := beq_eq_false_iff_ne.2 h5
    have k6 := beq_eq_false_iff_ne.2 h6
    go_enter Tryz.func39, Tryz.ntmps39
    go_wp2
    go_ret
    exact ⟨rfl, rfl⟩
/-- a comparison's sign at a place -/
def relAt (T : List Words.T) (p : Nat) : Bool := match T[p]? with
  | some t => decide (t.kind = 3) && isRel t.text
  | none => false
/-- how a comparison is read: its sign, its two sides, where the reading ends -/
def RCond (T : List Words.T) (c : List UInt8) (x y : E) (s : St) : Prop := ∃ x1 s1, Ex.RExpr T 0 s00 (x1, s1) ∧
  ((s1.err ≠ 0 ∧ s = s1 ∧ c = [] ∧ x = E.none ∧ y = E.none) ∨ (s1.err = 0 ∧ relAt T s1.pos = false ∧ s = s1.fail s1.pos 2 ∧ c = [] ∧ x = E.none ∧ y = E.none) ∨
   (s1.err = 0 ∧ relAt T s1.pos = true ∧ ∃ y1 s3, Ex.RExpr T 0 s1.next (y1, s3) ∧ ((s3.err ≠ 0 ∧ s = s3 ∧ c = [] ∧ x = E.none ∧ y = E.none) ∨ (s3.err = 0 ∧ s = s3 ∧ (∃ h : s1.pos < T.length, c = T[s1.pos].text) ∧ x = x1 ∧ y = y1))))
theorem RCond.det {T : List Words.T} {c c' : List UInt8} {x x' y y' : E} {s s' : St} (h : RCond T c x y s) (h' : RCond T c' x' y' s') : c = c' ∧ x = x' ∧ y = y' ∧ s = s' := by
  obtain ⟨x1, s1, h1, h⟩ := h
  obtain ⟨x1', s1', h1', h'⟩ := h'
  have e := h1.det h1'
  injection e with e1 e2
  subst e1
  subst e2
  rcases h with ⟨a, rfl, rfl, rfl, rfl⟩ | ⟨a, b, rfl, rfl, rfl, rfl⟩ | ⟨a, b, y1, s3, h3, h⟩
  · rcases h' with ⟨a', rfl, rfl, rfl, rfl⟩ | ⟨a', _⟩ | ⟨a', _⟩
    · exact ⟨rfl, rfl, rfl, rfl⟩
    · exact absurd a' a
    · exact absurd a' a
  · rcases h' with ⟨a', _⟩ | ⟨a', b', rfl, rfl, rfl, rfl⟩ | ⟨a', b', _⟩
    · exact absurd a a'
    · exact ⟨rfl, rfl, rfl, rfl⟩
    · rw [b] at b'; cases b'
  · rcases h' with ⟨a', _⟩ | ⟨a', b', _⟩ | ⟨a', b', y1', s3', h3', h'⟩
    · exact absurd a a'
    · rw [b] at b'; cases b'
    · have e := h3.det h3'
      injection e with e1 e2
      subst e1
      subst e2
      rcases h with ⟨a, rfl, rfl, rfl, rfl⟩ | ⟨a, rfl, ⟨hp, rfl⟩, rfl, rfl⟩
      · rcases h' with ⟨a', rfl, rfl, rfl, rfl⟩ | ⟨a', _⟩
        · exact ⟨rfl, rfl, rfl, rfl⟩
        · exact absurd a' a
      · rcases h' with ⟨a', _⟩ | ⟨a', rfl, ⟨hp', rfl⟩, rfl, rfl⟩
        · exact absurd a a'
        · exact ⟨rfl, rfl, rfl, rfl⟩
abbrev condV (op : List UInt8) (x : E) (sx : Value) (y : E) (sy : Value) : Value := .agg #[.string ⟨op.toArray⟩, .int .i64 x.kind, .int .i64 x.n, .string ⟨x.name.toArray⟩, sx, .int .i64 y.kind, .int .i64 y.n, .string ⟨y.name.toArray⟩, sy]
abbrev CdT : TypeId := 48
/-- the block of a variable that holds a comparison -/
structure BoxC (w : World) (p : Nat) (op : List UInt8) (x : E) (sx : Value) (y : E) (sy : Value) : Prop where
  c0 : w.cell? ⟨p, 0, none⟩ = some (.string ⟨op.toArray⟩)
  c1 : w.cell? ⟨p, 1, none⟩ = some (.int .i64 x.kind)
  c2 : w.cell? ⟨p, 2, none⟩ = some (.int .i64 x.n)
  c3 : w.cell? ⟨p, 3, none⟩ = some (.string ⟨x.name.toArray⟩)
  c4 : w.cell? ⟨p, 4, none⟩ = some sx
  c5 : w.cell? ⟨p, 5, none⟩ = some (.int .i64 y.kind)
  c6 : w.cell? ⟨p, 6, none⟩ = some (.int .i64 y.n)
  c7 : w.cell? ⟨p, 7, none⟩ = some (.string ⟨y.name.toArray⟩)
  c8 : w.cell? ⟨p, 8, none⟩ = some sy
  f0 : w.frozen? ⟨p, 0, none⟩ = false
  f1 : w.frozen? ⟨p, 1, none⟩ = false
  f2 : w.frozen? ⟨p, 2, none⟩ = false
  f3 : w.frozen? ⟨p, 3, none⟩ = false
  f4 : w.frozen? ⟨p, 4, none⟩ = false
  f5 : w.frozen? ⟨p, 5, none⟩ = false
  f6 : w.frozen? ⟨p, 6, none⟩ = false
  f7 : w.frozen? ⟨p, 7, none⟩ = false
  f8 : w.frozen? ⟨p, 8, none⟩ = false
  lt : p < w.heap.size
theorem BoxC.keep {w w' : World} {p : Nat} {op : List UInt8} {x y : E} {sx sy : Value} (h : BoxC w p op x sx y sy) (hp : w'.heap[p]? = w.heap[p]?) (hs : w.heap.size ≤ w'.heap.size) : BoxC w' p op x sx y sy := by
  have hc : ∀ o, w'.cell? ⟨p, o, none⟩ = w.cell? ⟨p, o, none⟩ := fun o => World.cell?_of_block (a := ⟨p, o, none⟩) hp
  have hf : ∀ o, w'.frozen? ⟨p, o, none⟩ = w.frozen? ⟨p, o, none⟩ := fun o => World.frozen?_of_block (a := ⟨p, o, none⟩) hp
  exact ⟨(hc 0).trans h.c0, (hc 1).trans h.c1, (hc 2).trans h.c2, (hc 3).trans h.c3, (hc 4).trans h.c4, (hc 5).trans h.c5, (hc 6).trans h.c6, (hc 7).trans h.c7, (hc 8).trans h.c8, (hf 0).trans h.f0, (hf 1).trans h.f1, (hf 2).trans h.f2, (hf 3).trans h.f3, (hf 4).trans h.f4, (hf 5).trans h.f5, (hf 6).trans h.f6, (hf 7).trans h.f7, (hf 8).trans h.f8, by have := h.lt; omega⟩
theorem BoxC.but {w w' : World} {p rb : Nat} {op : List UInt8} {x y : E} {sx sy : Value} (h : BoxC w p op x sx y sy) (hb : But rb w w') (hne : p ≠ rb) : BoxC w' p op x sx y sy := h.keep (hb.block p h.lt (fun e => hne (by injection e))) hb.size
theorem boxC_new (w : World) (op : List UInt8) (x : E) (sx : Value) (y : E) (sy : Value) (t : TypeId) : BoxC (w.alloc (.cells #[.string ⟨op.toArray⟩, .int .i64 x.kind, .int .i64 x.n, .string ⟨x.name.toArray⟩, sx, .int .i64 y.kind, .int .i64 y.n, .string ⟨y.name.toArray⟩, sy] t)) w.heap.size op x sx y sy := by
  refine ⟨?_, ?_, ?_, ?_, ?_, ?_, ?_, ?_, ?_, ?_, ?_, ?_, ?_, ?_, ?_, ?_, ?_, ?_, ?_⟩ <;> simp
abbrev zeroC : Array Value := #[.string ⟨#[]⟩, .int .i64 0, .int .i64 0, .string ⟨#[]⟩, .slice none 0 0, .int .i64 0, .int .i64 0, .string ⟨#[]⟩, .slice none 0 0]
abbrev startC (w : World) (L : Value) : World := ((w.alloc (.cells zeroC CdT)).alloc (.cells #[.slice none 0 0, .int .i64 0] WrT)).alloc (.cells #[L, .int .i64 0, .slice none 0 0, .int .i64 0] RdT)
theorem startC_ok (w : World) (L : Value) : BoxC (startC w L) w.heap.size [] E.none (.slice none 0 0) E.none (.slice none 0 0) ∧ BoxW (startC w L) (w.heap.size + 1) (.slice none 0 0) 0 ∧ Rdr (startC w L) (fun b => w.heap.size + 3 ≤ b) wExpr (w.heap.size + 2) L s00 ∧ (startC w L).heap.size = w.heap.size + 3 ∧ Below w.heap.size w (startC w L) := by
  have z1 : (w.alloc (.cells zeroC CdT)).heap.size = w.heap.size + 1 := by simp
  have z2 : ((w.alloc (.cells zeroC CdT)).alloc (.cells #[.slice none 0 0, .int .i64 0] WrT)).heap.size = w.heap.size + 2 := by simp
  have b1 := alloc_below (w.alloc (.cells zeroC CdT)) (.cells #[.slice none 0 0, .int .i64 0] WrT)
  have b2 := alloc_below ((w.alloc (.cells zeroC CdT)).alloc (.cells #[.slice none 0 0, .int .i64 0] WrT)) (.cells #[L, .int .i64 0, .slice none 0 0, .int .i64 0] RdT)
  refine ⟨?_, ?_, ?_, by simp, ?_⟩
  · have h := boxC_new w [] E.none (.slice none 0 0) E.none (.slice none 0 0) CdT
    exact (h.keep (b1.block _ (by omega)) b1.size).keep (b2.block _ (by omega)) b2.size
  · have h := boxW_new (w.alloc (.cells zeroC CdT)) (.slice none 0 0) 0 WrT
    rw [z1] at h
    exact h.keep (b2.block _ (by omega)) b2.size
  · have h := rdr_new ((w.alloc (.cells zeroC CdT)).alloc (.cells #[.slice none 0 0, .int .i64 0] WrT)) L (fun b => w.heap.size + 3 ≤ b) RdT
    rw [z2] at h
    exact h
  · exact ((alloc_below w _).trans (b1.mono (by omega))).trans (b2.mono (by omega))
theorem heap_set1 (w : World) (p o : Nat) (a : Value) (k : Nat) (h : k ≠ p) : (w.setCell ⟨p, o, none⟩ a).heap[k]? = w.heap[k]? := Below.heap_setCell _ ⟨p, o, none⟩ a k h
theorem heap_set11 (w : World) (p q : Nat) (a0 a1 a2 a3 a4 a5 a6 a7 a8 e f : Value) (k : Nat) (h : k ≠ p) (h2 : k ≠ q) : (((((((((((w.setCell ⟨p, 0, none⟩ a0).setCell ⟨p, 1, none⟩ a1).setCell ⟨p, 2, none⟩ a2).setCell ⟨p, 3, none⟩ a3).setCell ⟨p, 4, none⟩ a4).setCell ⟨p, 5, none⟩ a5).setCell ⟨p, 6, none⟩ a6).setCell ⟨p, 7, none⟩ a7).setCell ⟨p, 8, none⟩ a8).setCell ⟨q, 0, none⟩ e).setCell ⟨q, 1, none⟩ f).drew.heap[k]? = w.heap[k]? := by
  have key : ∀ (W : World), W.heap[k]? = w.heap[k]? → ∀ (o : Nat) (a : Value), (W.setCell ⟨p, o, none⟩ a).heap[k]? = w.heap[k]? := fun W hW o a => (heap_set1 W p o a k h).trans hW
  have key2 : ∀ (W : World), W.heap[k]? = w.heap[k]? → ∀ (o : Nat) (a : Value), (W.setCell ⟨q, o, none⟩ a).heap[k]? = w.heap[k]? := fun W hW o a => (heap_set1 W q o a k h2).trans hW
  exact (heap_drew _ k).trans (key2 _ (key2 _ (key _ (key _ (key _ (key _ (key _ (key _ (key _ (key _ (key _ rfl 0 a0) 1 a1) 2 a2) 3 a3) 4 a4) 5 a5) 6 a6) 7 a7) 8 a8) 0 e) 1 f)
theorem below_set11 {w w2 : World} (hb : Below w.heap.size w w2) (a0 a1 a2 a3 a4 a5 a6 a7 a8 e f : Value) : Below w.heap.size w (((((((((((w2.setCell ⟨w.heap.size, 0, none⟩ a0).setCell ⟨w.heap.size, 1, none⟩ a1).setCell ⟨w.heap.size, 2, none⟩ a2).setCell ⟨w.heap.size, 3, none⟩ a3).setCell ⟨w.heap.size, 4, none⟩ a4).setCell ⟨w.heap.size, 5, none⟩ a5).setCell ⟨w.heap.size, 6, none⟩ a6).setCell ⟨w.heap.size, 7, none⟩ a7).setCell ⟨w.heap.size, 8, none⟩ a8).setCell ⟨w.heap.size + 1, 0, none⟩ e).setCell ⟨w.heap.size + 1, 1, none⟩ f).drew := by
  have key : ∀ (W : World), Below w.heap.size w W → ∀ (o : Nat) (a : Value), Below w.heap.size w (W.setCell ⟨w.heap.size, o, none⟩ a) := fun W hW o a => hW.setCell (p := ⟨w.heap.size, o, none⟩) (Nat.le_refl _) a
  have key2 : ∀ (W : World), Below w.heap.size w W → ∀ (o : Nat) (a : Value), Below w.heap.size w (W.setCell ⟨w.heap.size + 1, o, none⟩ a) := fun W hW o a => hW.setCell (p := ⟨w.heap.size + 1, o, none⟩) (Nat.le_succ _) a
  exact (key2 _ (key2 _ (key _ (key _ (key _ (key _ (key _ (key _ (key _ (key _ (key _ hb 0 a0) 1 a1) 2 a2) 3 a3) 4 a4) 5 a5) 6 a6) 7 a7) 8 a8) 0 e) 1 f).drew
theorem BoxC.setOp {w : World} {p : Nat} {op : List UInt8} {x y : E} {sx sy : Value} (h : BoxC w p op x sx y sy) (op2 : List UInt8) : BoxC (w.setCell ⟨p, 0, none⟩ (.string ⟨op2.toArray⟩)) p op2 x sx y sy := by
  obtain ⟨c0, c1, c2, c3, c4, c5, c6, c7, c8, f0, f1, f2, f3, f4, f5, f6, f7, f8, hl⟩ := h
  exact ⟨by simp [go_sem, c0], by simp [go_sem, c1], by simp [go_sem, c2], by simp [go_sem, c3], by simp [go_sem, c4], by simp [go_sem, c5], by simp [go_sem, c6], by simp [go_sem, c7], by simp [go_sem, c8], by simp [go_sem, f0], by simp [go_sem, f1], by simp [go_sem, f2], by simp [go_sem, f3], by simp [go_sem, f4], by simp [go_sem, f5], by simp [go_sem, f6], by simp [go_sem, f7], by simp [go_sem, f8], by simp [World.setCell]; omega⟩
theorem BoxC.setB {w : World} {p : Nat} {op : List UInt8} {x y : E} {sx sy : Value} (h : BoxC w p op x sx y sy) (z : E) (sz : Value) : BoxC ((((w.setCell ⟨p, 5, none⟩ (.int .i64 z.kind)).setCell ⟨p, 6, none⟩ (.int .i64 z.n)).setCell ⟨p, 7, none⟩ (.string ⟨z.name.toArray⟩)).setCell ⟨p, 8, none⟩ sz) p op x sx z sz := by
  obtain ⟨c0, c1, c2, c3, c4, c5, c6, c7, c8, f0, f1, f2, f3, f4, f5, f6, f7, f8, hl⟩ := h
  exact ⟨by simp [go_sem, c0], by simp [go_sem, c1], by simp [go_sem, c2], by simp [go_sem, c3], by simp [go_sem, c4], by simp [go_sem, c5], by simp [go_sem, c6], by simp [go_sem, c7], by simp [go_sem, c8], by simp [go_sem, f0], by simp [go_sem, f1], by simp [go_sem, f2], by simp [go_sem, f3], by simp [go_sem, f4], by simp [go_sem, f5], by simp [go_sem, f6], by simp [go_sem, f7], by simp [go_sem, f8], by simp [World.setCell]; omega⟩
theorem heap_setB (w : World) (p : Nat) (a b c d : Value) (k : Nat) (h : k ≠ p) : ((((w.setCell ⟨p, 5, none⟩ a).setCell ⟨p, 6, none⟩ b).setCell ⟨p, 7, none⟩ c).setCell ⟨p, 8, none⟩ d).heap[k]? = w.heap[k]? := by
  have key : ∀ (W : World), W.heap[k]? = w.heap[k]? → ∀ (o : Nat) (a : Value), (W.setCell ⟨p, o, none⟩ a).heap[k]? = w.heap[k]? := fun W hW o a => (heap_set1 W p o a k h).trans hW
  exact key _ (key _ (key _ (key _ rfl 5 a) 6 b) 7 c) 8 d
def RefCondSpec : Prop := ∀ (T : List Words.T) (L : Value) (w : World), T.length ≤ 1000000 → Tks w L T → (∀ p, L.ownBlock = some p → p < w.heap.size) → Calls Tryz.prog 13 #[L] w fun e w' => ∃ c x y s sx sy g, RCond T c x y s ∧ e = .returned (.tuple #[condV c x sx y sy, .int .i64 (ansN s), g]) ∧ Forest w' (fun b => w.heap.size ≤ b) x.a sx ∧ Forest w' (fun b => w.heap.size ≤ b) y.a sy ∧ Told w.heap.size w' g wExpr s.bad s.err ∧ Below w.heap.size w w'
set_option maxHeartbeats 8000000 in
set_option maxRecDepth 100000 in
theorem refCond_any : RefCondSpec := by
  intro T L w hl hT hL
  obtain ⟨hb2, hb4, hR, hz, hB⟩ := startC_ok w L
  have HC := hide ((rdAll T L hl T.length).2.1 (startC w L) (fun b => w.heap.size + 3 ≤ b) (w.heap.size + 2) 0 s00 hR (hT.below hB) (fun p h => by have := hL p h; exact ⟨by omega, by omega⟩) (by omega) (fun b hb => by omega) (Nat.zero_le _) (by show T.length - 0 ≤ T.length; omega) (by omega))
  have HL := hide (And.intro hT hL)
  obtain ⟨ta, tc, hLs⟩ := hT.shape
  subst hLs
  have HB := hide (And.intro hb2 (And.intro hb4 (And.intro hz hB)))
  clear hb2 hb4 hR hz hB hT hL
  go_enter Tryz.func13, Tryz.ntmps13
  go_wp2_with fail
  refine (unhide HC).mono ?_
  rintro ev w1 ⟨x, s1, sl, rfl, hr1, hf1, hR1, hb1, hp1, hp2⟩
  obtain ⟨la, lc, hsl⟩ := hf1.shape
  generalize hln : x.a.length = ln at hsl
  subst hsl
  clear hln
  obtain ⟨hb2, hb4, hz, hB⟩ := unhide HB
  have hz1 := hb1.size
  have ba := alloc_below w1 (.cells #[.string ⟨#[]⟩, .int .i64 x.kind, .int .i64 x.n, .string ⟨x.name.toArray⟩, .slice la ln lc, .int .i64 0, .int .i64 0, .string ⟨#[]⟩, .slice none 0 0] CdT)
  have hx2 := (hb2.but hb1 (by omega)).keep (ba.block _ (by omega)) ba.size
  have hx4 := (hb4.keep (hb1.block _ hb4.lt (by intro e; injection e with e; omega)) hb1.size).keep (ba.block _ (by omega)) ba.size
  have hx6 : BoxC (w1.alloc (.cells #[.string ⟨#[]⟩, .int .i64 x.kind, .int .i64 x.n, .string ⟨x.name.toArray⟩, .slice la ln lc, .int .i64 0, .int .i64 0, .string ⟨#[]⟩, .slice none 0 0] CdT)) w1.heap.size [] x (.slice la ln lc) E.none (.slice none 0 0) := boxC_new w1 [] x (.slice la ln lc) E.none (.slice none 0 0) CdT
  have hfo : Forest (w1.alloc (.cells #[.string ⟨#[]⟩, .int .i64 x.kind, .int .i64 x.n, .string ⟨x.name.toArray⟩, .slice la ln lc, .int .i64 0, .int .i64 0, .string ⟨#[]⟩, .slice none 0 0] CdT)) (fun b => w.heap.size + 3 ≤ b ∧ b ≠ w1.heap.size) x.a (.slice la ln lc) := (hf1.mono (fun b hs hl => ⟨by omega, by omega⟩)).old ba
  have hRR : Rdr (w1.alloc (.cells #[.string ⟨#[]⟩, .int .i64 x.kind, .int .i64 x.n, .string ⟨x.name.toArray⟩, .slice la ln lc, .int .i64 0, .int .i64 0, .string ⟨#[]⟩, .slice none 0 0] CdT)) (fun b => w.heap.size + 3 ≤ b ∧ b ≠ w1.heap.size) wExpr (w.heap.size + 2) (.slice ta T.length tc) s1 := (hR1.mono (fun b hs hl => ⟨hs, by omega⟩)).below ba
  have hbb : Below w.heap.size w (w1.alloc (.cells #[.string ⟨#[]⟩, .int .i64 x.kind, .int .i64 x.n, .string ⟨x.name.toArray⟩, .slice la ln lc, .int .i64 0, .int .i64 0, .string ⟨#[]⟩, .slice none 0 0] CdT)) := (hB.trans (hb1.below (by omega) (by omega))).trans (ba.mono (by omega))
  have hq : w.heap.size + 3 ≤ w1.heap.size := by omega
  have hqz : w1.heap.size < (w1.alloc (.cells #[.string ⟨#[]⟩, .int .i64 x.kind, .int .i64 x.n, .string ⟨x.name.toArray⟩, .slice la ln lc, .int .i64 0, .int .i64 0, .string ⟨#[]⟩, .slice none 0 0] CdT)).heap.size := by simp
  have H1 := hide (And.intro hr1 (And.intro hfo (And.intro hRR (And.intro hbb (And.intro hx2 (And.intro hx4 (And.intro hx6 hqz)))))))
  clear hr1 hf1 hR1 hb1 hb2 hb4 hz hB ba hfo hbb HC HB hz1 hx2 hx4 hx6 hqz
  go_upto_region 3 with fail
  generalize hqq : w1.heap.size = q at *
  generalize w1.alloc (.cells #[.string ⟨#[]⟩, .int .i64 x.kind, .int .i64 x.n, .string ⟨x.name.toArray⟩, .slice la ln lc, .int .i64 0, .int .i64 0, .string ⟨#[]⟩, .slice none 0 0] CdT) = W1 at *
  clear hqq
  have g1 := hRR.pos
  have g3 := hRR.err
  clear hRR
  by_cases h0 : s1.err = 0
  · rw [h0] at g3
    have g3z : W1.cell? ⟨w.heap.size + 2, 3, none⟩ = some (.int .i64 0) := g3
    have H0 := hide h0
    have HFA := hide (rdFail_any (.slice ta T.length tc) W1 (fun b => w.heap.size + 3 ≤ b ∧ b ≠ q) (w.heap.size + 2) s1 s1.pos 2 (unhide H1).2.2.1 (by omega) (fun b hb => ⟨by have := (unhide H1).2.2.2.2.2.2.2; omega, by have := (unhide H1).2.2.2.2.2.2.2; omega⟩) (by decide))
    have hsp : s1.pos ≤ 1000000 := by omega
    clear g3 h0
    by_cases hlt : s1.pos < T.length
    · have q1 : decide (T.length ≤ s1.pos) = false := decide_eq_false (by omega)
      have hlt2 : (s1.pos : Int) < T.length := by omega
      rcases ((unhide HL).1.below (unhide H1).2.2.2.1) with ⟨_, _, _, hnil⟩ | ⟨tb, off, cap, hval, hcap, hcells⟩
      · exact absurd hlt (by rw [hnil]; simp)
      injection hval with hv1 hv2 hv3
      subst hv1
      obtain ⟨d0, d1, -, -⟩ := hcells s1.pos hlt
      have HRA : Hid (relAt T s1.pos = (decide (T[s1.pos].kind = 3) && isRel T[s1.pos].text)) := hide (by unfold relAt; rw [List.getElem?_eq_getElem hlt])
      have htx : ∃ tx, T[s1.pos].text = tx := ⟨_, rfl⟩
      obtain ⟨tx, htx⟩ := htx
      have HTX : Hid (∃ h : s1.pos < T.length, tx = T[s1.pos].text) := hide ⟨hlt, htx.symm⟩
      rw [htx] at d1 HRA
      clear hcells hv2 hv3 htx hcap
      have HRL := hide (fun W => refRel_any tx W)
      by_cases k4 : T[s1.pos].kind = 3
      · have HRB : Hid (relAt T s1.pos = isRel tx) := hide (by rw [unhide HRA, decide_eq_true k4]; rfl)
        rw [k4] at d0
        have d0' : W1.cell? ⟨tb, off + s1.pos * 4, none⟩ = some (.int .i64 3) := d0
        clear d0 k4 HRA
        cases hrl : isRel tx
        · rw [hrl] at HRL
          have HREL : Hid (relAt T s1.pos = false) := hide (by rw [unhide HRB, hrl])
          clear hrl HRB
          go_wp2_with (go_at_call 39; refine (unhide HRL _).mono ?_; rintro ev w1 ⟨rfl, hw⟩; have hw := hw.symm; subst hw)
          refine (unhide HFA).mono ?_
          rintro ev w5 ⟨rfl, hR5, hb5⟩
          have HNE : Hid (¬ (s1.fail s1.pos 2).err = 0) := hide (by unfold St.fail; rw [if_pos (unhide H0)]; exact (by decide : ¬ (2 : Nat) = 0))
          have HCD : Hid (RCond T [] E.none E.none (s1.fail s1.pos 2)) := hide ⟨x, s1, (unhide H1).1, .inr (.inl ⟨unhide H0, unhide HREL, rfl, rfl, rfl, rfl⟩)⟩
          have HXX := hide (And.intro ((unhide H1).2.2.2.2.1.but hb5 (by omega)) (And.intro ((unhide H1).2.2.2.2.2.1.keep (hb5.block _ (unhide H1).2.2.2.2.2.1.lt (by intro e; injection e with e; omega)) hb5.size) (And.intro hR5 ((unhide H1).2.2.2.1.trans (hb5.below (by omega) (unhide H1).2.2.2.1.size)))))
          have k2 : (((s1.fail s1.pos 2).err : Int) != 0) = true := by rw [bne_iff_ne]; have := unhide HNE; omega
          have k3 : ¬ ((s1.fail s1.pos 2).err : Int) = 0 := by have := unhide HNE; omega
          have g3' := hR5.err
          clear hR5 hb5 HFA
          generalize s1.fail s1.pos 2 = s5 at *
          obtain ⟨g2, g4, gr, gb⟩ := unhide HXX
          obtain ⟨m0, m1, m2, m3, m4, m5, m6, m7, m8, z0, z1, z2, z3, z4, z5, z6, z7, z8, -⟩ := g2
          obtain ⟨o0, o1, y0, y1, -⟩ := g4
          obtain ⟨-, -, ⟨bs, r2, hbad⟩, r3, -, -⟩ := gr
          have hbs : ∃ a n, bs = .slice a n n := by
            rcases hbad with ⟨_, rfl⟩ | ⟨_, bb, _, rfl, _⟩
            · exact ⟨_, _, rfl⟩
            · exact ⟨_, _, rfl⟩
          obtain ⟨ba1, bn, rfl⟩ := hbs
          have HBD := hide (And.intro hbad gb)
          clear hbad gb
          go_wp2_with fail
          go_region
          go_wp2
          refine bodyPost_ret (v := .tuple #[condV [] E.none (.slice none 0 0) E.none (.slice none 0 0), .int .i64 0, .agg #[.slice ba1 bn bn, .int .i64 s5.err]]) (by simp [results, Tryz.results13, go_sem, m0, m1, m2, m3, m4, m5, m6, m7, m8, o0, o1, E.none, E.kind, E.n, E.name]) rfl ⟨[], E.none, E.none, s5, .slice none 0 0, .slice none 0 0, .agg #[.slice ba1 bn bn, .int .i64 s5.err], unhide HCD, by rw [show ansN s5 = 0 from if_neg (unhide HNE)]; rfl, .nil none 0, .nil none 0, ?_, below_set11 (unhide HBD).2 _ _ _ _ _ _ _ _ _ _ _⟩
          exact ((unhide HBD).1.keep (S' := fun b => w.heap.size ≤ b) (fun b hs _ => heap_set11 _ _ _ _ _ _ _ _ _ _ _ _ _ _ b (by omega) (by omega)) (fun b hs _ => by omega)).told (fun b hs => hs)
        · rw [hrl] at HRL
          have HREL : Hid (relAt T s1.pos = true) := hide (by rw [unhide HRB, hrl])
          clear hrl HRB HFA
          obtain ⟨hr1, hfo, hRR, hbb, hx2, hx4, hx6, hqz⟩ := unhide H1
          have hrbq : w.heap.size + 2 ≠ q := by omega
          have hk0 : ∀ b, b ≠ q → (W1.setCell ⟨q, 0, none⟩ (.string ⟨tx.toArray⟩)).heap[b]? = W1.heap[b]? := fun b hb => heap_set1 _ _ _ _ _ hb
          have hz0 : (W1.setCell ⟨q, 0, none⟩ (.string ⟨tx.toArray⟩)).heap.size = W1.heap.size := by simp [World.setCell]
          have hR2 : Rdr (W1.setCell ⟨q, 0, none⟩ (.string ⟨tx.toArray⟩)) (fun b => w.heap.size + 3 ≤ b ∧ b ≠ q) wExpr (w.heap.size + 2) (.slice (some ⟨tb, off, none⟩) T.length tc) s1 := hRR.keep (hk0 _ hrbq) (by omega) (fun b hs _ => hk0 b hs.2) (fun _ h _ => h)
          have hR3 : Rdr ((W1.setCell ⟨q, 0, none⟩ (.string ⟨tx.toArray⟩)).setCell ⟨w.heap.size + 2, 1, none⟩ (.int .i64 ((s1.pos : Int) + 1))) (fun b => w.heap.size + 3 ≤ b ∧ b ≠ q) wExpr (w.heap.size + 2) (.slice (some ⟨tb, off, none⟩) T.length tc) s1.next := hR2.nextI (by omega)
          have hb23 : But (w.heap.size + 2) (W1.setCell ⟨q, 0, none⟩ (.string ⟨tx.toArray⟩)) ((W1.setCell ⟨q, 0, none⟩ (.string ⟨tx.toArray⟩)).setCell ⟨w.heap.size + 2, 1, none⟩ (.int .i64 ((s1.pos : Int) + 1))) := But.set (p := ⟨w.heap.size + 2, 1, none⟩) (but_refl _ _) (.inr rfl) _
          have hB2 : Below w.heap.size w (W1.setCell ⟨q, 0, none⟩ (.string ⟨tx.toArray⟩)) := hbb.setCell (p := ⟨q, 0, none⟩) (by show w.heap.size ≤ q; omega) _
          have hB3 : Below w.heap.size w ((W1.setCell ⟨q, 0, none⟩ (.string ⟨tx.toArray⟩)).setCell ⟨w.heap.size + 2, 1, none⟩ (.int .i64 ((s1.pos : Int) + 1))) := hB2.setCell (p := ⟨w.heap.size + 2, 1, none⟩) (by show w.heap.size ≤ w.heap.size + 2; omega) _
          have h23 := (hx2.keep (hk0 _ (by omega)) (by omega)).but hb23 (by omega)
          have h43 := (hx4.keep (hk0 _ (by omega)) (by omega)).keep (hb23.block _ (by have := hx4.lt; omega) (by intro e; injection e with e; omega)) hb23.size
          have h63 := (hx6.setOp tx).but hb23 (by omega)
          have hf3 : Forest ((W1.setCell ⟨q, 0, none⟩ (.string ⟨tx.toArray⟩)).setCell ⟨w.heap.size + 2, 1, none⟩ (.int .i64 ((s1.pos : Int) + 1))) (fun b => w.heap.size + 3 ≤ b ∧ b ≠ q) x.a (.slice la ln lc) := (hfo.keep (S' := (fun b => w.heap.size + 3 ≤ b ∧ b ≠ q)) (fun b hs _ => hk0 b hs.2) (fun _ h _ => h)).but hb23 (fun b hs => by omega)
          have hz3 : ((W1.setCell ⟨q, 0, none⟩ (.string ⟨tx.toArray⟩)).setCell ⟨w.heap.size + 2, 1, none⟩ (.int .i64 ((s1.pos : Int) + 1))).heap.size = W1.heap.size := by simp [World.setCell]
          have HC := hide ((rdAll T (.slice (some ⟨tb, off, none⟩) T.length tc) hl T.length).2.1 ((W1.setCell ⟨q, 0, none⟩ (.string ⟨tx.toArray⟩)).setCell ⟨w.heap.size + 2, 1, none⟩ (.int .i64 ((s1.pos : Int) + 1))) (fun b => w.heap.size + 3 ≤ b ∧ b ≠ q) (w.heap.size + 2) 0 s1.next hR3 ((unhide HL).1.below hB3) (fun p h => by have := (unhide HL).2 p h; exact ⟨by omega, by omega⟩) (by omega) (fun b hb => ⟨by omega, by omega⟩) (by show s1.pos + 1 ≤ T.length; omega) (by omega) (by omega))
          have zq := hx6.f0
          have zr := hRR.fr.2.1
          have H3 := hide (And.intro h23 (And.intro h43 (And.intro h63 (And.intro hf3 (And.intro hB3 hz3)))))
          clear hr1 hfo hRR hbb hx2 hx4 hx6 hk0 hz0 hR2 hR3 hb23 hB2 hB3 h23 h43 h63 hf3 hz3
          have zc := (unhide H1).2.2.2.2.2.2.1.c0
          have hg1 := (unhide H1).2.2.1.pos
          go_wp2_with (go_at_call 39; refine (unhide HRL _).mono ?_; rintro ev w1 ⟨rfl, hw⟩; have hw := hw.symm; subst hw)
          refine (unhide HC).mono ?_
          rintro ev w7 ⟨y, s3, sy, rfl, hr7, hf7, hR7, hb7, hp7, hp8⟩
          obtain ⟨ya, yc, hsl⟩ := hf7.shape
          generalize hln : y.a.length = yn at hsl
          subst hsl
          clear hln
          obtain ⟨h23, h43, h63, hf3, hB3, hz3⟩ := unhide H3
          have hz1 := (unhide H1).2.2.2.2.2.2.2
          have h27 := h23.but hb7 (by omega)
          have h47 := h43.keep (hb7.block _ h43.lt (by intro e; injection e with e; omega)) hb7.size
          have h67 := h63.but hb7 (by omega)
          have hf3' := hf3.but hb7 (fun b hs => by omega)
          have hB7 : Below w.heap.size w w7 := hB3.trans (hb7.below (by omega) hB3.size)
          have hk8 : ∀ b, b ≠ q → ((((w7.setCell ⟨q, 5, none⟩ (.int .i64 y.kind)).setCell ⟨q, 6, none⟩ (.int .i64 y.n)).setCell ⟨q, 7, none⟩ (.string ⟨y.name.toArray⟩)).setCell ⟨q, 8, none⟩ (.slice ya yn yc)).heap[b]? = w7.heap[b]? := fun b hb => heap_setB _ _ _ _ _ _ _ hb
          have hz8 : ((((w7.setCell ⟨q, 5, none⟩ (.int .i64 y.kind)).setCell ⟨q, 6, none⟩ (.int .i64 y.n)).setCell ⟨q, 7, none⟩ (.string ⟨y.name.toArray⟩)).setCell ⟨q, 8, none⟩ (.slice ya yn yc)).heap.size = w7.heap.size := by simp [World.setCell]
          have h68 := h67.setB y (.slice ya yn yc)
          have hB8 : Below w.heap.size w ((((w7.setCell ⟨q, 5, none⟩ (.int .i64 y.kind)).setCell ⟨q, 6, none⟩ (.int .i64 y.n)).setCell ⟨q, 7, none⟩ (.string ⟨y.name.toArray⟩)).setCell ⟨q, 8, none⟩ (.slice ya yn yc)) := by
            have key : ∀ (W : World), Below w.heap.size w W → ∀ (o : Nat) (a : Value), Below w.heap.size w (W.setCell ⟨q, o, none⟩ a) := fun W hW o a => hW.setCell (p := ⟨q, o, none⟩) (by show w.heap.size ≤ q; omega) a
            exact key _ (key _ (key _ (key _ hB7 5 _) 6 _) 7 _) 8 _
          have h28 := h27.keep (hk8 _ (by omega)) (by omega)
          have h48 := h47.keep (hk8 _ (by omega)) (by omega)
          have hR8 := hR7.keep (S' := (fun b => w.heap.size + 3 ≤ b ∧ b ≠ q)) (hk8 _ (by omega)) (by omega) (fun b hs _ => hk8 b hs.2) (fun _ h _ => h)
          have hfx8 := hf3'.keep (S' := fun b => w.heap.size + 3 ≤ b) (fun b hs _ => hk8 b hs.2) (fun _ h _ => h.1)
          have hfy8 := hf7.keep (S' := fun b => w.heap.size + 3 ≤ b) (fun b hs _ => hk8 b (by omega)) (fun b hs _ => by omega)
          have n0 := h67.f5
          have n1 := h67.f6
          have n2 := h67.f7
          have n3 := h67.f8
          have v0 := h67.c5
          have v1 := h67.c6
          have v2 := h67.c7
          have v3 := h67.c8
          have H8 := hide (And.intro hr7 (And.intro h28 (And.intro h48 (And.intro h68 (And.intro hR8 (And.intro hB8 (And.intro hfx8 hfy8)))))))
          have t1 := hR8.pos
          have t3 := hR8.err
          clear hr7 hf7 hR7 hb7 h23 h43 h63 hf3 hB3 hz3 h27 h47 h67 hf3' hB7 hk8 hz8 h68 hB8 h28 h48 hR8 hfx8 hfy8 HC H3 hz1
          go_upto_region 10 with fail
          generalize (((w7.setCell ⟨q, 5, none⟩ (.int .i64 y.kind)).setCell ⟨q, 6, none⟩ (.int .i64 y.n)).setCell ⟨q, 7, none⟩ (.string ⟨y.name.toArray⟩)).setCell ⟨q, 8, none⟩ (.slice ya yn yc) = W8 at *
          clear n0 n1 n2 n3 v0 v1 v2 v3
          by_cases h5 : s3.err = 0
          · rw [h5] at t3
            have t3z : W8.cell? ⟨w.heap.size + 2, 3, none⟩ = some (.int .i64 0) := t3
            have HNE := hide h5
            have HCD : Hid (RCond T tx x y s3) := hide ⟨x, s1, (unhide H1).1, .inr (.inr ⟨unhide H0, unhide HREL, y, s3, (unhide H8).1, .inr ⟨h5, rfl, unhide HTX, rfl, rfl⟩⟩)⟩
            obtain ⟨m0, m1, m2, m3, m4, m5, m6, m7, m8, z0, z1, z2, z3, z4, z5, z6, z7, z8, -⟩ := (unhide H8).2.1
            obtain ⟨o0, o1, y0, y1, -⟩ := (unhide H8).2.2.1
            obtain ⟨i0, i1, i2, i3, i4, i5, i6, i7, i8, -, -, -, -, -, -, -, -, -, -⟩ := (unhide H8).2.2.2.1
            clear t3 h5
            go_wp2_with fail
            go_region
            go_wp2
            refine bodyPost_ret (v := .tuple #[condV tx x (.slice la ln lc) y (.slice ya yn yc), .int .i64 s3.pos, .agg #[.slice none 0 0, .int .i64 0]]) (by simp [results, Tryz.results13, go_sem, m0, m1, m2, m3, m4, m5, m6, m7, m8, o0, o1]) rfl ⟨tx, x, y, s3, .slice la ln lc, .slice ya yn yc, .agg #[.slice none 0 0, .int .i64 0], unhide HCD, by rw [show ansN s3 = s3.pos from if_pos (unhide HNE)], ?_, ?_, .inl ⟨unhide HNE, rfl⟩, below_set11 (unhide H8).2.2.2.2.2.1 _ _ _ _ _ _ _ _ _ _ _⟩
            · exact (unhide H8).2.2.2.2.2.2.1.keep (fun b hs _ => heap_set11 _ _ _ _ _ _ _ _ _ _ _ _ _ _ b (by omega) (by omega)) (fun b hs _ => by omega)
            · exact (unhide H8).2.2.2.2.2.2.2.keep (fun b hs _ => heap_set11 _ _ _ _ _ _ _ _ _ _ _ _ _ _ b (by omega) (by omega)) (fun b hs _ => by omega)
          · have k2 : ((s3.err : Int) != 0) = true := by rw [bne_iff_ne]; omega
            have k3 : ¬ (s3.err : Int) = 0 := by omega
            have HNE : Hid (¬ s3.err = 0) := hide h5
            have HCD : Hid (RCond T [] E.none E.none s3) := hide ⟨x, s1, (unhide H1).1, .inr (.inr ⟨unhide H0, unhide HREL, y, s3, (unhide H8).1, .inl ⟨h5, rfl, rfl, rfl, rfl⟩⟩)⟩
            have HXX := hide (And.intro (unhide H8).2.1 (And.intro (unhide H8).2.2.1 (And.intro (unhide H8).2.2.2.2.1 (unhide H8).2.2.2.2.2.1)))
            clear h5
            obtain ⟨g2, g4, gr, gb⟩ := unhide HXX
            obtain ⟨m0, m1, m2, m3, m4, m5, m6, m7, m8, z0, z1, z2, z3, z4, z5, z6, z7, z8, -⟩ := g2
            obtain ⟨o0, o1, y0, y1, -⟩ := g4
            obtain ⟨-, -, ⟨bs, r2, hbad⟩, r3, -, -⟩ := gr
            have hbs : ∃ a n, bs = .slice a n n := by
              rcases hbad with ⟨_, rfl⟩ | ⟨_, bb, _, rfl, _⟩
              · exact ⟨_, _, rfl⟩
              · exact ⟨_, _, rfl⟩
            obtain ⟨ba1, bn, rfl⟩ := hbs
            have HBD := hide (And.intro hbad gb)
            clear hbad gb
            go_wp2_with fail
            go_region
            go_wp2
            refine bodyPost_ret (v := .tuple #[condV [] E.none (.slice none 0 0) E.none (.slice none 0 0), .int .i64 0, .agg #[.slice ba1 bn bn, .int .i64 s3.err]]) (by simp [results, Tryz.results13, go_sem, m0, m1, m2, m3, m4, m5, m6, m7, m8, o0, o1, E.none, E.kind, E.n, E.name]) rfl ⟨[], E.none, E.none, s3, .slice none 0 0, .slice none 0 0, .agg #[.slice ba1 bn bn, .int .i64 s3.err], unhide HCD, by rw [show ansN s3 = 0 from if_neg (unhide HNE)]; rfl, .nil none 0, .nil none 0, ?_, below_set11 (unhide HBD).2 _ _ _ _ _ _ _ _ _ _ _⟩
            exact ((unhide HBD).1.keep (S' := fun b => w.heap.size ≤ b) (fun b hs _ => heap_set11 _ _ _ _ _ _ _ _ _ _ _ _ _ _ b (by omega) (by omega)) (fun b hs _ => by omega)).told (fun b hs => hs)
      · have HREL : Hid (relAt T s1.pos = false) := hide (by rw [unhide HRA, decide_eq_false k4]; rfl)
        have e1 : ((T[s1.pos].kind : Int) != 3) = true := by rw [bne_iff_ne]; omega
        have e2 : ¬ (T[s1.pos].kind : Int) = 3 := by omega
        generalize T[s1.pos].kind = tk at *
        clear k4 HRA
        go_wp2_with fail
        refine (unhide HFA).mono ?_
        rintro ev w5 ⟨rfl, hR5, hb5⟩
        have HNE : Hid (¬ (s1.fail s1.pos 2).err = 0) := hide (by unfold St.fail; rw [if_pos (unhide H0)]; exact (by decide : ¬ (2 : Nat) = 0))
        have HCD : Hid (RCond T [] E.none E.none (s1.fail s1.pos 2)) := hide ⟨x, s1, (unhide H1).1, .inr (.inl ⟨unhide H0, unhide HREL, rfl, rfl, rfl, rfl⟩)⟩
        have HXX := hide (And.intro ((unhide H1).2.2.2.2.1.but hb5 (by omega)) (And.intro ((unhide H1).2.2.2.2.2.1.keep (hb5.block _ (unhide H1).2.2.2.2.2.1.lt (by intro e; injection e with e; omega)) hb5.size) (And.intro hR5 ((unhide H1).2.2.2.1.trans (hb5.below (by omega) (unhide H1).2.2.2.1.size)))))
        have k2 : (((s1.fail s1.pos 2).err : Int) != 0) = true := by rw [bne_iff_ne]; have := unhide HNE; omega
        have k3 : ¬ ((s1.fail s1.pos 2).err : Int) = 0 := by have := unhide HNE; omega
        have g3' := hR5.err
        clear hR5 hb5 HFA
        generalize s1.fail s1.pos 2 = s5 at *
        obtain ⟨g2, g4, gr, gb⟩ := unhide HXX
        obtain ⟨m0, m1, m2, m3, m4, m5, m6, m7, m8, z0, z1, z2, z3, z4, z5, z6, z7, z8, -⟩ := g2
        obtain ⟨o0, o1, y0, y1, -⟩ := g4
        obtain ⟨-, -, ⟨bs, r2, hbad⟩, r3, -, -⟩ := gr
        have hbs : ∃ a n, bs = .slice a n n := by
          rcases hbad with ⟨_, rfl⟩ | ⟨_, bb, _, rfl, _⟩
          · exact ⟨_, _, rfl⟩
          · exact ⟨_, _, rfl⟩
        obtain ⟨ba1, bn, rfl⟩ := hbs
        have HBD := hide (And.intro hbad gb)
        clear hbad gb
        go_wp2_with fail
        go_region
        go_wp2
        refine bodyPost_ret (v := .tuple #[condV [] E.none (.slice none 0 0) E.none (.slice none 0 0), .int .i64 0, .agg #[.slice ba1 bn bn, .int .i64 s5.err]]) (by simp [results, Tryz.results13, go_sem, m0, m1, m2, m3, m4, m5, m6, m7, m8, o0, o1, E.none, E.kind, E.n, E.name]) rfl ⟨[], E.none, E.none, s5, .slice none 0 0, .slice none 0 0, .agg #[.slice ba1 bn bn, .int .i64 s5.err], unhide HCD, by rw [show ansN s5 = 0 from if_neg (unhide HNE)]; rfl, .nil none 0, .nil none 0, ?_, below_set11 (unhide HBD).2 _ _ _ _ _ _ _ _ _ _ _⟩
        exact ((unhide HBD).1.keep (S' := fun b => w.heap.size ≤ b) (fun b hs _ => heap_set11 _ _ _ _ _ _ _ _ _ _ _ _ _ _ b (by omega) (by omega)) (fun b hs _ => by omega)).told (fun b hs => hs)
    · have q1 : decide (T.length ≤ s1.pos) = true := decide_eq_true (by omega)
      have HREL : Hid (relAt T s1.pos = false) := hide (by unfold relAt; rw [List.getElem?_eq_none (by omega)])
      go_wp2_with fail
      refine (unhide HFA).mono ?_
      rintro ev w5 ⟨rfl, hR5, hb5⟩
      have HNE : Hid (¬ (s1.fail s1.pos 2).err = 0) := hide (by unfold St.fail; rw [if_pos (unhide H0)]; exact (by decide : ¬ (2 : Nat) = 0))
      have HCD : Hid (RCond T [] E.none E.none (s1.fail s1.pos 2)) := hide ⟨x, s1, (unhide H1).1, .inr (.inl ⟨unhide H0, unhide HREL, rfl, rfl, rfl, rfl⟩)⟩
      have HXX := hide (And.intro ((unhide H1).2.2.2.2.1.but hb5 (by omega)) (And.intro ((unhide H1).2.2.2.2.2.1.keep (hb5.block _ (unhide H1).2.2.2.2.2.1.lt (by intro e; injection e with e; omega)) hb5.size) (And.intro hR5 ((unhide H1).2.2.2.1.trans (hb5.below (by omega) (unhide H1).2.2.2.1.size)))))
      have k2 : (((s1.fail s1.pos 2).err : Int) != 0) = true := by rw [bne_iff_ne]; have := unhide HNE; omega
      have k3 : ¬ ((s1.fail s1.pos 2).err : Int) = 0 := by have := unhide HNE; omega
      have g3' := hR5.err
      clear hR5 hb5 HFA
      generalize s1.fail s1.pos 2 = s5 at *
      obtain ⟨g2, g4, gr, gb⟩ := unhide HXX
      obtain ⟨m0, m1, m2, m3, m4, m5, m6, m7, m8, z0, z1, z2, z3, z4, z5, z6, z7, z8, -⟩ := g2
      obtain ⟨o0, o1, y0, y1, -⟩ := g4
      obtain ⟨-, -, ⟨bs, r2, hbad⟩, r3, -, -⟩ := gr
      have hbs : ∃ a n, bs = .slice a n n := by
        rcases hbad with ⟨_, rfl⟩ | ⟨_, bb, _, rfl, _⟩
        · exact ⟨_, _, rfl⟩
        · exact ⟨_, _, rfl⟩
      obtain ⟨ba1, bn, rfl⟩ := hbs
      have HBD := hide (And.intro hbad gb)
      clear hbad gb
      go_wp2_with fail
      go_region
      go_wp2
      refine bodyPost_ret (v := .tuple #[condV [] E.none (.slice none 0 0) E.none (.slice none 0 0), .int .i64 0, .agg #[.slice ba1 bn bn, .int .i64 s5.err]]) (by simp [results, Tryz.results13, go_sem, m0, m1, m2, m3, m4, m5, m6, m7, m8, o0, o1, E.none, E.kind, E.n, E.name]) rfl ⟨[], E.none, E.none, s5, .slice none 0 0, .slice none 0 0, .agg #[.slice ba1 bn bn, .int .i64 s5.err], unhide HCD, by rw [show ansN s5 = 0 from if_neg (unhide HNE)]; rfl, .nil none 0, .nil none 0, ?_, below_set11 (unhide HBD).2 _ _ _ _ _ _ _ _ _ _ _⟩
      exact ((unhide HBD).1.keep (S' := fun b => w.heap.size ≤ b) (fun b hs _ => heap_set11 _ _ _ _ _ _ _ _ _ _ _ _ _ _ b (by omega) (by omega)) (fun b hs _ => by omega)).told (fun b hs => hs)
  · have k1 : ((s1.err : Int) == 0) = false := by rw [beq_eq_false_iff_ne]; omega
    have k2 : ((s1.err : Int) != 0) = true := by rw [bne_iff_ne]; omega
    have k3 : ¬ (s1.err : Int) = 0 := by omega
    have HNE : Hid (¬ s1.err = 0) := hide h0
    have HXX := hide (And.intro (unhide H1).2.2.2.2.1 (And.intro (unhide H1).2.2.2.2.2.1 (And.intro (unhide H1).2.2.1 (unhide H1).2.2.2.1)))
    clear h0
    obtain ⟨g2, g4, gr, gb⟩ := unhide HXX
    obtain ⟨m0, m1, m2, m3, m4, m5, m6, m7, m8, z0, z1, z2, z3, z4, z5, z6, z7, z8, -⟩ := g2
    obtain ⟨o0, o1, y0, y1, -⟩ := g4
    obtain ⟨-, -, ⟨bs, r2, hbad⟩, r3, -, -⟩ := gr
    have hbs : ∃ a n, bs = .slice a n n := by
      rcases hbad with ⟨_, rfl⟩ | ⟨_, bb, _, rfl, _⟩
      · exact ⟨_, _, rfl⟩
      · exact ⟨_, _, rfl⟩
    obtain ⟨ba1, bn, rfl⟩ := hbs
    have HBD := hide (And.intro hbad gb)
    clear hbad gb
    go_wp2_with fail
    go_region
    go_wp2
    refine bodyPost_ret (v := .tuple #[condV [] E.none (.slice none 0 0) E.none (.slice none 0 0), .int .i64 0, .agg #[.slice ba1 bn bn, .int .i64 s1.err]]) (by simp [results, Tryz.results13, go_sem, m0, m1, m2, m3, m4, m5, m6, m7, m8, o0, o1, E.none, E.kind, E.n, E.name]) rfl ⟨[], E.none, E.none, s1, .slice none 0 0, .slice none 0 0, .agg #[.slice ba1 bn bn, .int .i64 s1.err], ⟨x, s1, (unhide H1).1, .inl ⟨unhide HNE, rfl, rfl, rfl, rfl⟩⟩, by rw [show ansN s1 = 0 from if_neg (unhide HNE)]; rfl, .nil none 0, .nil none 0, ?_, below_set11 (unhide HBD).2 _ _ _ _ _ _ _ _ _ _ _⟩
    exact ((unhide HBD).1.keep (S' := fun b => w.heap.size ≤ b) (fun b hs _ => heap_set11 _ _ _ _ _ _ _ _ _ _ _ _ _ _ b (by omega) (by omega)) (fun b hs _ => by omega)).told (fun b hs => hs)
end Go.Proofs.YtbpmfkikhackfaaGreatDoor.Line
