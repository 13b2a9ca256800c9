/- Trees in memory (Forest), a reader's block (Rdr); what keeps them.
   A row of trees of a call's own (OwnF); one more tree behind it. -/
import Derived.Test.YtepnafnljfjeoaaGreatDoorBaseAll
import Derived.Test.YtepnafnljfjeoaaGreatDoorTokA
import Derived.Test.YtepnafnljfjeoaaGreatDoorPlainAll
import Derived.Maps.AppendAt
namespace Go.Proofs.YtepnafnljfjeoaaGreatDoor.Line
open Go.ChangeShapes Go.WideShapes Go.ChangeAt Go.RowKit
open Ex (E St)
set_option linter.unusedVariables false

abbrev wExpr : List UInt8 := [101, 120, 112, 114]
/-- but for one block, and new ones, nothing has turned -/
abbrev But (rb : Nat) (w w' : World) : Prop := w.grownBy w' (some rb)
theorem but_refl (rb : Nat) (w : World) : But rb w w := World.grownBy.refl _ _
theorem But.trans {rb : Nat} {a b c : World} (h : But rb a b) (k : But rb b c) : But rb a c := ⟨k.os.trans h.os, k.tape.trans h.tape, k.output.trans h.output, Nat.le_trans h.size k.size, fun i hi hne => (k.block i (Nat.lt_of_lt_of_le hi h.size) hne).trans (h.block i hi hne)⟩
theorem but_below {rb : Nat} {w w' : World} (h : Below w.heap.size w w') : But rb w w' := ⟨h.os, h.tape, h.output, h.size, fun k hk _ => h.block k hk⟩
theorem But.alloc {rb : Nat} {a w : World} (h : But rb a w) (o : Obj) : But rb a (w.alloc o) := h.trans (World.grownBy_alloc _ _ _)
theorem But.set {rb : Nat} {a w : World} (h : But rb a w) {p : Addr} (hp : a.heap.size ≤ p.block ∨ p.block = rb) (u : Value) : But rb a (w.setCell p u) :=
  ⟨h.os, h.tape, h.output, by simp [World.setCell]; exact h.size, fun i hi hne => by
    rw [Below.heap_setCell _ _ _ _ (by
      rcases hp with hp | hp
      · omega
      · intro e; exact hne (by rw [e, hp]))]
    exact h.block i hi hne⟩
theorem But.drewN {rb : Nat} {a w : World} (h : But rb a w) (n : Nat) : But rb a (w.drewN n) := h.trans (but_below (below_drewN (Below.refl _ _) n))
theorem But.below {rb B : Nat} {a w : World} (h : But rb a w) (hB : B ≤ rb) (hs : B ≤ a.heap.size) : Below B a w := ⟨h.os, h.tape, h.output, h.size, fun k hk => h.block k (by omega) (fun e => by injection e with e; omega)⟩
theorem But.cell {rb : Nat} {w w' : World} (h : But rb w w') {p : Addr} (hp : p.block < w.heap.size) (hne : p.block ≠ rb) : w'.cell? p = w.cell? p := World.cell?_of_block (h.block _ hp (fun e => hne (by injection e)))
theorem But.frozen {rb : Nat} {w w' : World} (h : But rb w w') {p : Addr} (hp : p.block < w.heap.size) (hne : p.block ≠ rb) : w'.frozen? p = w.frozen? p := World.frozen?_of_block (h.block _ hp (fun e => hne (by injection e)))

/-- trees in memory, in blocks of S alone -/
inductive Forest (w : World) (S : Nat → Prop) : List E → Value → Prop
  | nil (a : Option Addr) (cap : Nat) : Forest w S [] (.slice a 0 cap)
  | row (l : List E) (b off cap : Nat) (sl : Nat → Value) (hS : S b) (hcap : l.length ≤ cap) (hmax : cap ≤ maxLen)
      (hc : ∀ i (h : i < l.length), w.cell? ⟨b, off + i * 4, none⟩ = some (.int .i64 l[i].kind) ∧ w.cell? ⟨b, off + i * 4 + 1, none⟩ = some (.int .i64 l[i].n) ∧ w.cell? ⟨b, off + i * 4 + 2, none⟩ = some (.string ⟨l[i].name.toArray⟩) ∧ w.cell? ⟨b, off + i * 4 + 3, none⟩ = some (sl i))
      (hf : ∀ i (h : i < l.length), Forest w S l[i].a (sl i)) : Forest w S l (.slice (some ⟨b, off, none⟩) l.length cap)
theorem Forest.keep {w w' : World} {S S' : Nat → Prop} {l : List E} {v : Value} (h : Forest w S l v) (hk : ∀ b, S b → b < w.heap.size → w'.heap[b]? = w.heap[b]?) (hs : ∀ b, S b → b < w.heap.size → S' b) : Forest w' S' l v := by
  induction h with
  | nil a cap => exact .nil a cap
  | row l b off cap sl hS hcap hmax hc hf ih =>
    by_cases h0 : l.length = 0
    · obtain rfl : l = [] := List.length_eq_zero_iff.1 h0
      exact .nil _ _
    · have hlt : b < w.heap.size := cell_lt (hc 0 (by omega)).1
      have hb := hk b hS hlt
      have hcell : ∀ o, w'.cell? ⟨b, o, none⟩ = w.cell? ⟨b, o, none⟩ := fun o => World.cell?_of_block (a := ⟨b, o, none⟩) hb
      refine .row l b off cap sl (hs b hS hlt) hcap hmax (fun i hi => ?_) ih
      obtain ⟨h1, h2, h3, h4⟩ := hc i hi
      exact ⟨(hcell _).trans h1, (hcell _).trans h2, (hcell _).trans h3, (hcell _).trans h4⟩
theorem Forest.shape {w : World} {S : Nat → Prop} {l : List E} {v : Value} (h : Forest w S l v) : ∃ a cap, v = .slice a l.length cap := by
  cases h with
  | nil a cap => exact ⟨a, cap, rfl⟩
  | row _ b off cap sl hS hcap hmax hc hf => exact ⟨_, _, rfl⟩
/-- a tree's parts, one by one -/
theorem Forest.at {w : World} {S : Nat → Prop} {l : List E} {v : Value} (h : Forest w S l v) (hl : 0 < l.length) : ∃ (b off cap : Nat) (sl : Nat → Value), v = .slice (some ⟨b, off, none⟩) l.length cap ∧ l.length ≤ cap ∧ cap ≤ maxLen ∧ (∀ i (h : i < l.length), w.cell? ⟨b, off + i * 4, none⟩ = some (.int .i64 l[i].kind) ∧ w.cell? ⟨b, off + i * 4 + 1, none⟩ = some (.int .i64 l[i].n) ∧ w.cell? ⟨b, off + i * 4 + 2, none⟩ = some (.string ⟨l[i].name.toArray⟩) ∧ w.cell? ⟨b, off + i * 4 + 3, none⟩ = some (sl i)) ∧ (∀ i (h : i < l.length), Forest w S l[i].a (sl i)) := by
  cases h with
  | nil a cap => simp at hl
  | row _ b off cap sl hS hcap hmax hc hf => exact ⟨b, off, cap, sl, rfl, hcap, hmax, hc, hf⟩
theorem Forest.len {w : World} {S : Nat → Prop} {l : List E} {v : Value} (h : Forest w S l v) : l.length ≤ 9223372036854775807 := by
  cases h with
  | nil a cap => simp
  | row _ b off cap sl hS hcap hmax hc hf => unfold maxLen at hmax; omega
theorem Forest.old {w w' : World} {S : Nat → Prop} {l : List E} {v : Value} (h : Forest w S l v) (hb : Below w.heap.size w w') : Forest w' S l v := h.keep (fun b _ hl => hb.block b hl) (fun _ h _ => h)
theorem Forest.but {w w' : World} {S : Nat → Prop} {l : List E} {v : Value} {rb : Nat} (h : Forest w S l v) (hb : But rb w w') (hS : ∀ b, S b → b ≠ rb) : Forest w' S l v := h.keep (fun b hs hl => hb.block b hl (fun e => hS b hs (by injection e))) (fun _ h _ => h)
theorem Forest.mono {w : World} {S S' : Nat → Prop} {l : List E} {v : Value} (h : Forest w S l v) (hs : ∀ b, S b → b < w.heap.size → S' b) : Forest w S' l v := h.keep (fun _ _ _ => rfl) hs
theorem Forest.set {w : World} {S : Nat → Prop} {l : List E} {v : Value} (h : Forest w S l v) (p : Addr) (hS : ¬ S p.block) (u : Value) : Forest (w.setCell p u) S l v := h.keep (fun b hs _ => Below.heap_setCell _ _ _ _ (fun e => hS (e ▸ hs))) (fun _ h _ => h)
/-- a tree as a value: its parts lie in memory -/
abbrev treeV (x : E) (sl : Value) : Value := .agg #[.int .i64 x.kind, .int .i64 x.n, .string ⟨x.name.toArray⟩, sl]
/-- two trees in a new block -/
theorem forest_two {w : World} {S : Nat → Prop} {x y : E} {sx sy : Value} {t : TypeId} (hx : Forest w S x.a sx) (hy : Forest w S y.a sy) (hS : S w.heap.size) :
    Forest (w.alloc (.cells #[.int .i64 x.kind, .int .i64 x.n, .string ⟨x.name.toArray⟩, sx, .int .i64 y.kind, .int .i64 y.n, .string ⟨y.name.toArray⟩, sy] t)) S [x, y] (.slice (some ⟨w.heap.size, 0, none⟩) 2 2) := by
  refine .row [x, y] w.heap.size 0 2 (fun i => if i = 0 then sx else sy) hS (by simp) (by decide) (fun i hi => ?_) (fun i hi => ?_)
  · match i, hi with
    | 0, _ => refine ⟨?_, ?_, ?_, ?_⟩ <;> simp
    | 1, _ => refine ⟨?_, ?_, ?_, ?_⟩ <;> simp
  · match i, hi with
    | 0, _ => exact hx.old (alloc_below _ _)
    | 1, _ => exact hy.old (alloc_below _ _)
theorem forest_one {w : World} {S : Nat → Prop} {x : E} {sx : Value} {t : TypeId} (hx : Forest w S x.a sx) (hS : S w.heap.size) :
    Forest (w.alloc (.cells #[.int .i64 x.kind, .int .i64 x.n, .string ⟨x.name.toArray⟩, sx] t)) S [x] (.slice (some ⟨w.heap.size, 0, none⟩) 1 1) := by
  refine .row [x] w.heap.size 0 1 (fun i => sx) hS (by simp) (by decide) (fun i hi => ?_) (fun i hi => ?_)
  · match i, hi with
    | 0, _ => refine ⟨?_, ?_, ?_, ?_⟩ <;> simp
  · match i, hi with
    | 0, _ => exact hx.old (alloc_below _ _)

/-- the reader's error, in memory -/
def Bad (w : World) (S : Nat → Prop) (word : List UInt8) (sl : Value) (s : St) : Prop :=
  (s.err = 0 ∧ sl = .slice none 0 0) ∨ (s.err ≠ 0 ∧ ∃ bb, S bb ∧ sl = .slice (some ⟨bb, 0, none⟩) 1 1 ∧ w.cell? ⟨bb, 0, none⟩ = some (.string ⟨word.toArray⟩) ∧ w.cell? ⟨bb, 1, none⟩ = some (.int .i64 s.bad))
theorem Bad.keep {w w' : World} {S S' : Nat → Prop} {word : List UInt8} {sl : Value} {s : St} (h : Bad w S word sl s) (hk : ∀ b, S b → b < w.heap.size → w'.heap[b]? = w.heap[b]?) (hs : ∀ b, S b → b < w.heap.size → S' b) : Bad w' S' word sl s := by
  rcases h with h | ⟨h0, bb, hS, rfl, h1, h2⟩
  · exact .inl h
  · have hl := cell_lt h1
    have hb := hk bb hS hl
    exact .inr ⟨h0, bb, hs bb hS hl, rfl, (World.cell?_of_block (a := ⟨bb, 0, none⟩) hb).trans h1, (World.cell?_of_block (a := ⟨bb, 1, none⟩) hb).trans h2⟩
/-- a reader: its words, where it is, its error -/
structure Rdr (w : World) (S : Nat → Prop) (word : List UInt8) (rb : Nat) (L : Value) (s : St) : Prop where
  words : w.cell? ⟨rb, 0, none⟩ = some L
  pos : w.cell? ⟨rb, 1, none⟩ = some (.int .i64 s.pos)
  bad : ∃ sl, w.cell? ⟨rb, 2, none⟩ = some sl ∧ Bad w S word sl s
  err : w.cell? ⟨rb, 3, none⟩ = some (.int .i64 s.err)
  fr : w.frozen? ⟨rb, 0, none⟩ = false ∧ w.frozen? ⟨rb, 1, none⟩ = false ∧ w.frozen? ⟨rb, 2, none⟩ = false ∧ w.frozen? ⟨rb, 3, none⟩ = false
  lt : rb < w.heap.size
theorem Rdr.keep {w w' : World} {S S' : Nat → Prop} {word : List UInt8} {rb : Nat} {L : Value} {s : St} (h : Rdr w S word rb L s) (hr : w'.heap[rb]? = w.heap[rb]?) (hsz : w.heap.size ≤ w'.heap.size) (hk : ∀ b, S b → b < w.heap.size → w'.heap[b]? = w.heap[b]?) (hs : ∀ b, S b → b < w.heap.size → S' b) : Rdr w' S' word rb L s := by
  have hc : ∀ o, w'.cell? ⟨rb, o, none⟩ = w.cell? ⟨rb, o, none⟩ := fun o => World.cell?_of_block (a := ⟨rb, o, none⟩) hr
  have hf : ∀ o, w'.frozen? ⟨rb, o, none⟩ = w.frozen? ⟨rb, o, none⟩ := fun o => World.frozen?_of_block (a := ⟨rb, o, none⟩) hr
  obtain ⟨h1, h2, ⟨sl, h3, h4⟩, h5, ⟨f0, f1, f2, f3⟩, h7⟩ := h
  exact ⟨(hc 0).trans h1, (hc 1).trans h2, ⟨sl, (hc 2).trans h3, h4.keep hk hs⟩, (hc 3).trans h5, ⟨(hf 0).trans f0, (hf 1).trans f1, (hf 2).trans f2, (hf 3).trans f3⟩, by omega⟩
theorem Rdr.below {w w' : World} {S : Nat → Prop} {word : List UInt8} {rb : Nat} {L : Value} {s : St} (h : Rdr w S word rb L s) (hb : Below w.heap.size w w') : Rdr w' S word rb L s := h.keep (hb.block _ h.lt) hb.size (fun b _ hl => hb.block b hl) (fun _ h _ => h)
theorem Rdr.drewN {w : World} {S : Nat → Prop} {word : List UInt8} {rb : Nat} {L : Value} {s : St} (h : Rdr w S word rb L s) (n : Nat) : Rdr (w.drewN n) S word rb L s := h.below (below_drewN (Below.refl _ _) n)
theorem Rdr.set {w : World} {S : Nat → Prop} {word : List UInt8} {rb : Nat} {L : Value} {s : St} (h : Rdr w S word rb L s) (p : Addr) (hp : p.block ≠ rb) (hS : ¬ S p.block) (u : Value) : Rdr (w.setCell p u) S word rb L s := h.keep (Below.heap_setCell _ _ _ _ (fun e => hp e.symm)) (by simp [World.setCell]) (fun b hs _ => Below.heap_setCell _ _ _ _ (fun e => hS (e ▸ hs))) (fun _ h _ => h)
theorem Rdr.mono {w : World} {S S' : Nat → Prop} {word : List UInt8} {rb : Nat} {L : Value} {s : St} (h : Rdr w S word rb L s) (hs : ∀ b, S b → b < w.heap.size → S' b) : Rdr w S' word rb L s := h.keep rfl (Nat.le_refl _) (fun _ _ _ => rfl) hs
/-- one place on -/
theorem Rdr.next {w : World} {S : Nat → Prop} {word : List UInt8} {rb : Nat} {L : Value} {s : St} (h : Rdr w S word rb L s) (hS : ¬ S rb) : Rdr (w.setCell ⟨rb, 1, none⟩ (.int .i64 ((s.pos + 1 : Nat) : Int))) S word rb L s.next := by
  obtain ⟨h1, h2, ⟨sl, h3, h4⟩, h5, ⟨f0, f1, f2, f3⟩, h7⟩ := h
  refine ⟨by simp [go_sem, h1], by simp [go_sem, h2, St.next], ⟨sl, by simp [go_sem, h3], ?_⟩, by simp [go_sem, h5, St.next], ⟨by simp [go_sem, f0], by simp [go_sem, f1], by simp [go_sem, f2], by simp [go_sem, f3]⟩, by simp [World.setCell]; omega⟩
  have := h4.keep (w' := w.setCell ⟨rb, 1, none⟩ (.int .i64 ((s.pos + 1 : Nat) : Int))) (S' := S) (fun b hs _ => Below.heap_setCell _ _ _ _ (fun e => hS (by have e : b = rb := e; subst e; exact hs))) (fun _ h _ => h)
  exact this
theorem Rdr.nextI {w : World} {S : Nat → Prop} {word : List UInt8} {rb : Nat} {L : Value} {s : St} (h : Rdr w S word rb L s) (hS : ¬ S rb) : Rdr (w.setCell ⟨rb, 1, none⟩ (.int .i64 ((s.pos : Int) + 1))) S word rb L s.next := by
  have e : ((s.pos + 1 : Nat) : Int) = (s.pos : Int) + 1 := by omega
  rw [← e]
  exact h.next hS
theorem cell_alloc_one (w : World) (a b c d : Value) (t : TypeId) {k : Nat} (hk : k = w.heap.size) : (w.alloc (.cells #[a, b, c, d] t)).cell? ⟨k, 1, none⟩ = some b := by subst hk; simp
/-- an error is laid down -/
theorem Rdr.fails {w : World} {S : Nat → Prop} {word : List UInt8} {rb : Nat} {L : Value} {s : St} (h : Rdr w S word rb L s) (hS : ¬ S rb) {b k er : Nat} (hb : S b) (he : er ≠ 0) (h0 : w.cell? ⟨b, 0, none⟩ = some (.string ⟨word.toArray⟩)) (h1 : w.cell? ⟨b, 1, none⟩ = some (.int .i64 k)) :
    Rdr ((w.setCell ⟨rb, 2, none⟩ (.slice (some ⟨b, 0, none⟩) 1 1)).setCell ⟨rb, 3, none⟩ (.int .i64 er)) S word rb L ⟨s.pos, er, k⟩ := by
  have hne : b ≠ rb := fun e => hS (e ▸ hb)
  obtain ⟨g1, g2, ⟨sl, g3, g4⟩, g5, ⟨f0, f1, f2, f3⟩, g7⟩ := h
  refine ⟨by simp [go_sem, g1], by simp [go_sem, g2], ⟨_, by simp [go_sem, g3], .inr ⟨he, b, hb, rfl, ?_, ?_⟩⟩, by simp [go_sem, g5], ⟨by simp [go_sem, f0], by simp [go_sem, f1], by simp [go_sem, f2], by simp [go_sem, f3]⟩, by simp [World.setCell]; omega⟩
  · rw [World.cell?_of_block (Below.heap_setCell _ _ _ _ (show b ≠ rb from hne)), World.cell?_of_block (Below.heap_setCell _ _ _ _ (show b ≠ rb from hne))]; exact h0
  · rw [World.cell?_of_block (Below.heap_setCell _ _ _ _ (show b ≠ rb from hne)), World.cell?_of_block (Below.heap_setCell _ _ _ _ (show b ≠ rb from hne))]; exact h1
end Go.Proofs.YtepnafnljfjeoaaGreatDoor.Line

namespace Go.Proofs.YtepnafnljfjeoaaGreatDoor.Line
open Go.ChangeShapes Go.WideShapes Go.ChangeAt Go.RowKit
open Ex (E St)
set_option linter.unusedVariables false

def treeC (y : E × Value) : List Value := [.int .i64 y.1.kind, .int .i64 y.1.n, .string ⟨y.1.name.toArray⟩, y.2]
def flatF (l : List (E × Value)) : List Value := l.flatMap treeC
theorem flatF_length (l : List (E × Value)) : (flatF l).length = l.length * 4 := by
  induction l with
  | nil => rfl
  | cons t l ih => show (treeC t ++ flatF l).length = _; rw [List.length_append, ih, List.length_cons]; show 4 + l.length * 4 = _; omega
theorem flatF_snoc (l : List (E × Value)) (t : E × Value) : flatF (l ++ [t]) = flatF l ++ treeC t := by simp [flatF]
theorem flatF_at (l : List (E × Value)) : ∀ (i : Nat) (h : i < l.length), (flatF l)[i * 4]? = some (.int .i64 l[i].1.kind) ∧ (flatF l)[i * 4 + 1]? = some (.int .i64 l[i].1.n) ∧ (flatF l)[i * 4 + 2]? = some (.string ⟨l[i].1.name.toArray⟩) ∧ (flatF l)[i * 4 + 3]? = some l[i].2 := by
  induction l with
  | nil => intro i h; simp at h
  | cons t l ih =>
    intro i h
    have e : flatF (t :: l) = .int .i64 t.1.kind :: .int .i64 t.1.n :: .string ⟨t.1.name.toArray⟩ :: t.2 :: flatF l := rfl
    cases i with
    | zero => rw [e]; exact ⟨rfl, rfl, rfl, rfl⟩
    | succ i =>
      have := ih i (by simpa using h)
      rw [e]
      rw [show (i + 1) * 4 = i * 4 + 4 by omega, show i * 4 + 4 + 1 = (i * 4 + 1) + 4 by omega, show i * 4 + 4 + 2 = (i * 4 + 2) + 4 by omega, show i * 4 + 4 + 3 = (i * 4 + 3) + 4 by omega]
      simpa using this
/-- trees in a row of a call's own; their parts lie in blocks of S, none in the row itself -/
structure OwnF (t : TypeId) (base : Nat) (w : World) (S : Nat → Prop) (v : Value) (l : List (E × Value)) : Prop where
  row : w.ownsRow base t 4 v l.length (flatF l)
  parts : ∀ y ∈ l, Forest w (fun b => S b ∧ some b ≠ v.ownBlock) y.1.a y.2
theorem OwnF.nil (t : TypeId) (base : Nat) (w : World) (S : Nat → Prop) : OwnF t base w S (.slice none 0 0) [] := ⟨World.ownsRow_nil _ _ _ _, fun y hy => by cases hy⟩
theorem OwnF.shape {t : TypeId} {base : Nat} {w : World} {S : Nat → Prop} {v : Value} {l : List (E × Value)} (h : OwnF t base w S v l) : ∃ a cap, v = .slice a l.length cap := by
  rcases h.row.2 with ⟨rfl, h5⟩ | ⟨g, cap, cur, rfl, _⟩
  · exact ⟨none, 0, by rw [h5]⟩
  · exact ⟨_, _, rfl⟩
theorem OwnF.forest {t : TypeId} {base : Nat} {w : World} {S : Nat → Prop} {v : Value} {l : List (E × Value)} (h : OwnF t base w S v l) (hS : ∀ k, v.ownBlock = some k → S k) : Forest w S (l.map (·.1)) v := by
  have h2' := h.row
  rcases h.row.2 with ⟨rfl, h5⟩ | ⟨g, cap, cur, rfl, hg, hh, hc, hm, r⟩
  · rw [List.length_eq_zero_iff.1 h5]; exact .nil _ _
  · have hlen : (l.map (·.1)).length = l.length := List.length_map ..
    rw [← hlen]
    refine .row _ g 0 cap (fun i => (l[i]?.map (·.2)).getD .nilIface) (hS g rfl) (by rw [hlen]; exact hc) hm (fun i hi => ?_) (fun i hi => ?_)
    · rw [hlen] at hi
      obtain ⟨f0, f1, f2, f3⟩ := flatF_at l i hi
      have c0 := World.ownsRow.cellAt h2' (i * 4) (by omega)
      have c1 := World.ownsRow.cellAt h2' (i * 4 + 1) (by omega)
      have c2 := World.ownsRow.cellAt h2' (i * 4 + 2) (by omega)
      have c3 := World.ownsRow.cellAt h2' (i * 4 + 3) (by omega)
      simp only [Nat.zero_add, List.getElem_map, List.getElem?_eq_getElem hi, Option.map_some, Option.getD_some]
      exact ⟨c0.trans f0, c1.trans f1, c2.trans f2, c3.trans f3⟩
    · rw [hlen] at hi
      simp only [List.getElem_map, List.getElem?_eq_getElem hi, Option.map_some, Option.getD_some]
      exact (h.parts _ (List.getElem_mem hi)).mono (fun b hs _ => hs.1)
theorem OwnF.keep {t : TypeId} {base : Nat} {w w' : World} {S S' : Nat → Prop} {v : Value} {l : List (E × Value)} (h : OwnF t base w S v l) (hr : ∀ k, v.ownBlock = some k → w'.heap[k]? = w.heap[k]?) (hk : ∀ b, S b → b < w.heap.size → w'.heap[b]? = w.heap[b]?) (hs : ∀ b, S b → b < w.heap.size → S' b) : OwnF t base w' S' v l := by
  refine ⟨⟨h.row.1, ?_⟩, fun y hy => (h.parts y hy).keep (fun b hb hl => hk b hb.1 hl) (fun b hb hl => ⟨hs b hb.1 hl, hb.2⟩)⟩
  rcases h.row.2 with h2 | ⟨g, cap, cur, hv, hg, hh, r⟩
  · exact .inl h2
  · refine .inr ⟨g, cap, cur, hv, hg, ?_, r⟩
    rw [hr g (by rw [hv]; rfl)]
    exact hh
theorem OwnF.old {t : TypeId} {base : Nat} {w w' : World} {S : Nat → Prop} {v : Value} {l : List (E × Value)} (h : OwnF t base w S v l) (hb : Below w.heap.size w w') : OwnF t base w' S v l := h.keep (fun k hk => hb.block k (h.row.lt k hk).2) (fun b _ hl => hb.block b hl) (fun _ h _ => h)
theorem OwnF.but {t : TypeId} {base rb : Nat} {w w' : World} {S : Nat → Prop} {v : Value} {l : List (E × Value)} (h : OwnF t base w S v l) (hb : But rb w w') (hS : ∀ b, S b → b ≠ rb) (hv : v.ownBlock ≠ some rb) : OwnF t base w' S v l := h.keep (fun k hk => hb.block k (h.row.lt k hk).2 (fun e => hv (by rw [hk, ← e]))) (fun b hs hl => hb.block b hl (fun e => hS b hs (by injection e))) (fun _ h _ => h)
/-- one tree alone, in a new row -/
theorem ownF_one {t : TypeId} {base : Nat} {w : World} {S : Nat → Prop} {x : E} {sx : Value} (hx : Forest w S x.a sx) (hb : base ≤ w.heap.size) : OwnF t base (w.alloc (.cells #[.int .i64 x.kind, .int .i64 x.n, .string ⟨x.name.toArray⟩, sx] t)) S (.slice (some ⟨w.heap.size, 0, none⟩) 1 1) [(x, sx)] := by
  refine ⟨World.ownsRow_lit w #[.int .i64 x.kind, .int .i64 x.n, .string ⟨x.name.toArray⟩, sx] 1 hb (by decide) rfl, fun y hy => ?_⟩
  rw [List.mem_singleton.1 hy]
  exact (hx.mono (S' := fun b => S b ∧ some b ≠ Value.ownBlock (.slice (some ⟨w.heap.size, 0, none⟩) 1 1)) (fun b hs hl => ⟨hs, fun e => by simp [Value.ownBlock] at e; omega⟩)).old (alloc_below _ _)
/-- one tree more -/
theorem append_tree {t st : TypeId} (hinfo : (Tryz.prog.info? t).map (fun i => (i.zero, i.size, i.bytes)) = some (some (.agg #[.int .i64 0, .int .i64 0, .string ⟨#[]⟩, .slice none 0 0]), 4, 56)) (hund : Tryz.prog.underlying st = some (.slice t))
    {base : Nat} {w : World} {S : Nat → Prop} {v : Value} {l : List (E × Value)} (hs : OwnF t base w S v l) {x : E} {sx : Value} (hx : Forest w (fun b => S b ∧ some b ≠ v.ownBlock) x.a sx) (hb : base ≤ w.heap.size) (hl : l.length + 1 ≤ 1000000) :
    ∃ v' w', (Builtin.append_ #[st, st] st #[v, .slice (some ⟨w.heap.size, 0, none⟩) 1 1]).run Tryz.prog (w.alloc (.cells #[.int .i64 x.kind, .int .i64 x.n, .string ⟨x.name.toArray⟩, sx] t)) = .ok v' w' ∧ OwnF t base w' S v' (l ++ [(x, sx)]) ∧ (w.alloc (.cells #[.int .i64 x.kind, .int .i64 x.n, .string ⟨x.name.toArray⟩, sx] t)).grownBy w' v.ownBlock ∧ (v'.ownBlock = v.ownBlock ∨ v'.ownBlock = some (w.heap.size + 1)) := by
  obtain ⟨i0, hi, hz0, hz1, hz2⟩ := info_parts hinfo
  obtain ⟨sa, sc, rfl⟩ := hx.shape
  obtain ⟨v', w', hr, ho, hgr, _, hat⟩ := run_append_own_at (P := Tryz.prog) (w.alloc (.cells #[.int .i64 x.kind, .int .i64 x.n, .string ⟨x.name.toArray⟩, .slice sa x.a.length sc] t)) base st st t i0 _ 4 56 hund hi hz0 hz1 hz2 rfl (by decide) v l.length (flatF l) (World.ownsRow.alloc hs.row _) ⟨w.heap.size, 0, none⟩ 1 1 (treeC (x, .slice sa x.a.length sc)) rfl
    (World.news_of_block (cs := #[.int .i64 x.kind, .int .i64 x.n, .string ⟨x.name.toArray⟩, .slice sa x.a.length sc]) (t := t) (fr := (0, 0)) (by show (w.heap.push _)[w.heap.size]? = _; exact Array.getElem?_push_size))
    (by intro u hu; simp [treeC] at hu; rcases hu with rfl | rfl | rfl | rfl <;> rfl) (by unfold maxLen; omega) (by omega) (by simp; omega)
  have hsz : (w.alloc (.cells #[.int .i64 x.kind, .int .i64 x.n, .string ⟨x.name.toArray⟩, .slice sa x.a.length sc] t)).heap.size = w.heap.size + 1 := by simp
  rw [hsz] at hat
  refine ⟨v', w', hr, ⟨by rw [flatF_snoc, List.length_append]; exact ho, fun y hy => ?_⟩, hgr, hat⟩
  have hF : ∀ y : E × Value, Forest w (fun b => S b ∧ some b ≠ v.ownBlock) y.1.a y.2 → Forest w' (fun b => S b ∧ some b ≠ v'.ownBlock) y.1.a y.2 := fun y hf => by
    refine hf.keep (fun b hb hl => ?_) (fun b hb hl => ⟨hb.1, ?_⟩)
    · exact (hgr.block b (by rw [hsz]; omega) hb.2).trans ((alloc_below w _).block b hl)
    · rcases hat with e | e
      · rw [e]; exact hb.2
      · rw [e]; intro e2; injection e2 with e2; omega
  rcases List.mem_append.1 hy with h | h
  · exact hF y (hs.parts y h)
  · rw [List.mem_singleton.1 h]; exact hF (x, _) hx
end Go.Proofs.YtepnafnljfjeoaaGreatDoor.Line
