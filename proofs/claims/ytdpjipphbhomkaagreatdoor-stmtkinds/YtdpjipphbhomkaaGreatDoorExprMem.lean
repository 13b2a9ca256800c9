/- Trees in memory (Forest), a reader's block (Rdr); what keeps them. -/
import Derived.Test.YtdpjipphbhomkaaGreatDoorMemB
import Derived.Test.YtdpjipphbhomkaaGreatDoorTokMem
import Derived.Test.YtdpjipphbhomkaaGreatDoorPlainExpr
namespace Go.Proofs.YtdpjipphbhomkaaGreatDoor.Line
open Go.ChangeShapes Go.WideShapes Go.ChangeAt Go.RowKit
open Ex (E St)
set_option linter.unusedVariables false

abbrev wExpr : List UInt8 := [101, 120, 112, 114]
/-- but for one block, and new ones, nothing has turned -/
abbrev But (rb : Nat) (w w' : World) : Prop := w.grownBy w' (some rb)
theorem but_refl (rb : Nat) (w : World) : But rb w w := World.grownBy.refl _ _
theorem But.trans {rb : Nat} {a b c : World} (h : But rb a b) (k : But rb b c) : But rb a c := ⟨k.os.trans h.os, k.tape.trans h.tape, k.output.trans h.output, Nat.le_trans h.size k.size, fun i hi hne => (k.block i (Nat.lt_of_lt_of_le hi h.size) hne).trans (h.block i hi hne)⟩
theorem but_below {rb : Nat} {w w' : World} (h : Below w.heap.size w w') : But rb w w' := ⟨h.os, h.tape, h.output, h.size, fun k hk _ => h.block k hk⟩
theorem But.alloc {rb : Nat} {a w : World} (h : But rb a w) (o : Obj) : But rb a (w.alloc o) := h.trans (World.grownBy_alloc _ _ _)
theorem But.set {rb : Nat} {a w : World} (h : But rb a w) {p : Addr} (hp : a.heap.size ≤ p.block ∨ p.block = rb) (u : Value) : But rb a (w.setCell p u) :=
  ⟨h.os, h.tape, h.output, by simp [World.setCell]; exact h.size, fun i hi hne => by
    rw [Below.heap_setCell _ _ _ _ (by
      rcases hp with hp | hp
      · omega
      · intro e; exact hne (by rw [e, hp]))]
    exact h.block i hi hne⟩
theorem But.drewN {rb : Nat} {a w : World} (h : But rb a w) (n : Nat) : But rb a (w.drewN n) := h.trans (but_below (below_drewN (Below.refl _ _) n))
theorem But.below {rb B : Nat} {a w : World} (h : But rb a w) (hB : B ≤ rb) (hs : B ≤ a.heap.size) : Below B a w := ⟨h.os, h.tape, h.output, h.size, fun k hk => h.block k (by omega) (fun e => by injection e with e; omega)⟩
theorem But.cell {rb : Nat} {w w' : World} (h : But rb w w') {p : Addr} (hp : p.block < w.heap.size) (hne : p.block ≠ rb) : w'.cell? p = w.cell? p := World.cell?_of_block (h.block _ hp (fun e => hne (by injection e)))
theorem But.frozen {rb : Nat} {w w' : World} (h : But rb w w') {p : Addr} (hp : p.block < w.heap.size) (hne : p.block ≠ rb) : w'.frozen? p = w.frozen? p := World.frozen?_of_block (h.block _ hp (fun e => hne (by injection e)))

/-- trees in memory, in blocks of S alone -/
inductive Forest (w : World) (S : Nat → Prop) : List E → Value → Prop
  | nil (a : Option Addr) (cap : Nat) : Forest w S [] (.slice a 0 cap)
  | row (l : List E) (b off cap : Nat) (sl : Nat → Value) (hS : S b) (hcap : l.length ≤ cap) (hmax : cap ≤ maxLen)
      (hc : ∀ i (h : i < l.length), w.cell? ⟨b, off + i * 4, none⟩ = some (.int .i64 l[i].kind) ∧ w.cell? ⟨b, off + i * 4 + 1, none⟩ = some (.int .i64 l[i].n) ∧ w.cell? ⟨b, off + i * 4 + 2, none⟩ = some (.string ⟨l[i].name.toArray⟩) ∧ w.cell? ⟨b, off + i * 4 + 3, none⟩ = some (sl i))
      (hf : ∀ i (h : i < l.length), Forest w S l[i].a (sl i)) : Forest w S l (.slice (some ⟨b, off, none⟩) l.length cap)
theorem Forest.keep {w w' : World} {S S' : Nat → Prop} {l : List E} {v : Value} (h : Forest w S l v) (hk : ∀ b, S b → b < w.heap.size → w'.heap[b]? = w.heap[b]?) (hs : ∀ b, S b → b < w.heap.size → S' b) : Forest w' S' l v := by
  induction h with
  | nil a cap => exact .nil a cap
  | row l b off cap sl hS hcap hmax hc hf ih =>
    by_cases h0 : l.length = 0
    · obtain rfl : l = [] := List.length_eq_zero_iff.1 h0
      exact .nil _ _
    · have hlt : b < w.heap.size := cell_lt (hc 0 (by omega)).1
      have hb := hk b hS hlt
      have hcell : ∀ o, w'.cell? ⟨b, o, none⟩ = w.cell? ⟨b, o, none⟩ := fun o => World.cell?_of_block (a := ⟨b, o, none⟩) hb
      refine .row l b off cap sl (hs b hS hlt) hcap hmax (fun i hi => ?_) ih
      obtain ⟨h1, h2, h3, h4⟩ := hc i hi
      exact ⟨(hcell _).trans h1, (hcell _).trans h2, (hcell _).trans h3, (hcell _).trans h4⟩
theorem Forest.shape {w : World} {S : Nat → Prop} {l : List E} {v : Value} (h : Forest w S l v) : ∃ a cap, v = .slice a l.length cap := by
  cases h with
  | nil a cap => exact ⟨a, cap, rfl⟩
  | row _ b off cap sl hS hcap hmax hc hf => exact ⟨_, _, rfl⟩
/-- a tree's parts, one by one -/
theorem Forest.at {w : World} {S : Nat → Prop} {l : List E} {v : Value} (h : Forest w S l v) (hl : 0 < l.length) : ∃ (b off cap : Nat) (sl : Nat → Value), v = .slice (some ⟨b, off, none⟩) l.length cap ∧ l.length ≤ cap ∧ cap ≤ maxLen ∧ (∀ i (h : i < l.length), w.cell? ⟨b, off + i * 4, none⟩ = some (.int .i64 l[i].kind) ∧ w.cell? ⟨b, off + i * 4 + 1, none⟩ = some (.int .i64 l[i].n) ∧ w.cell? ⟨b, off + i * 4 + 2, none⟩ = some (.string ⟨l[i].name.toArray⟩) ∧ w.cell? ⟨b, off + i * 4 + 3, none⟩ = some (sl i)) ∧ (∀ i (h : i < l.length), Forest w S l[i].a (sl i)) := by
  cases h with
  | nil a cap => simp at hl
  | row _ b off cap sl hS hcap hmax hc hf => exact ⟨b, off, cap, sl, rfl, hcap, hmax, hc, hf⟩
theorem Forest.len {w : World} {S : Nat → Prop} {l : List E} {v : Value} (h : Forest w S l v) : l.length ≤ 9223372036854775807 := by
  cases h with
  | nil a cap => simp
  | row _ b off cap sl hS hcap hmax hc hf => unfold maxLen at hmax; omega
theorem Forest.old {w w' : World} {S : Nat → Prop} {l : List E} {v : Value} (h : Forest w S l v) (hb : Below w.heap.size w w') : Forest w' S l v := h.keep (fun b _ hl => hb.block b hl) (fun _ h _ => h)
theorem Forest.but {w w' : World} {S : Nat → Prop} {l : List E} {v : Value} {rb : Nat} (h : Forest w S l v) (hb : But rb w w') (hS : ∀ b, S b → b ≠ rb) : Forest w' S l v := h.keep (fun b hs hl => hb.block b hl (fun e => hS b hs (by injection e))) (fun _ h _ => h)
theorem Forest.mono {w : World} {S S' : Nat → Prop} {l : List E} {v : Value} (h : Forest w S l v) (hs : ∀ b, S b → b < w.heap.size → S' b) : Forest w S' l v := h.keep (fun _ _ _ => rfl) hs
theorem Forest.set {w : World} {S : Nat → Prop} {l : List E} {v : Value} (h : Forest w S l v) (p : Addr) (hS : ¬ S p.block) (u : Value) : Forest (w.setCell p u) S l v := h.keep (fun b hs _ => Below.heap_setCell _ _ _ _ (fun e => hS (e ▸ hs))) (fun _ h _ => h)
/-- a tree as a value: its parts lie in memory -/
abbrev treeV (x : E) (sl : Value) : Value := .agg #[.int .i64 x.kind, .int .i64 x.n, .string ⟨x.name.toArray⟩, sl]
/-- two trees in a new block -/
theorem forest_two {w : World} {S : Nat → Prop} {x y : E} {sx sy : Value} {t : TypeId} (hx : Forest w S x.a sx) (hy : Forest w S y.a sy) (hS : S w.heap.size) :
    Forest (w.alloc (.cells #[.int .i64 x.kind, .int .i64 x.n, .string ⟨x.name.toArray⟩, sx, .int .i64 y.kind, .int .i64 y.n, .string ⟨y.name.toArray⟩, sy] t)) S [x, y] (.slice (some ⟨w.heap.size, 0, none⟩) 2 2) := by
  refine .row [x, y] w.heap.size 0 2 (fun i => if i = 0 then sx else sy) hS (by simp) (by decide) (fun i hi => ?_) (fun i hi => ?_)
  · match i, hi with
    | 0, _ => refine ⟨?_, ?_, ?_, ?_⟩ <;> simp
    | 1, _ => refine ⟨?_, ?_, ?_, ?_⟩ <;> simp
  · match i, hi with
    | 0, _ => exact hx.old (alloc_below _ _)
    | 1, _ => exact hy.old (alloc_below _ _)
theorem forest_one {w : World} {S : Nat → Prop} {x : E} {sx : Value} {t : TypeId} (hx : Forest w S x.a sx) (hS : S w.heap.size) :
    Forest (w.alloc (.cells #[.int .i64 x.kind, .int .i64 x.n, .string ⟨x.name.toArray⟩, sx] t)) S [x] (.slice (some ⟨w.heap.size, 0, none⟩) 1 1) := by
  refine .row [x] w.heap.size 0 1 (fun i => sx) hS (by simp) (by decide) (fun i hi => ?_) (fun i hi => ?_)
  · match i, hi with
    | 0, _ => refine ⟨?_, ?_, ?_, ?_⟩ <;> simp
  · match i, hi with
    | 0, _ => exact hx.old (alloc_below _ _)

/-- the reader's error, in memory -/
def Bad (w : World) (S : Nat → Prop) (word : List UInt8) (sl : Value) (s : St) : Prop :=
  (s.err = 0 ∧ sl = .slice none 0 0) ∨ (s.err ≠ 0 ∧ ∃ bb, S bb ∧ sl = .slice (some ⟨bb, 0, none⟩) 1 1 ∧ w.cell? ⟨bb, 0, none⟩ = some (.string ⟨word.toArray⟩) ∧ w.cell? ⟨bb, 1, none⟩ = some (.int .i64 s.bad))
theorem Bad.keep {w w' : World} {S S' : Nat → Prop} {word : List UInt8} {sl : Value} {s : St} (h : Bad w S word sl s) (hk : ∀ b, S b → b < w.heap.size → w'.heap[b]? = w.heap[b]?) (hs : ∀ b, S b → b < w.heap.size → S' b) : Bad w' S' word sl s := by
  rcases h with h | ⟨h0, bb, hS, rfl, h1, h2⟩
  · exact .inl h
  · have hl := cell_lt h1
    have hb := hk bb hS hl
    exact .inr ⟨h0, bb, hs bb hS hl, rfl, (World.cell?_of_block (a := ⟨bb, 0, none⟩) hb).trans h1, (World.cell?_of_block (a := ⟨bb, 1, none⟩) hb).trans h2⟩
/-- a reader: its words, where it is, its error -/
structure Rdr (w : World) (S : Nat → Prop) (word : List UInt8) (rb : Nat) (L : Value) (s : St) : Prop where
  words : w.cell? ⟨rb, 0, none⟩ = some L
  pos : w.cell? ⟨rb, 1, none⟩ = some (.int .i64 s.pos)
  bad : ∃ sl, w.cell? ⟨rb, 2, none⟩ = some sl ∧ Bad w S word sl s
  err : w.cell? ⟨rb, 3, none⟩ = some (.int .i64 s.err)
  fr : w.frozen? ⟨rb, 0, none⟩ = false ∧ w.frozen? ⟨rb, 1, none⟩ = false ∧ w.frozen? ⟨rb, 2, none⟩ = false ∧ w.frozen? ⟨rb, 3, none⟩ = false
  lt : rb < w.heap.size
theorem Rdr.keep {w w' : World} {S S' : Nat → Prop} {word : List UInt8} {rb : Nat} {L : Value} {s : St} (h : Rdr w S word rb L s) (hr : w'.heap[rb]? = w.heap[rb]?) (hsz : w.heap.size ≤ w'.heap.size) (hk : ∀ b, S b → b < w.heap.size → w'.heap[b]? = w.heap[b]?) (hs : ∀ b, S b → b < w.heap.size → S' b) : Rdr w' S' word rb L s := by
  have hc : ∀ o, w'.cell? ⟨rb, o, none⟩ = w.cell? ⟨rb, o, none⟩ := fun o => World.cell?_of_block (a := ⟨rb, o, none⟩) hr
  have hf : ∀ o, w'.frozen? ⟨rb, o, none⟩ = w.frozen? ⟨rb, o, none⟩ := fun o => World.frozen?_of_block (a := ⟨rb, o, none⟩) hr
  obtain ⟨h1, h2, ⟨sl, h3, h4⟩, h5, ⟨f0, f1, f2, f3⟩, h7⟩ := h
  exact ⟨(hc 0).trans h1, (hc 1).trans h2, ⟨sl, (hc 2).trans h3, h4.keep hk hs⟩, (hc 3).trans h5, ⟨(hf 0).trans f0, (hf 1).trans f1, (hf 2).trans f2, (hf 3).trans f3⟩, by omega⟩
theorem Rdr.below {w w' : World} {S : Nat → Prop} {word : List UInt8} {rb : Nat} {L : Value} {s : St} (h : Rdr w S word rb L s) (hb : Below w.heap.size w w') : Rdr w' S word rb L s := h.keep (hb.block _ h.lt) hb.size (fun b _ hl => hb.block b hl) (fun _ h _ => h)
theorem Rdr.drewN {w : World} {S : Nat → Prop} {word : List UInt8} {rb : Nat} {L : Value} {s : St} (h : Rdr w S word rb L s) (n : Nat) : Rdr (w.drewN n) S word rb L s := h.below (below_drewN (Below.refl _ _) n)
theorem Rdr.set {w : World} {S : Nat → Prop} {word : List UInt8} {rb : Nat} {L : Value} {s : St} (h : Rdr w S word rb L s) (p : Addr) (hp : p.block ≠ rb) (hS : ¬ S p.block) (u : Value) : Rdr (w.setCell p u) S word rb L s := h.keep (Below.heap_setCell _ _ _ _ (fun e => hp e.symm)) (by simp [World.setCell]) (fun b hs _ => Below.heap_setCell _ _ _ _ (fun e => hS (e ▸ hs))) (fun _ h _ => h)
theorem Rdr.mono {w : World} {S S' : Nat → Prop} {word : List UInt8} {rb : Nat} {L : Value} {s : St} (h : Rdr w S word rb L s) (hs : ∀ b, S b → b < w.heap.size → S' b) : Rdr w S' word rb L s := h.keep rfl (Nat.le_refl _) (fun _ _ _ => rfl) hs
/-- one place on -/
theorem Rdr.next {w : World} {S : Nat → Prop} {word : List UInt8} {rb : Nat} {L : Value} {s : St} (h : Rdr w S word rb L s) (hS : ¬ S rb) : Rdr (w.setCell ⟨rb, 1, none⟩ (.int .i64 ((s.pos + 1 : Nat) : Int))) S word rb L s.next := by
  obtain ⟨h1, h2, ⟨sl, h3, h4⟩, h5, ⟨f0, f1, f2, f3⟩, h7⟩ := h
  refine ⟨by simp [go_sem, h1], by simp [go_sem, h2, St.next], ⟨sl, by simp [go_sem, h3], ?_⟩, by simp [go_sem, h5, St.next], ⟨by simp [go_sem, f0], by simp [go_sem, f1], by simp [go_sem, f2], by simp [go_sem, f3]⟩, by simp [World.setCell]; omega⟩
  have := h4.keep (w' := w.setCell ⟨rb, 1, none⟩ (.int .i64 ((s.pos + 1 : Nat) : Int))) (S' := S) (fun b hs _ => Below.heap_setCell _ _ _ _ (fun e => hS (by have e : b = rb := e; subst e; exact hs))) (fun _ h _ => h)
  exact this
theorem Rdr.nextI {w : World} {S : Nat → Prop} {word : List UInt8} {rb : Nat} {L : Value} {s : St} (h : Rdr w S word rb L s) (hS : ¬ S rb) : Rdr (w.setCell ⟨rb, 1, none⟩ (.int .i64 ((s.pos : Int) + 1))) S word rb L s.next := by
  have e : ((s.pos + 1 : Nat) : Int) = (s.pos : Int) + 1 := by omega
  rw [← e]
  exact h.next hS
theorem cell_alloc_one (w : World) (a b c d : Value) (t : TypeId) {k : Nat} (hk : k = w.heap.size) : (w.alloc (.cells #[a, b, c, d] t)).cell? ⟨k, 1, none⟩ = some b := by subst hk; simp
/-- an error is laid down -/
theorem Rdr.fails {w : World} {S : Nat → Prop} {word : List UInt8} {rb : Nat} {L : Value} {s : St} (h : Rdr w S word rb L s) (hS : ¬ S rb) {b k er : Nat} (hb : S b) (he : er ≠ 0) (h0 : w.cell? ⟨b, 0, none⟩ = some (.string ⟨word.toArray⟩)) (h1 : w.cell? ⟨b, 1, none⟩ = some (.int .i64 k)) :
    Rdr ((w.setCell ⟨rb, 2, none⟩ (.slice (some ⟨b, 0, none⟩) 1 1)).setCell ⟨rb, 3, none⟩ (.int .i64 er)) S word rb L ⟨s.pos, er, k⟩ := by
  have hne : b ≠ rb := fun e => hS (e ▸ hb)
  obtain ⟨g1, g2, ⟨sl, g3, g4⟩, g5, ⟨f0, f1, f2, f3⟩, g7⟩ := h
  refine ⟨by simp [go_sem, g1], by simp [go_sem, g2], ⟨_, by simp [go_sem, g3], .inr ⟨he, b, hb, rfl, ?_, ?_⟩⟩, by simp [go_sem, g5], ⟨by simp [go_sem, f0], by simp [go_sem, f1], by simp [go_sem, f2], by simp [go_sem, f3]⟩, by simp [World.setCell]; omega⟩
  · rw [World.cell?_of_block (Below.heap_setCell _ _ _ _ (show b ≠ rb from hne)), World.cell?_of_block (Below.heap_setCell _ _ _ _ (show b ≠ rb from hne))]; exact h0
  · rw [World.cell?_of_block (Below.heap_setCell _ _ _ _ (show b ≠ rb from hne)), World.cell?_of_block (Below.heap_setCell _ _ _ _ (show b ≠ rb from hne))]; exact h1
end Go.Proofs.YtdpjipphbhomkaaGreatDoor.Line
