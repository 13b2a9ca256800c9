/- A box of two cells: what keeps it. -/
import Derived.Test.YtmbhamnkbpcljaaDoorLnMem
namespace Go.Proofs.YtmbhamnkbpcljaaDoor.Line
open Go.ChangeShapes Go.WideShapes Go.ChangeAt Go.RowKit
set_option linter.unusedVariables false

structure Bx (w : World) (b : Nat) (u v : Value) : Prop where
  c0 : w.cell? ⟨b, 0, none⟩ = some u
  c1 : w.cell? ⟨b, 1, none⟩ = some v
  f0 : w.frozen? ⟨b, 0, none⟩ = false
  f1 : w.frozen? ⟨b, 1, none⟩ = false
  lt : b < w.heap.size
theorem Bx.new (w : World) (u v : Value) (t : TypeId) : Bx (w.alloc (.cells #[u, v] t)) w.heap.size u v := ⟨by simp, by simp, by simp, by simp, by simp⟩
theorem Bx.keep {w w' : World} {b : Nat} {u v : Value} (h : Bx w b u v) (hb : Below w.heap.size w w') : Bx w' b u v :=
  ⟨(hb.cell (p := ⟨b, 0, none⟩) h.lt).trans h.c0, (hb.cell (p := ⟨b, 1, none⟩) h.lt).trans h.c1, (hb.frozen (p := ⟨b, 0, none⟩) h.lt).trans h.f0, (hb.frozen (p := ⟨b, 1, none⟩) h.lt).trans h.f1, Nat.lt_of_lt_of_le h.lt hb.size⟩
theorem Bx.set0 {w : World} {b : Nat} {u v : Value} (h : Bx w b u v) (x : Value) : Bx (w.setCell ⟨b, 0, none⟩ x) b x v :=
  ⟨World.cell?_setCell_same _ _ _ h.c0, (World.cell?_setCell_other _ _ _ _ (by simp)).trans h.c1, (World.frozen?_setCell _ _ _ _).trans h.f0, (World.frozen?_setCell _ _ _ _).trans h.f1, by have := h.lt; simpa [World.setCell] using this⟩
theorem Bx.set1 {w : World} {b : Nat} {u v : Value} (h : Bx w b u v) (x : Value) : Bx (w.setCell ⟨b, 1, none⟩ x) b u x :=
  ⟨(World.cell?_setCell_other _ _ _ _ (by simp)).trans h.c0, World.cell?_setCell_same _ _ _ h.c1, (World.frozen?_setCell _ _ _ _).trans h.f0, (World.frozen?_setCell _ _ _ _).trans h.f1, by have := h.lt; simpa [World.setCell] using this⟩
theorem Bx.other {w : World} {b : Nat} {u v : Value} (h : Bx w b u v) (a : Addr) (ha : a.block ≠ b) (x : Value) : Bx (w.setCell a x) b u v := by
  have hk : ∀ o, (w.setCell a x).heap[(⟨b, o, none⟩ : Addr).block]? = w.heap[(⟨b, o, none⟩ : Addr).block]? := fun o => Below.heap_setCell _ _ _ _ (fun e => ha (by simpa using e.symm))
  exact ⟨(World.cell?_of_block (hk 0)).trans h.c0, (World.cell?_of_block (hk 1)).trans h.c1, (World.frozen?_setCell _ _ _ _).trans h.f0, (World.frozen?_setCell _ _ _ _).trans h.f1, by have := h.lt; simpa [World.setCell] using this⟩
/-- a row of numbers of the call's own, which may be written -/
structure Wr (w : World) (q : Nat) (l : List Int) : Prop where
  ints : Ints w (.slice (some ⟨q, 0, none⟩) l.length l.length) l
  free : ∀ o, w.frozen? ⟨q, o, none⟩ = false
  lt : q < w.heap.size
theorem Wr.keep {w w' : World} {q : Nat} {l : List Int} (h : Wr w q l) (hb : Below w.heap.size w w') : Wr w' q l :=
  ⟨h.ints.below hb, fun o => (hb.frozen (p := ⟨q, o, none⟩) h.lt).trans (h.free o), Nat.lt_of_lt_of_le h.lt hb.size⟩
theorem Wr.at {w : World} {q : Nat} {l : List Int} (h : Wr w q l) (i : Nat) (hi : i < l.length) : w.cell? ⟨q, i, none⟩ = some (.int .i64 l[i]) := by
  obtain ⟨b, off, cap, hv, _, _, hc⟩ := h.ints.at (by omega)
  injection hv with e1 e2 e3
  injection e1 with e1
  injection e1 with e1 e4
  subst e1 e4
  have := hc i hi
  rwa [Nat.zero_add] at this
theorem Wr.set {w : World} {q : Nat} {l : List Int} (h : Wr w q l) (i : Nat) (hi : i < l.length) (v : Int) : Wr (w.setCell ⟨q, i, none⟩ (.int .i64 v)) q (l.set i v) :=
  ⟨by rw [List.length_set]; exact (ints_set h.ints i hi v).1, fun o => (World.frozen?_setCell _ _ _ _).trans (h.free o), by have := h.lt; simpa [World.setCell] using this⟩
theorem Ints.other {w : World} {v : Value} {l : List Int} (h : Ints w v l) (a : Addr) (x : Value) (ha : ∀ b o cap, v = .slice (some ⟨b, o, none⟩) l.length cap → a.block ≠ b) : Ints (w.setCell a x) v l := by
  obtain ⟨aa, cap, h1, h2, h3, h4⟩ := h
  refine ⟨aa, cap, h1, h2, h3, ?_⟩
  rcases h4 with h4 | ⟨b, off, h5, h6⟩
  · exact .inl h4
  · subst h5
    exact .inr ⟨b, off, rfl, fun i hi => (World.cell?_of_block (Below.heap_setCell _ _ _ _ (fun e => ha b off cap h1 (by simpa using e.symm)))).trans (h6 i hi)⟩
theorem Wr.other {w : World} {q : Nat} {l : List Int} (h : Wr w q l) (a : Addr) (ha : a.block ≠ q) (x : Value) : Wr (w.setCell a x) q l :=
  ⟨h.ints.other a x (fun b o cap hv => by injection hv with e1; injection e1 with e1; injection e1 with e1; rw [← e1]; exact ha), fun o => (World.frozen?_setCell _ _ _ _).trans (h.free o), by have := h.lt; simpa [World.setCell] using this⟩
theorem make_wr (n : Nat) (hn : n ≤ 100000) : ∃ Z : Array Value, ∀ w : World, (Instr.makeSlice 22 (.int .i64 (n : Int)) (.int .i64 (n : Int))).run Tryd.prog w = .ok (.slice (some ⟨w.heap.size, 0, none⟩) n n) (w.alloc (.cells Z 2)) ∧ Wr (w.alloc (.cells Z 2)) w.heap.size (List.replicate n 0) := by
  obtain ⟨i0, hi, hz0, hz1, hz2⟩ := info_parts infoZ
  refine ⟨madeCells (Value.int IntKind.i64 0).cells n, fun w => ?_⟩
  have h := run_make (P := Tryd.prog) w 22 2 i0 _ Tryd.underlying22 hi hz0 .i64 .i64 n n (by omega) (Int.le_refl _) (by rw [hz2]; omega) (by omega)
  rw [hz1, Int.toNat_natCast, Nat.mul_one] at h
  refine ⟨h, ⟨_, n, by rw [List.length_replicate], by rw [List.length_replicate]; exact Nat.le_refl _, by unfold maxLen; omega, .inr ⟨_, 0, rfl, fun j hj => ?_⟩⟩, fun o => World.frozen?_alloc_at _ _ _ _ rfl, by simp⟩
  rw [List.length_replicate] at hj
  rw [Nat.zero_add, World.cell?_alloc_at _ _ _ _ rfl]
  simp [madeCells, Value.cells, hj]
  rw [Nat.mod_one]
  rfl
theorem told_new {B b : Nat} {w : World} {word : List UInt8} {k err : Nat} (h : err ≠ 0) (hb : B ≤ b) (h0 : w.cell? ⟨b, 0, none⟩ = some (.string ⟨word.toArray⟩)) (h1 : w.cell? ⟨b, 1, none⟩ = some (.int .i64 k)) : Told B w (.agg #[.slice (some ⟨b, 0, none⟩) 1 1, .int .i64 err]) word k err := .inr ⟨h, b, hb, rfl, h0, h1⟩
end Go.Proofs.YtmbhamnkbpcljaaDoor.Line
