/- Numbers in memory that are only read; rows of numbers that a call makes and sets; a Form as a value. -/
import Derived.Test.YtmbhamnkbpcljaaDoorBaseAll
import Derived.Laws.MakeOwn
namespace Go.Proofs.YtmbhamnkbpcljaaDoor.Line
open Go.ChangeShapes Go.WideShapes Go.ChangeAt Go.RowKit
set_option linter.unusedVariables false

/-- numbers that are only read -/
def Ints (w : World) (v : Value) (l : List Int) : Prop :=
  ∃ a cap, v = .slice a l.length cap ∧ l.length ≤ cap ∧ cap ≤ maxLen ∧ (l = [] ∨ ∃ b off, a = some ⟨b, off, none⟩ ∧ ∀ i (h : i < l.length), w.cell? ⟨b, off + i, none⟩ = some (.int .i64 l[i]))
theorem Ints.below {w w' : World} {v : Value} {l : List Int} (h : Ints w v l) (hb : Below w.heap.size w w') : Ints w' v l := by
  obtain ⟨a, cap, h1, h2, h3, h4⟩ := h
  refine ⟨a, cap, h1, h2, h3, ?_⟩
  rcases h4 with h4 | ⟨b, off, h5, h6⟩
  · exact .inl h4
  · exact .inr ⟨b, off, h5, fun i hi => (hb.cell (p := ⟨b, off + i, none⟩) (cell_lt (h6 i hi))).trans (h6 i hi)⟩
theorem Ints.nil (w : World) : Ints w (.slice none 0 0) [] := ⟨none, 0, rfl, Nat.le_refl _, by decide, .inl rfl⟩
theorem Ints.shape {w : World} {v : Value} {l : List Int} (h : Ints w v l) : ∃ a cap, v = .slice a l.length cap := by
  obtain ⟨a, cap, h1, _⟩ := h
  exact ⟨a, cap, h1⟩
theorem Ints.at {w : World} {v : Value} {l : List Int} (h : Ints w v l) (hl : 0 < l.length) : ∃ b off cap, v = .slice (some ⟨b, off, none⟩) l.length cap ∧ l.length ≤ cap ∧ cap ≤ maxLen ∧ ∀ i (h : i < l.length), w.cell? ⟨b, off + i, none⟩ = some (.int .i64 l[i]) := by
  obtain ⟨a, cap, h1, h2, h3, h4⟩ := h
  rcases h4 with rfl | ⟨b, off, rfl, h6⟩
  · simp at hl
  · exact ⟨b, off, cap, h1, h2, h3, h6⟩
/-- a row of numbers of a call's own is numbers -/
theorem own_ints {t : TypeId} {base : Nat} {w : World} {v : Value} {l : List Int} (h : w.ownsRow base t 1 v l.length (l.map (Value.int .i64))) : Ints w v l := by
  have h' := h
  rcases h.2 with ⟨rfl, h5⟩ | ⟨g, cap, cur, rfl, hg, hh, hc, hm, r⟩
  · rw [List.length_eq_zero_iff.1 h5]; exact Ints.nil w
  · refine ⟨_, cap, rfl, hc, hm, .inr ⟨g, 0, rfl, fun i hi => ?_⟩⟩
    rw [Nat.zero_add, World.ownsRow.cellAt h' i (by omega)]
    simp [hi]
theorem infoZ : (Tryd.prog.info? 2).map (fun i => (i.zero, i.size, i.bytes)) = some (some (.int .i64 0), 1, 8) := by kernel_rfl
theorem make_ints (w : World) (n : Nat) (hn : n ≤ 100000) : ∃ Z : Array Value, (Instr.makeSlice 22 (.int .i64 (n : Int)) (.int .i64 (n : Int))).run Tryd.prog w = .ok (.slice (some ⟨w.heap.size, 0, none⟩) n n) (w.alloc (.cells Z 2)) ∧ Ints (w.alloc (.cells Z 2)) (.slice (some ⟨w.heap.size, 0, none⟩) n n) (List.replicate n 0) ∧ (∀ o, (w.alloc (.cells Z 2)).frozen? ⟨w.heap.size, o, none⟩ = false) := by
  obtain ⟨i0, hi, hz0, hz1, hz2⟩ := info_parts infoZ
  have h := run_make (P := Tryd.prog) w 22 2 i0 _ Tryd.underlying22 hi hz0 .i64 .i64 n n (by omega) (Int.le_refl _) (by rw [hz2]; omega) (by omega)
  rw [hz1, Int.toNat_natCast, Nat.mul_one] at h
  refine ⟨_, h, ⟨_, n, by rw [List.length_replicate], by rw [List.length_replicate]; exact Nat.le_refl _, by unfold maxLen; omega, .inr ⟨_, 0, rfl, fun j hj => ?_⟩⟩, fun o => World.frozen?_alloc_at _ _ _ _ rfl⟩
  rw [List.length_replicate] at hj
  rw [Nat.zero_add, World.cell?_alloc_at _ _ _ _ rfl]
  simp [madeCells, Value.cells, hj]
  rw [Nat.mod_one]
  rfl
theorem ints_set {w : World} {q n cap : Nat} {l : List Int} (h : Ints w (.slice (some ⟨q, 0, none⟩) n cap) l) (i : Nat) (hi : i < n) (v : Int) : Ints (w.setCell ⟨q, i, none⟩ (.int .i64 v)) (.slice (some ⟨q, 0, none⟩) n cap) (l.set i v) ∧ w.cell? ⟨q, i, none⟩ = some (.int .i64 (l.getD i 0)) := by
  obtain ⟨a, c, h1, h2, h3, h4⟩ := h
  injection h1 with e1 e2 e3
  subst e1 e2 e3
  rcases h4 with rfl | ⟨b, off, h5, h6⟩
  · simp at hi
  · injection h5 with h5
    injection h5 with h5 h7
    subst h5 h7
    have hc := h6 i hi
    rw [Nat.zero_add] at hc
    refine ⟨⟨_, cap, by rw [List.length_set], by rw [List.length_set]; exact h2, h3, .inr ⟨q, 0, rfl, fun j hj => ?_⟩⟩, by rw [hc]; simp [hi]⟩
    rw [List.length_set] at hj
    rw [Nat.zero_add, List.getElem_set]
    by_cases e : i = j
    · subst e
      rw [if_pos rfl]
      exact World.cell?_setCell_same _ _ _ hc
    · rw [if_neg e]
      have := h6 j hj
      rw [Nat.zero_add] at this
      exact (World.cell?_setCell_other _ _ _ _ (by intro h9; injection h9 with _ h9; exact e h9)).trans this
theorem says_new (B : Nat) (W : World) (t : TypeId) (word : List UInt8) (k err : Nat) (h : err ≠ 0) (hB : B ≤ W.heap.size) : Says B (W.alloc (.cells #[.string ⟨word.toArray⟩, .int .i64 k, .iface 72 (.int .i64 err)] t)) (.iface 80 (.pointer (some ⟨W.heap.size, 0, none⟩))) word k err :=
  .inr ⟨h, W.heap.size, hB, rfl, by simp, by simp, by simp⟩

/-- within 64 bits -/
def In64 (x : Int) : Prop := -9223372036854775808 ≤ x ∧ x ≤ 9223372036854775807
def Rng (l : List Int) : Prop := ∀ x ∈ l, In64 x
theorem Rng.at {l : List Int} (h : Rng l) {i : Nat} (hi : i < l.length) : In64 l[i] := h _ (List.getElem_mem hi)
/-- a Form as a value -/
abbrev formV (cv : Value) (k : Int) : Value := .agg #[cv, .int .i64 k]
end Go.Proofs.YtmbhamnkbpcljaaDoor.Line
