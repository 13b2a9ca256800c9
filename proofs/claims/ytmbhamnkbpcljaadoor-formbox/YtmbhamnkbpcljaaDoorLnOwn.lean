/- Rows of numbers that a call appends to. -/
import Derived.Test.YtmbhamnkbpcljaaDoorLnBx
import Derived.Maps.AppendAt
import Derived.Deep.AppendLies
namespace Go.Proofs.YtmbhamnkbpcljaaDoor.Line
open Go.ChangeShapes Go.WideShapes Go.ChangeAt Go.RowKit
set_option linter.unusedVariables false

abbrev I64 : TypeId := 2
abbrev IST : TypeId := 22
def OwnI (base : Nat) (w : World) (v : Value) (l : List Int) : Prop := w.ownsRow base I64 1 v l.length (l.map (Value.int .i64))
theorem OwnI.nil (base : Nat) (w : World) : OwnI base w (.slice none 0 0) [] := World.ownsRow_nil _ _ _ _
theorem OwnI.shape {base : Nat} {w : World} {v : Value} {l : List Int} (h : OwnI base w v l) : ∃ a cap, v = .slice a l.length cap := by
  rcases h.2 with ⟨rfl, h5⟩ | ⟨g, cap, cur, rfl, _⟩
  · exact ⟨none, 0, by rw [h5]⟩
  · exact ⟨_, _, rfl⟩
theorem OwnI.kept {base : Nat} {w w' : World} {v : Value} {l : List Int} {row : Option Nat} (h : OwnI base w v l) (hg : w.grownBy w' row) (hne : v.ownBlock = none ∨ v.ownBlock ≠ row) : OwnI base w' v l := World.ownsRow.kept h hg hne
theorem OwnI.below {base : Nat} {w w' : World} {v : Value} {l : List Int} (h : OwnI base w v l) (hb : Below w.heap.size w w') : OwnI base w' v l := by
  obtain ⟨h1, h2⟩ := h
  refine ⟨h1, ?_⟩
  rcases h2 with h2 | ⟨g, cap, cur, hv, hg, hh, r⟩
  · exact .inl h2
  · refine .inr ⟨g, cap, cur, hv, hg, ?_, r⟩
    rw [hb.block g (by
      rcases Nat.lt_or_ge g w.heap.size with h | h
      · exact h
      · rw [Array.getElem?_eq_none h] at hh; cases hh)]
    exact hh
theorem OwnI.ints {base : Nat} {w : World} {v : Value} {l : List Int} (h : OwnI base w v l) : Ints w v l := own_ints h
theorem OwnI.lt {base : Nat} {w : World} {v : Value} {l : List Int} (h : OwnI base w v l) {g : Nat} (hv : v.ownBlock = some g) : base ≤ g ∧ g < w.heap.size := World.ownsRow.lt h g hv
theorem grown_trans {a b c : World} {row : Option Nat} (h : a.grownBy b row) (k : b.grownBy c row) : a.grownBy c row := ⟨k.os.trans h.os, k.tape.trans h.tape, k.output.trans h.output, Nat.le_trans h.size k.size, fun i hi hne => (k.block i (Nat.lt_of_lt_of_le hi h.size) hne).trans (h.block i hi hne)⟩
theorem grown_below {a b : World} {row : Option Nat} (h : Below a.heap.size a b) : a.grownBy b row := ⟨h.os, h.tape, h.output, h.size, fun k hk _ => h.block k hk⟩
theorem below_grown {B : Nat} {a w w' : World} {row : Option Nat} (h : Below B a w) (hg : w.grownBy w' row) (hB : B ≤ w.heap.size) (hr : ∀ g, row = some g → B ≤ g) : Below B a w' :=
  h.trans ⟨hg.os, hg.tape, hg.output, hg.size, fun k hk => hg.block k (by omega) (fun e => by have := hr k e.symm; omega)⟩
theorem Bx.grown {w w' : World} {b : Nat} {u v : Value} {row : Option Nat} (h : Bx w b u v) (hg : w.grownBy w' row) (hne : row ≠ some b) : Bx w' b u v := by
  have hk := hg.block b h.lt (fun e => hne e.symm)
  exact ⟨(World.cell?_of_block (a := ⟨b, 0, none⟩) hk).trans h.c0, (World.cell?_of_block (a := ⟨b, 1, none⟩) hk).trans h.c1, (World.frozen?_of_block (a := ⟨b, 0, none⟩) hk).trans h.f0, (World.frozen?_of_block (a := ⟨b, 1, none⟩) hk).trans h.f1, Nat.lt_of_lt_of_le h.lt hg.size⟩
theorem append_i {base : Nat} {w : World} {v : Value} {l : List Int} {n : Int} (hs : OwnI base w v l) (hb : base ≤ w.heap.size) (hl : l.length + 1 ≤ 1000000) :
    ∃ v' w', (Builtin.append_ #[IST, IST] IST #[v, .slice (some ⟨w.heap.size, 0, none⟩) 1 1]).run Tryd.prog (w.alloc (.cells #[.int .i64 n] I64)) = .ok v' w' ∧ OwnI base w' v' (l ++ [n]) ∧ w.grownBy w' v.ownBlock ∧ (v'.ownBlock = v.ownBlock ∨ v'.ownBlock = some (w.heap.size + 1)) := by
  obtain ⟨i0, hi, hz0, hz1, hz2⟩ := info_parts infoZ
  obtain ⟨v', w', hr, ho, hgr, _, hat⟩ := run_append_own_at (P := Tryd.prog) (w.alloc (.cells #[.int .i64 n] I64)) base IST IST I64 i0 _ 1 8 Tryd.underlying22 hi hz0 hz1 hz2 rfl (by decide) v l.length (l.map (Value.int .i64)) (World.ownsRow.alloc hs _) ⟨w.heap.size, 0, none⟩ 1 1 [.int .i64 n] rfl
    (World.news_of_block (cs := #[.int .i64 n]) (t := I64) (fr := (0, 0)) (by show (w.heap.push _)[w.heap.size]? = _; exact Array.getElem?_push_size))
    (by
      intro u hu
      obtain rfl := List.mem_singleton.1 hu
      rfl) (by unfold maxLen; omega) (by omega) (by simp; omega)
  refine ⟨v', w', hr, ?_, grown_trans (World.grownBy_alloc _ _ _) hgr, ?_⟩
  · unfold OwnI
    rw [List.map_append, List.length_append]
    exact ho
  · rcases hat with h | h
    · exact .inl h
    · exact .inr (by rw [h]; simp)
end Go.Proofs.YtmbhamnkbpcljaaDoor.Line
