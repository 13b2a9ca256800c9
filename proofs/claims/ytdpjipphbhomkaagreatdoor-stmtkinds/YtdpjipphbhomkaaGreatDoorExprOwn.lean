/- A row of trees of a call's own (OwnF); one more tree behind it. -/
import Derived.Test.YtdpjipphbhomkaaGreatDoorExprMem
import Derived.Maps.AppendAt
namespace Go.Proofs.YtdpjipphbhomkaaGreatDoor.Line
open Go.ChangeShapes Go.WideShapes Go.ChangeAt Go.RowKit
open Ex (E St)
set_option linter.unusedVariables false

def treeC (y : E × Value) : List Value := [.int .i64 y.1.kind, .int .i64 y.1.n, .string ⟨y.1.name.toArray⟩, y.2]
def flatF (l : List (E × Value)) : List Value := l.flatMap treeC
theorem flatF_length (l : List (E × Value)) : (flatF l).length = l.length * 4 := by
  induction l with
  | nil => rfl
  | cons t l ih => show (treeC t ++ flatF l).length = _; rw [List.length_append, ih, List.length_cons]; show 4 + l.length * 4 = _; omega
theorem flatF_snoc (l : List (E × Value)) (t : E × Value) : flatF (l ++ [t]) = flatF l ++ treeC t := by simp [flatF]
theorem flatF_at (l : List (E × Value)) : ∀ (i : Nat) (h : i < l.length), (flatF l)[i * 4]? = some (.int .i64 l[i].1.kind) ∧ (flatF l)[i * 4 + 1]? = some (.int .i64 l[i].1.n) ∧ (flatF l)[i * 4 + 2]? = some (.string ⟨l[i].1.name.toArray⟩) ∧ (flatF l)[i * 4 + 3]? = some l[i].2 := by
  induction l with
  | nil => intro i h; simp at h
  | cons t l ih =>
    intro i h
    have e : flatF (t :: l) = .int .i64 t.1.kind :: .int .i64 t.1.n :: .string ⟨t.1.name.toArray⟩ :: t.2 :: flatF l := rfl
    cases i with
    | zero => rw [e]; exact ⟨rfl, rfl, rfl, rfl⟩
    | succ i =>
      have := ih i (by simpa using h)
      rw [e]
      rw [show (i + 1) * 4 = i * 4 + 4 by omega, show i * 4 + 4 + 1 = (i * 4 + 1) + 4 by omega, show i * 4 + 4 + 2 = (i * 4 + 2) + 4 by omega, show i * 4 + 4 + 3 = (i * 4 + 3) + 4 by omega]
      simpa using this
/-- trees in a row of a call's own; their parts lie in blocks of S, none in the row itself -/
structure OwnF (t : TypeId) (base : Nat) (w : World) (S : Nat → Prop) (v : Value) (l : List (E × Value)) : Prop where
  row : w.ownsRow base t 4 v l.length (flatF l)
  parts : ∀ y ∈ l, Forest w (fun b => S b ∧ some b ≠ v.ownBlock) y.1.a y.2
theorem OwnF.nil (t : TypeId) (base : Nat) (w : World) (S : Nat → Prop) : OwnF t base w S (.slice none 0 0) [] := ⟨World.ownsRow_nil _ _ _ _, fun y hy => by cases hy⟩
theorem OwnF.shape {t : TypeId} {base : Nat} {w : World} {S : Nat → Prop} {v : Value} {l : List (E × Value)} (h : OwnF t base w S v l) : ∃ a cap, v = .slice a l.length cap := by
  rcases h.row.2 with ⟨rfl, h5⟩ | ⟨g, cap, cur, rfl, _⟩
  · exact ⟨none, 0, by rw [h5]⟩
  · exact ⟨_, _, rfl⟩
theorem OwnF.forest {t : TypeId} {base : Nat} {w : World} {S : Nat → Prop} {v : Value} {l : List (E × Value)} (h : OwnF t base w S v l) (hS : ∀ k, v.ownBlock = some k → S k) : Forest w S (l.map (·.1)) v := by
  have h2' := h.row
  rcases h.row.2 with ⟨rfl, h5⟩ | ⟨g, cap, cur, rfl, hg, hh, hc, hm, r⟩
  · rw [List.length_eq_zero_iff.1 h5]; exact .nil _ _
  · have hlen : (l.map (·.1)).length = l.length := List.length_map ..
    rw [← hlen]
    refine .row _ g 0 cap (fun i => (l[i]?.map (·.2)).getD .nilIface) (hS g rfl) (by rw [hlen]; exact hc) hm (fun i hi => ?_) (fun i hi => ?_)
    · rw [hlen] at hi
      obtain ⟨f0, f1, f2, f3⟩ := flatF_at l i hi
      have c0 := World.ownsRow.cellAt h2' (i * 4) (by omega)
      have c1 := World.ownsRow.cellAt h2' (i * 4 + 1) (by omega)
      have c2 := World.ownsRow.cellAt h2' (i * 4 + 2) (by omega)
      have c3 := World.ownsRow.cellAt h2' (i * 4 + 3) (by omega)
      simp only [Nat.zero_add, List.getElem_map, List.getElem?_eq_getElem hi, Option.map_some, Option.getD_some]
      exact ⟨c0.trans f0, c1.trans f1, c2.trans f2, c3.trans f3⟩
    · rw [hlen] at hi
      simp only [List.getElem_map, List.getElem?_eq_getElem hi, Option.map_some, Option.getD_some]
      exact (h.parts _ (List.getElem_mem hi)).mono (fun b hs _ => hs.1)
theorem OwnF.keep {t : TypeId} {base : Nat} {w w' : World} {S S' : Nat → Prop} {v : Value} {l : List (E × Value)} (h : OwnF t base w S v l) (hr : ∀ k, v.ownBlock = some k → w'.heap[k]? = w.heap[k]?) (hk : ∀ b, S b → b < w.heap.size → w'.heap[b]? = w.heap[b]?) (hs : ∀ b, S b → b < w.heap.size → S' b) : OwnF t base w' S' v l := by
  refine ⟨⟨h.row.1, ?_⟩, fun y hy => (h.parts y hy).keep (fun b hb hl => hk b hb.1 hl) (fun b hb hl => ⟨hs b hb.1 hl, hb.2⟩)⟩
  rcases h.row.2 with h2 | ⟨g, cap, cur, hv, hg, hh, r⟩
  · exact .inl h2
  · refine .inr ⟨g, cap, cur, hv, hg, ?_, r⟩
    rw [hr g (by rw [hv]; rfl)]
    exact hh
theorem OwnF.old {t : TypeId} {base : Nat} {w w' : World} {S : Nat → Prop} {v : Value} {l : List (E × Value)} (h : OwnF t base w S v l) (hb : Below w.heap.size w w') : OwnF t base w' S v l := h.keep (fun k hk => hb.block k (h.row.lt k hk).2) (fun b _ hl => hb.block b hl) (fun _ h _ => h)
theorem OwnF.but {t : TypeId} {base rb : Nat} {w w' : World} {S : Nat → Prop} {v : Value} {l : List (E × Value)} (h : OwnF t base w S v l) (hb : But rb w w') (hS : ∀ b, S b → b ≠ rb) (hv : v.ownBlock ≠ some rb) : OwnF t base w' S v l := h.keep (fun k hk => hb.block k (h.row.lt k hk).2 (fun e => hv (by rw [hk, ← e]))) (fun b hs hl => hb.block b hl (fun e => hS b hs (by injection e))) (fun _ h _ => h)
/-- one tree alone, in a new row -/
theorem ownF_one {t : TypeId} {base : Nat} {w : World} {S : Nat → Prop} {x : E} {sx : Value} (hx : Forest w S x.a sx) (hb : base ≤ w.heap.size) : OwnF t base (w.alloc (.cells #[.int .i64 x.kind, .int .i64 x.n, .string ⟨x.name.toArray⟩, sx] t)) S (.slice (some ⟨w.heap.size, 0, none⟩) 1 1) [(x, sx)] := by
  refine ⟨World.ownsRow_lit w #[.int .i64 x.kind, .int .i64 x.n, .string ⟨x.name.toArray⟩, sx] 1 hb (by decide) rfl, fun y hy => ?_⟩
  rw [List.mem_singleton.1 hy]
  exact (hx.mono (S' := fun b => S b ∧ some b ≠ Value.ownBlock (.slice (some ⟨w.heap.size, 0, none⟩) 1 1)) (fun b hs hl => ⟨hs, fun e => by simp [Value.ownBlock] at e; omega⟩)).old (alloc_below _ _)
/-- one tree more -/
theorem append_tree {t st : TypeId} (hinfo : (Tryz.prog.info? t).map (fun i => (i.zero, i.size, i.bytes)) = some (some (.agg #[.int .i64 0, .int .i64 0, .string ⟨#[]⟩, .slice none 0 0]), 4, 56)) (hund : Tryz.prog.underlying st = some (.slice t))
    {base : Nat} {w : World} {S : Nat → Prop} {v : Value} {l : List (E × Value)} (hs : OwnF t base w S v l) {x : E} {sx : Value} (hx : Forest w (fun b => S b ∧ some b ≠ v.ownBlock) x.a sx) (hb : base ≤ w.heap.size) (hl : l.length + 1 ≤ 1000000) :
    ∃ v' w', (Builtin.append_ #[st, st] st #[v, .slice (some ⟨w.heap.size, 0, none⟩) 1 1]).run Tryz.prog (w.alloc (.cells #[.int .i64 x.kind, .int .i64 x.n, .string ⟨x.name.toArray⟩, sx] t)) = .ok v' w' ∧ OwnF t base w' S v' (l ++ [(x, sx)]) ∧ (w.alloc (.cells #[.int .i64 x.kind, .int .i64 x.n, .string ⟨x.name.toArray⟩, sx] t)).grownBy w' v.ownBlock ∧ (v'.ownBlock = v.ownBlock ∨ v'.ownBlock = some (w.heap.size + 1)) := by
  obtain ⟨i0, hi, hz0, hz1, hz2⟩ := info_parts hinfo
  obtain ⟨sa, sc, rfl⟩ := hx.shape
  obtain ⟨v', w', hr, ho, hgr, _, hat⟩ := run_append_own_at (P := Tryz.prog) (w.alloc (.cells #[.int .i64 x.kind, .int .i64 x.n, .string ⟨x.name.toArray⟩, .slice sa x.a.length sc] t)) base st st t i0 _ 4 56 hund hi hz0 hz1 hz2 rfl (by decide) v l.length (flatF l) (World.ownsRow.alloc hs.row _) ⟨w.heap.size, 0, none⟩ 1 1 (treeC (x, .slice sa x.a.length sc)) rfl
    (World.news_of_block (cs := #[.int .i64 x.kind, .int .i64 x.n, .string ⟨x.name.toArray⟩, .slice sa x.a.length sc]) (t := t) (fr := (0, 0)) (by show (w.heap.push _)[w.heap.size]? = _; exact Array.getElem?_push_size))
    (by intro u hu; simp [treeC] at hu; rcases hu with rfl | rfl | rfl | rfl <;> rfl) (by unfold maxLen; omega) (by omega) (by simp; omega)
  have hsz : (w.alloc (.cells #[.int .i64 x.kind, .int .i64 x.n, .string ⟨x.name.toArray⟩, .slice sa x.a.length sc] t)).heap.size = w.heap.size + 1 := by simp
  rw [hsz] at hat
  refine ⟨v', w', hr, ⟨by rw [flatF_snoc, List.length_append]; exact ho, fun y hy => ?_⟩, hgr, hat⟩
  have hF : ∀ y : E × Value, Forest w (fun b => S b ∧ some b ≠ v.ownBlock) y.1.a y.2 → Forest w' (fun b => S b ∧ some b ≠ v'.ownBlock) y.1.a y.2 := fun y hf => by
    refine hf.keep (fun b hb hl => ?_) (fun b hb hl => ⟨hb.1, ?_⟩)
    · exact (hgr.block b (by rw [hsz]; omega) hb.2).trans ((alloc_below w _).block b hl)
    · rcases hat with e | e
      · rw [e]; exact hb.2
      · rw [e]; intro e2; injection e2 with e2; omega
  rcases List.mem_append.1 hy with h | h
  · exact hF y (hs.parts y h)
  · rw [List.mem_singleton.1 h]; exact hF (x, _) hx
end Go.Proofs.YtdpjipphbhomkaaGreatDoor.Line
