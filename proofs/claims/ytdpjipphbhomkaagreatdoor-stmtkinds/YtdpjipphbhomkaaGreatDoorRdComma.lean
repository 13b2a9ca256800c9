/- The contract of the project's reader: comma. -/
import Derived.Test.YtdpjipphbhomkaaGreatDoorRdNest
namespace Go.Proofs.YtdpjipphbhomkaaGreatDoor.Line
open Go.ChangeShapes Go.WideShapes Go.ChangeAt Go.RowKit
open Ex (E St)
set_option linter.unusedVariables false

theorem set_last (xs : List Value) (n : Nat) (hx : xs.length = n * 4) (y : E) (yv u : Value) : (xs ++ treeC (y, yv)).set (n * 4 + 3) u = xs ++ [.int .i64 y.kind, .int .i64 y.n, .string ⟨y.name.toArray⟩, u] := by
  rw [← hx]
  simp [treeC]
theorem ownsRow_keep {w w' : World} {base n : Nat} {v : Value} {xs : List Value} (h : w.ownsRow base PET 4 v n xs) (hb : ∀ k, v.ownBlock = some k → w'.heap[k]? = w.heap[k]?) : w'.ownsRow base PET 4 v n xs := by
  refine ⟨h.1, ?_⟩
  rcases h.2 with h2 | ⟨g, cap, cur, hv, hg, hh, r⟩
  · exact .inl h2
  · refine .inr ⟨g, cap, cur, hv, hg, ?_, r⟩
    rw [hb g (by rw [hv]; rfl)]
    exact hh
set_option maxHeartbeats 2000000 in
/-- a subscript more: in whichever order it is stored -/
theorem comma_mem {w W : World} {base rb z g cap m : Nat} {X : Nat → Prop} {L : Value} {pos d : Nat} {K ps : List (E × Value)} {hi : Nat} {y x : E} {yv sx : Value} (h : Rd w base rb X L pos d (.slice (some ⟨g, 0, none⟩) (K.length + 1) cap) ((y, yv) :: K) hi)
    (hx : Forest w (fun b => hi ≤ b ∧ ¬ (some b = some g ∨ X b)) x.a sx) (hya : y.a = ps.map (·.1)) (hyp : OwnF PET m w (fun b => m ≤ b ∧ b < hi ∧ ¬ (some b = some g ∨ X b)) yv ps) (hyb : ∀ k, yv.ownBlock = some k → k < hi ∧ ¬ (some k = some g ∨ X k)) (hstk : Stk w (fun b => some b = some g ∨ X b) base K m) (hm : m ≤ hi)
    (hW : Below w.heap.size w W) (hz : W.heap[z]? = some (.cells zeroE PET (0, 0))) (hal : y.a.length ≤ 2) :
    ∃ h9 c9 w9, (Builtin.append_ #[PES, PES] PES #[yv, .slice (some ⟨z, 0, none⟩) 1 1]).run Tryz.prog W = .ok (.slice (some ⟨h9, 0, none⟩) (ps.length + 1) c9) w9 ∧ ¬ g = h9 ∧ ¬ h9 = g ∧ w9.cell? ⟨g, K.length * 4 + 3, none⟩ = some yv ∧ w9.frozen? ⟨g, K.length * 4 + 3, none⟩ = false ∧
      (w9.cell? ⟨h9, ps.length * 4, none⟩ = some (.int .i64 0) ∧ w9.cell? ⟨h9, ps.length * 4 + 1, none⟩ = some (.int .i64 0) ∧ w9.cell? ⟨h9, ps.length * 4 + 2, none⟩ = some (.string ⟨#[]⟩) ∧ w9.cell? ⟨h9, ps.length * 4 + 3, none⟩ = some (.slice none 0 0)) ∧ (∀ o, w9.frozen? ⟨h9, o, none⟩ = false) ∧
      (∀ Wf, (Wf = (((((w9.setCell ⟨h9, ps.length * 4, none⟩ (.int .i64 x.kind)).setCell ⟨h9, ps.length * 4 + 1, none⟩ (.int .i64 x.n)).setCell ⟨h9, ps.length * 4 + 2, none⟩ (.string ⟨x.name.toArray⟩)).setCell ⟨h9, ps.length * 4 + 3, none⟩ sx).setCell ⟨g, K.length * 4 + 3, none⟩ (.slice (some ⟨h9, 0, none⟩) (ps.length + 1) c9)) ∨
        Wf = (((((w9.setCell ⟨g, K.length * 4 + 3, none⟩ (.slice (some ⟨h9, 0, none⟩) (ps.length + 1) c9)).setCell ⟨h9, ps.length * 4, none⟩ (.int .i64 x.kind)).setCell ⟨h9, ps.length * 4 + 1, none⟩ (.int .i64 x.n)).setCell ⟨h9, ps.length * 4 + 2, none⟩ (.string ⟨x.name.toArray⟩)).setCell ⟨h9, ps.length * 4 + 3, none⟩ sx)) →
        Rd Wf base rb X L pos d (.slice (some ⟨g, 0, none⟩) (K.length + 1) cap) ((y.plus x, .slice (some ⟨h9, 0, none⟩) (ps.length + 1) c9) :: K) Wf.heap.size ∧ Kept rb base X w Wf) := by
  have hrow := h.row
  have hlt := h.lt
  have hbs := h.bs
  have hxl := h.xl
  have hhi := h.hi_le
  have hbm := hstk.le
  have hgb := h.row.lt g rfl
  rw [List.length_cons, flatF_last] at hrow
  have hWs := hW.size
  have hrowY : W.ownsRow m PET 4 yv ps.length (flatF ps) := ownsRow_keep hyp.row (fun k hk => hW.block k (by have := (hyb k hk).1; omega))
  have hpl : ps.length ≤ 2 := by rw [hya, List.length_map] at hal; exact hal
  obtain ⟨h9, c9, w9, hr9, ho9, hg9, hat9⟩ := room_mem hrowY hz (by omega) (by omega)
  have hs9 := hg9.size
  have hgy : some g ≠ yv.ownBlock := fun e => (hyb g e.symm).2 (.inl rfl)
  have hne9 : ¬ g = h9 := fun e => by
    rcases hat9 with e2 | e2
    · exact hgy (by rw [e, e2])
    · omega
  have hry : some rb ≠ yv.ownBlock := fun e => by have := (hyp.row.lt rb e.symm).1; omega
  have hr9' : ¬ rb = h9 := fun e => by
    rcases hat9 with e2 | e2
    · exact hry (by rw [e, e2])
    · omega
  have h9w : ∀ b, b < w.heap.size → some b ≠ yv.ownBlock → w9.heap[b]? = w.heap[b]? := fun b hb hne => (hg9.block b (by omega) hne).trans (hW.block b hb)
  have hrow9 : w9.ownsRow base PET 4 (.slice (some ⟨g, 0, none⟩) (K.length + 1) cap) (K.length + 1) (flatF K.reverse ++ treeC (y, yv)) := ownsRow_keep hrow (fun k hk => by
    have : g = k := Option.some.inj hk
    subst this
    exact h9w g hgb.2 hgy)
  have hn4 : (flatF K.reverse).length = K.length * 4 := by rw [flatF_length, List.length_reverse]
  have hp4 : (flatF ps).length = ps.length * 4 := flatF_length ps
  have hcell : ∀ j, j < 4 → w9.cell? ⟨h9, ps.length * 4 + j, none⟩ = zeroL[j]? := fun j hj => by
    rw [World.ownsRow.cellAt ho9 _ (by omega), List.getElem?_append_right (by omega), hp4, Nat.add_sub_cancel_left]
  have hgc : w9.cell? ⟨g, K.length * 4 + 3, none⟩ = some yv := by
    rw [World.ownsRow.cellAt hrow9 _ (by omega), List.getElem?_append_right (by omega), hn4, Nat.add_sub_cancel_left]
    rfl
  refine ⟨h9, c9, w9, hr9, hne9, fun e => hne9 e.symm, hgc, World.ownsRow.frozenAt hrow9 _, ⟨hcell 0 (by omega), hcell 1 (by omega), hcell 2 (by omega), hcell 3 (by omega)⟩, fun o => World.ownsRow.frozenAt ho9 o, ?_⟩
  intro Wf hWf
  have main : Wf.os = w9.os ∧ Wf.tape = w9.tape ∧ Wf.output = w9.output ∧ Wf.heap.size = w9.heap.size ∧ (∀ b, b ≠ g → b ≠ h9 → Wf.heap[b]? = w9.heap[b]?) ∧ Wf.ownsRow m PET 4 (.slice (some ⟨h9, 0, none⟩) (ps.length + 1) c9) (ps.length + 1) (flatF ps ++ treeC (x, sx)) ∧ Wf.ownsRow base PET 4 (.slice (some ⟨g, 0, none⟩) (K.length + 1) cap) (K.length + 1) (flatF K.reverse ++ [.int .i64 y.kind, .int .i64 y.n, .string ⟨y.name.toArray⟩, .slice (some ⟨h9, 0, none⟩) (ps.length + 1) c9]) := by
    rcases hWf with rfl | rfl
    · have hb4 : ∀ b, b ≠ h9 → ((((w9.setCell ⟨h9, ps.length * 4, none⟩ (.int .i64 x.kind)).setCell ⟨h9, ps.length * 4 + 1, none⟩ (.int .i64 x.n)).setCell ⟨h9, ps.length * 4 + 2, none⟩ (.string ⟨x.name.toArray⟩)).setCell ⟨h9, ps.length * 4 + 3, none⟩ sx).heap[b]? = w9.heap[b]? := fun b hb => heap_set4o _ _ _ _ _ _ _ _ _ _ _ hb
      have hrow4 := ownsRow_set4 ho9 hp4 x sx
      have hrowg := ownsRow_keep hrow9 (w' := ((((w9.setCell ⟨h9, ps.length * 4, none⟩ (.int .i64 x.kind)).setCell ⟨h9, ps.length * 4 + 1, none⟩ (.int .i64 x.n)).setCell ⟨h9, ps.length * 4 + 2, none⟩ (.string ⟨x.name.toArray⟩)).setCell ⟨h9, ps.length * 4 + 3, none⟩ sx)) (fun k hk => hb4 k (fun e => hne9 ((Option.some.inj hk).trans e)))
      have hrowg2 := (hrowg.stored (K.length * 4 + 3) (.slice (some ⟨h9, 0, none⟩) (ps.length + 1) c9)).1
      rw [set_last _ _ hn4] at hrowg2
      exact ⟨rfl, rfl, rfl, (size_set1 _ _ _).trans (size_set4o _ _ _ _ _ _ _ _ _ _), fun b h1 h2 => (Below.heap_setCell _ _ _ _ (show b ≠ g from h1)).trans (hb4 b h2), ownsRow_set_other (m := 0) hrow4 ⟨g, K.length * 4 + 3, none⟩ hne9 _, hrowg2⟩
    · have hro := ownsRow_set_other (m := 0) ho9 ⟨g, K.length * 4 + 3, none⟩ hne9 (.slice (some ⟨h9, 0, none⟩) (ps.length + 1) c9)
      have hbo : ∀ b, b ≠ g → (w9.setCell ⟨g, K.length * 4 + 3, none⟩ (.slice (some ⟨h9, 0, none⟩) (ps.length + 1) c9)).heap[b]? = w9.heap[b]? := fun b h1 => Below.heap_setCell _ _ _ _ (show b ≠ g from h1)
      have hrowg := (hrow9.stored (K.length * 4 + 3) (.slice (some ⟨h9, 0, none⟩) (ps.length + 1) c9)).1
      rw [set_last _ _ hn4] at hrowg
      refine ⟨rfl, rfl, rfl, (size_set4o _ _ _ _ _ _ _ _ _ _).trans (size_set1 _ _ _), fun b h1 h2 => (heap_set4o _ _ _ _ _ _ _ _ _ _ _ h2).trans (hbo b h1), ownsRow_set4 hro hp4 x sx, ownsRow_keep hrowg (fun k hk => heap_set4o _ _ _ _ _ _ _ _ _ _ _ (fun e => hne9 ((Option.some.inj hk).trans e)))⟩
  clear hWf
  obtain ⟨f1, f2, f3, fs, fb, frow, fg⟩ := main
  have hnew : ∀ b, b < w.heap.size → some b ≠ yv.ownBlock → ¬ b = h9 := fun b hb hne e => by
    rcases hat9 with e2 | e2
    · exact hne (by rw [e, e2])
    · omega
  have hfw : ∀ b, b < w.heap.size → b ≠ g → some b ≠ yv.ownBlock → Wf.heap[b]? = w.heap[b]? := fun b hb h1 h2 => (fb b h1 (hnew b hb h2)).trans (h9w b hb h2)
  have hXh : ¬ (some h9 = some g ∨ X h9) := fun e => by
    rcases e with e | e
    · exact hne9 (Option.some.inj e).symm
    · rcases hat9 with e2 | e2
      · exact (hyb h9 e2.symm).2 (.inr e)
      · have := hxl h9 e; omega
  have hrr := hfw rb (by omega) (by omega) hry
  have hc : ∀ o, Wf.cell? ⟨rb, o, none⟩ = w.cell? ⟨rb, o, none⟩ := fun o => World.cell?_of_block (a := ⟨rb, o, none⟩) hrr
  have hF : ∀ (t : E × Value), Forest w (fun b => m ≤ b ∧ ¬ (some b = some g ∨ X b) ∧ some b ≠ yv.ownBlock) t.1.a t.2 → Forest Wf (fun b => (m ≤ b ∧ b < Wf.heap.size ∧ ¬ (some b = some g ∨ X b)) ∧ some b ≠ Value.ownBlock (.slice (some ⟨h9, 0, none⟩) (ps.length + 1) c9)) t.1.a t.2 := fun t ht => ht.keep (fun b hs hl => hfw b hl (fun e => hs.2.1 (.inl (by rw [e]))) hs.2.2) (fun b hs hl => ⟨⟨hs.1, by omega, hs.2.1⟩, fun e => hnew b hl hs.2.2 (Option.some.inj (show some b = some h9 from e))⟩)
  refine ⟨⟨(hc 0).trans h.c0, (hc 1).trans h.c1, (hc 2).trans h.c2, (hc 3).trans h.c3, fun o => (World.frozen?_of_block (a := ⟨rb, o, none⟩) hrr).trans (h.fr o), hlt, by omega, by rw [List.length_cons, flatF_last]; exact fg, h.gx, ?_, Nat.le_refl _, fun b hb => by have := hxl b hb; omega, h.dp, h.kl, ?_⟩, ?_⟩
  · refine .cons (y.plus x, _) (ps ++ [(x, sx)]) K m _ (hstk.keep (fun b h1 h2 h3 => hfw b (by omega) (fun e => h3 (.inl (by rw [e]))) (fun e => by have := (hyp.row.lt b e.symm).1; omega)) (fun _ _ _ k => k) (Nat.le_refl _)) (by omega) ?_ ⟨?_, ?_⟩ ?_
    · show y.a ++ [x] = _
      rw [hya, List.map_append]
      rfl
    · rw [flatF_snoc, List.length_append]
      exact frow
    · intro t ht
      rcases List.mem_append.1 ht with ht | ht
      · exact hF t ((hyp.parts t ht).mono (fun b hs _ => ⟨hs.1.1, hs.1.2.2, hs.2⟩))
      · rw [List.mem_singleton.1 ht]
        exact hF (x, sx) (hx.mono (fun b hs _ => ⟨by omega, hs.2, fun e => by have := (hyb b e.symm).1; omega⟩))
    · intro k hk
      have : h9 = k := Option.some.inj hk
      subst this
      exact ⟨(frow.lt h9 rfl).2, hXh⟩
  · intro t ht
    rcases List.mem_cons.1 ht with rfl | ht
    · show (y.a ++ [x]).length ≤ 3
      rw [List.length_append, List.length_singleton]
      omega
    · exact h.al t (List.mem_cons_of_mem _ ht)
  · refine ⟨f1.trans (hg9.os.trans hW.os), f2.trans (hg9.tape.trans hW.tape), f3.trans (hg9.output.trans hW.output), by omega, fun b hb h1 h2 => hfw b hb (fun e => ?_) (fun e => ?_)⟩
    · rcases h2 with h2 | h2
      · omega
      · exact h.gx g rfl (e ▸ h2)
    · rcases h2 with h2 | h2
      · have := (hyp.row.lt b e.symm).1; omega
      · exact (hyb b e.symm).2 (.inr h2)
end Go.Proofs.YtdpjipphbhomkaaGreatDoor.Line
