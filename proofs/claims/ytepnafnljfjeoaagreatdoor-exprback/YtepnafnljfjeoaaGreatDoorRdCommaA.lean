/- The contract of the project's reader: comma.
   The contract of the project's reader: comma. -/
import Derived.Test.YtepnafnljfjeoaaGreatDoorRdPushA
namespace Go.Proofs.YtepnafnljfjeoaaGreatDoor.Line
open Go.ChangeShapes Go.WideShapes Go.ChangeAt Go.RowKit
open Ex (E St)
set_option linter.unusedVariables false

theorem set_last (xs : List Value) (n : Nat) (hx : xs.length = n * 4) (y : E) (yv u : Value) : (xs ++ treeC (y, yv)).set (n * 4 + 3) u = xs ++ [.int .i64 y.kind, .int .i64 y.n, .string ⟨y.name.toArray⟩, u] := by
  rw [← hx]
  simp [treeC]
theorem ownsRow_keep {w w' : World} {base n : Nat} {v : Value} {xs : List Value} (h : w.ownsRow base PET 4 v n xs) (hb : ∀ k, v.ownBlock = some k → w'.heap[k]? = w.heap[k]?) : w'.ownsRow base PET 4 v n xs := by
  refine ⟨h.1, ?_⟩
  rcases h.2 with h2 | ⟨g, cap, cur, hv, hg, hh, r⟩
  · exact .inl h2
  · refine .inr ⟨g, cap, cur, hv, hg, ?_, r⟩
    rw [hb g (by rw [hv]; rfl)]
    exact hh
set_option maxHeartbeats 2000000 in
/-- a subscript more: in whichever order it is stored -/
theorem comma_mem {w W : World} {base rb z g cap m : Nat} {X : Nat → Prop} {L : Value} {pos d : Nat} {K ps : List (E × Value)} {hi : Nat} {y x : E} {yv sx : Value} (h : Rd w base rb X L pos d (.slice (some ⟨g, 0, none⟩) (K.length + 1) cap) ((y, yv) :: K) hi)
    (hx : Forest w (fun b => hi ≤ b ∧ ¬ (some b = some g ∨ X b)) x.a sx) (hya : y.a = ps.map (·.1)) (hyp : OwnF PET m w (fun b => m ≤ b ∧ b < hi ∧ ¬ (some b = some g ∨ X b)) yv ps) (hyb : ∀ k, yv.ownBlock = some k → k < hi ∧ ¬ (some k = some g ∨ X k)) (hstk : Stk w (fun b => some b = some g ∨ X b) base K m) (hm : m ≤ hi)
    (hW : Below w.heap.size w W) (hz : W.heap[z]? = some (.cells zeroE PET (0, 0))) (hal : y.a.length ≤ 2) :
    ∃ h9 c9 w9, (Builtin.append_ #[PES, PES] PES #[yv, .slice (some ⟨z, 0, none⟩) 1 1]).run Tryz.prog W = .ok (.slice (some ⟨h9, 0, none⟩) (ps.length + 1) c9) w9 ∧ ¬ g = h9 ∧ ¬ h9 = g ∧ w9.cell? ⟨g, K.length * 4 + 3, none⟩ = some yv ∧ w9.frozen? ⟨g, K.length * 4 + 3, none⟩ = false ∧
      (w9.cell? ⟨h9, ps.length * 4, none⟩ = some (.int .i64 0) ∧ w9.cell? ⟨h9, ps.length * 4 + 1, none⟩ = some (.int .i64 0) ∧ w9.cell? ⟨h9, ps.length * 4 + 2, none⟩ = some (.string ⟨#[]⟩) ∧ w9.cell? ⟨h9, ps.length * 4 + 3, none⟩ = some (.slice none 0 0)) ∧ (∀ o, w9.frozen? ⟨h9, o, none⟩ = false) ∧
      (∀ Wf, (Wf = (((((w9.setCell ⟨h9, ps.length * 4, none⟩ (.int .i64 x.kind)).setCell ⟨h9, ps.length * 4 + 1, none⟩ (.int .i64 x.n)).setCell ⟨h9, ps.length * 4 + 2, none⟩ (.string ⟨x.name.toArray⟩)).setCell ⟨h9, ps.length * 4 + 3, none⟩ sx).setCell ⟨g, K.length * 4 + 3, none⟩ (.slice (some ⟨h9, 0, none⟩) (ps.length + 1) c9)) ∨
        Wf = (((((w9.setCell ⟨g, K.length * 4 + 3, none⟩ (.slice (some ⟨h9, 0, none⟩) (ps.length + 1) c9)).setCell ⟨h9, ps.length * 4, none⟩ (.int .i64 x.kind)).setCell ⟨h9, ps.length * 4 + 1, none⟩ (.int .i64 x.n)).setCell ⟨h9, ps.length * 4 + 2, none⟩ (.string ⟨x.name.toArray⟩)).setCell ⟨h9, ps.length * 4 + 3, none⟩ sx)) →
        Rd Wf base rb X L pos d (.slice (some ⟨g, 0, none⟩) (K.length + 1) cap) ((y.plus x, .slice (some ⟨h9, 0, none⟩) (ps.length + 1) c9) :: K) Wf.heap.size ∧ Kept rb base X w Wf) := by
  have hrow := h.row
  have hlt := h.lt
  have hbs := h.bs
  have hxl := h.xl
  have hhi := h.hi_le
  have hbm := hstk.le
  have hgb := h.row.lt g rfl
  rw [List.length_cons, flatF_last] at hrow
  have hWs := hW.size
  have hrowY : W.ownsRow m PET 4 yv ps.length (flatF ps) := ownsRow_keep hyp.row (fun k hk => hW.block k (by have := (hyb k hk).1; omega))
  have hpl : ps.length ≤ 2 := by rw [hya, List.length_map] at hal; exact hal
  obtain ⟨h9, c9, w9, hr9, ho9, hg9, hat9⟩ := room_mem hrowY hz (by omega) (by omega)
  have hs9 := hg9.size
  have hgy : some g ≠ yv.ownBlock := fun e => (hyb g e.symm).2 (.inl rfl)
  have hne9 : ¬ g = h9 := fun e => by
    rcases hat9 with e2 | e2
    · exact hgy (by rw [e, e2])
    · omega
  have hry : some rb ≠ yv.ownBlock := fun e => by have := (hyp.row.lt rb e.symm).1; omega
  have hr9' : ¬ rb = h9 := fun e => by
    rcases hat9 with e2 | e2
    · exact hry (by rw [e, e2])
    · omega
  have h9w : ∀ b, b < w.heap.size → some b ≠ yv.ownBlock → w9.heap[b]? = w.heap[b]? := fun b hb hne => (hg9.block b (by omega) hne).trans (hW.block b hb)
  have hrow9 : w9.ownsRow base PET 4 (.slice (some ⟨g, 0, none⟩) (K.length + 1) cap) (K.length + 1) (flatF K.reverse ++ treeC (y, yv)) := ownsRow_keep hrow (fun k hk => by
    have : g = k := Option.some.inj hk
    subst this
    exact h9w g hgb.2 hgy)
  have hn4 : (flatF K.reverse).length = K.length * 4 := by rw [flatF_length, List.length_reverse]
  have hp4 : (flatF ps).length = ps.length * 4 := flatF_length ps
  have hcell : ∀ j, j < 4 → w9.cell? ⟨h9, ps.length * 4 + j, none⟩ = zeroL[j]? := fun j hj => by
    rw [World.ownsRow.cellAt ho9 _ (by omega), List.getElem?_append_right (by omega), hp4, Nat.add_sub_cancel_left]
  have hgc : w9.cell? ⟨g, K.length * 4 + 3, none⟩ = some yv := by
    rw [World.ownsRow.cellAt hrow9 _ (by omega), List.getElem?_append_right (by omega), hn4, Nat.add_sub_cancel_left]
    rfl
  refine ⟨h9, c9, w9, hr9, hne9, fun e => hne9 e.symm, hgc, World.ownsRow.frozenAt hrow9 _, ⟨hcell 0 (by omega), hcell 1 (by omega), hcell 2 (by omega), hcell 3 (by omega)⟩, fun o => World.ownsRow.frozenAt ho9 o, ?_⟩
  intro Wf hWf
  have main : Wf.os = w9.os ∧ Wf.tape = w9.tape ∧ Wf.output = w9.output ∧ Wf.heap.size = w9.heap.size ∧ (∀ b, b ≠ g → b ≠ h9 → Wf.heap[b]? = w9.heap[b]?) ∧ Wf.ownsRow m PET 4 (.slice (some ⟨h9, 0, none⟩) (ps.length + 1) c9) (ps.length + 1) (flatF ps ++ treeC (x, sx)) ∧ Wf.ownsRow base PET 4 (.slice (some ⟨g, 0, none⟩) (K.length + 1) cap) (K.length + 1) (flatF K.reverse ++ [.int .i64 y.kind, .int .i64 y.n, .string ⟨y.name.toArray⟩, .slice (some ⟨h9, 0, none⟩) (ps.length + 1) c9]) := by
    rcases hWf with rfl | rfl
    · have hb4 : ∀ b, b ≠ h9 → ((((w9.setCell ⟨h9, ps.length * 4, none⟩ (.int .i64 x.kind)).setCell ⟨h9, ps.length * 4 + 1, none⟩ (.int .i64 x.n)).setCell ⟨h9, ps.length * 4 + 2, none⟩ (.string ⟨x.name.toArray⟩)).setCell ⟨h9, ps.length * 4 + 3, none⟩ sx).heap[b]? = w9.heap[b]? := fun b hb => heap_set4o _ _ _ _ _ _ _ _ _ _ _ hb
      have hrow4 := ownsRow_set4 ho9 hp4 x sx
      have hrowg := ownsRow_keep hrow9 (w' := ((((w9.setCell ⟨h9, ps.length * 4, none⟩ (.int .i64 x.kind)).setCell ⟨h9, ps.length * 4 + 1, none⟩ (.int .i64 x.n)).setCell ⟨h9, ps.length * 4 + 2, none⟩ (.string ⟨x.name.toArray⟩)).setCell ⟨h9, ps.length * 4 + 3, none⟩ sx)) (fun k hk => hb4 k (fun e => hne9 ((Option.some.inj hk).trans e)))
      have hrowg2 := (hrowg.stored (K.length * 4 + 3) (.slice (some ⟨h9, 0, none⟩) (ps.length + 1) c9)).1
      rw [set_last _ _ hn4] at hrowg2
      exact ⟨rfl, rfl, rfl, (size_set1 _ _ _).trans (size_set4o _ _ _ _ _ _ _ _ _ _), fun b h1 h2 => (Below.heap_setCell _ _ _ _ (show b ≠ g from h1)).trans (hb4 b h2), ownsRow_set_other (m := 0) hrow4 ⟨g, K.length * 4 + 3, none⟩ hne9 _, hrowg2⟩
    · have hro := ownsRow_set_other (m := 0) ho9 ⟨g, K.length * 4 + 3, none⟩ hne9 (.slice (some ⟨h9, 0, none⟩) (ps.length + 1) c9)
      have hbo : ∀ b, b ≠ g → (w9.setCell ⟨g, K.length * 4 + 3, none⟩ (.slice (some ⟨h9, 0, none⟩) (ps.length + 1) c9)).heap[b]? = w9.heap[b]? := fun b h1 => Below.heap_setCell _ _ _ _ (show b ≠ g from h1)
      have hrowg := (hrow9.stored (K.length * 4 + 3) (.slice (some ⟨h9, 0, none⟩) (ps.length + 1) c9)).1
      rw [set_last _ _ hn4] at hrowg
      refine ⟨rfl, rfl, rfl, (size_set4o _ _ _ _ _ _ _ _ _ _).trans (size_set1 _ _ _), fun b h1 h2 => (heap_set4o _ _ _ _ _ _ _ _ _ _ _ h2).trans (hbo b h1), ownsRow_set4 hro hp4 x sx, ownsRow_keep hrowg (fun k hk => heap_set4o _ _ _ _ _ _ _ _ _ _ _ (fun e => hne9 ((Option.some.inj hk).trans e)))⟩
  clear hWf
  obtain ⟨f1, f2, f3, fs, fb, frow, fg⟩ := main
  have hnew : ∀ b, b < w.heap.size → some b ≠ yv.ownBlock → ¬ b = h9 := fun b hb hne e => by
    rcases hat9 with e2 | e2
    · exact hne (by rw [e, e2])
    · omega
  have hfw : ∀ b, b < w.heap.size → b ≠ g → some b ≠ yv.ownBlock → Wf.heap[b]? = w.heap[b]? := fun b hb h1 h2 => (fb b h1 (hnew b hb h2)).trans (h9w b hb h2)
  have hXh : ¬ (some h9 = some g ∨ X h9) := fun e => by
    rcases e with e | e
    · exact hne9 (Option.some.inj e).symm
    · rcases hat9 with e2 | e2
      · exact (hyb h9 e2.symm).2 (.inr e)
      · have := hxl h9 e; omega
  have hrr := hfw rb (by omega) (by omega) hry
  have hc : ∀ o, Wf.cell? ⟨rb, o, none⟩ = w.cell? ⟨rb, o, none⟩ := fun o => World.cell?_of_block (a := ⟨rb, o, none⟩) hrr
  have hF : ∀ (t : E × Value), Forest w (fun b => m ≤ b ∧ ¬ (some b = some g ∨ X b) ∧ some b ≠ yv.ownBlock) t.1.a t.2 → Forest Wf (fun b => (m ≤ b ∧ b < Wf.heap.size ∧ ¬ (some b = some g ∨ X b)) ∧ some b ≠ Value.ownBlock (.slice (some ⟨h9, 0, none⟩) (ps.length + 1) c9)) t.1.a t.2 := fun t ht => ht.keep (fun b hs hl => hfw b hl (fun e => hs.2.1 (.inl (by rw [e]))) hs.2.2) (fun b hs hl => ⟨⟨hs.1, by omega, hs.2.1⟩, fun e => hnew b hl hs.2.2 (Option.some.inj (show some b = some h9 from e))⟩)
  refine ⟨⟨(hc 0).trans h.c0, (hc 1).trans h.c1, (hc 2).trans h.c2, (hc 3).trans h.c3, fun o => (World.frozen?_of_block (a := ⟨rb, o, none⟩) hrr).trans (h.fr o), hlt, by omega, by rw [List.length_cons, flatF_last]; exact fg, h.gx, ?_, Nat.le_refl _, fun b hb => by have := hxl b hb; omega, h.dp, h.kl, ?_⟩, ?_⟩
  · refine .cons (y.plus x, _) (ps ++ [(x, sx)]) K m _ (hstk.keep (fun b h1 h2 h3 => hfw b (by omega) (fun e => h3 (.inl (by rw [e]))) (fun e => by have := (hyp.row.lt b e.symm).1; omega)) (fun _ _ _ k => k) (Nat.le_refl _)) (by omega) ?_ ⟨?_, ?_⟩ ?_
    · show y.a ++ [x] = _
      rw [hya, List.map_append]
      rfl
    · rw [flatF_snoc, List.length_append]
      exact frow
    · intro t ht
      rcases List.mem_append.1 ht with ht | ht
      · exact hF t ((hyp.parts t ht).mono (fun b hs _ => ⟨hs.1.1, hs.1.2.2, hs.2⟩))
      · rw [List.mem_singleton.1 ht]
        exact hF (x, sx) (hx.mono (fun b hs _ => ⟨by omega, hs.2, fun e => by have := (hyb b e.symm).1; omega⟩))
    · intro k hk
      have : h9 = k := Option.some.inj hk
      subst this
      exact ⟨(frow.lt h9 rfl).2, hXh⟩
  · intro t ht
    rcases List.mem_cons.1 ht with rfl | ht
    · show (y.a ++ [x]).length ≤ 3
      rw [List.length_append, List.length_singleton]
      omega
    · exact h.al t (List.mem_cons_of_mem _ ht)
  · refine ⟨f1.trans (hg9.os.trans hW.os), f2.trans (hg9.tape.trans hW.tape), f3.trans (hg9.output.trans hW.output), by omega, fun b hb h1 h2 => hfw b hb (fun e => ?_) (fun e => ?_)⟩
    · rcases h2 with h2 | h2
      · omega
      · exact h.gx g rfl (e ▸ h2)
    · rcases h2 with h2 | h2
      · have := (hyp.row.lt b e.symm).1; omega
      · exact (hyb b e.symm).2 (.inr h2)
end Go.Proofs.YtepnafnljfjeoaaGreatDoor.Line

namespace Go.Proofs.YtepnafnljfjeoaaGreatDoor.Line
open Go.ChangeShapes Go.WideShapes Go.ChangeAt Go.RowKit
open Ex (E St)
set_option linter.unusedVariables false

theorem at_world {F : World → Prop} {Q : Exit → Act → World → Prop} {x : Exit} {a : Act} {W : World} (h : F W) (k : ∀ W, F W → Q x a W) : Q x a W := k W h
theorem Rd.moveI {w : World} {base rb : Nat} {X : Nat → Prop} {L : Value} {pos d : Nat} {v : Value} {K : List (E × Value)} {hi : Nat} (h : Rd w base rb X L pos d v K hi) : Rd (w.setCell ⟨rb, 1, none⟩ (.int .i64 ((pos : Int) + 1))) base rb X L (pos + 1) d v K hi := h.move 1
theorem Kept.rb {rb base : Nat} {X : Nat → Prop} {a w : World} (h : Kept rb base X a w) (o : Nat) (u : Value) : Kept rb base X a (w.setCell ⟨rb, o, none⟩ u) := h.by rfl rfl rfl (by simp [World.setCell]) (fun b _ hr _ => Below.heap_setCell _ _ _ _ (show b ≠ rb from hr))
def CommaPost (L : Value) (w : World) (base rb : Nat) (X : Nat → Prop) (p d : Nat) (y x : E) (K : List (E × Value)) (e : Ending) (w' : World) : Prop :=
  (y.kind ≠ 3 ∧ e = .returned (.iface 95 (.int .i64 2)) ∧ w'.cell? ⟨rb, 1, none⟩ = some (.int .i64 p) ∧ Kept rb base X w w') ∨
  (y.kind = 3 ∧ y.a.length + 1 = 4 ∧ e = .returned (.iface 95 (.int .i64 4)) ∧ w'.cell? ⟨rb, 1, none⟩ = some (.int .i64 p) ∧ Kept rb base X w w') ∨
  (y.kind = 3 ∧ y.a.length + 1 ≠ 4 ∧ e = .returned .nilIface ∧ ∃ v' yv' hi', Rd w' base rb X L (p + 1) d v' ((y.plus x, yv') :: K) hi' ∧ Kept rb base X w w')
set_option maxHeartbeats 8000000 in
set_option maxRecDepth 100000 in
theorem comma_any (L : Value) (w : World) (base rb : Nat) (X : Nat → Prop) (p d : Nat) (v : Value) (y : E × Value) (K : List (E × Value)) (hi : Nat) (x : E) (sx : Value) (hR : Rd w base rb X L p d v (y :: K) hi) (hx : Forest w (fun b => hi ≤ b ∧ ¬ (some b = v.ownBlock ∨ X b)) x.a sx) (hp1 : p ≤ 1000000) :
    Calls Tryz.prog 79 #[.pointer (some ⟨rb, 0, none⟩), treeV x sx] w fun e w' => CommaPost L w base rb X p d y.1 x K e w' := by
  obtain ⟨y, yv⟩ := y
  obtain ⟨g, cap, m, ps, rfl, hcap, hmax, hg1, hg2, hgX, ⟨t0, t1, t2, t3⟩, htf, hmh, hbm, hya, hyp, hyb, hstk⟩ := hR.top
  have hal := hR.al _ List.mem_cons_self
  have hkl := hR.kl
  have hrl : rb < w.heap.size := by have := hR.lt; have := hR.bs; omega
  obtain ⟨xa, xc, hsx⟩ := hx.shape
  obtain ⟨ya, yc, hyv⟩ := hyp.shape
  dsimp only at t0 t1 t2 t3 hyv hal hya hyp hyb ⊢
  have hpl : ps.length = y.a.length := by rw [hya, List.length_map]
  subst hsx hyv
  simp only [List.length_cons] at hkl
  have h1 := hR.c1
  have h2 := hR.c2
  have f1 := hR.fr 1
  have f3 := htf (K.length * 4 + 3)
  have hcap2 : (K.length : Int) + 1 ≤ cap := by omega
  have HAB : Hid (∀ n, Below w.heap.size w ((w.alloc (.cells #[.int .i64 x.kind, .int .i64 x.n, .string ⟨x.name.toArray⟩, .slice xa x.a.length xc] PET)).drewN n)) := hide (fun n => below_drewN (alloc_below w _) n)
  by_cases k3 : y.kind = 3
  · rw [k3] at t0
    by_cases k4 : y.a.length + 1 = 4
    · have hpl3 : (ps.length : Int) = 3 := by omega
      have hpl3n : ps.length = 3 := by omega
      rw [hpl3n] at t3
      have HFI : Hid (∀ n, ((w.alloc (.cells #[.int .i64 x.kind, .int .i64 x.n, .string ⟨x.name.toArray⟩, .slice xa x.a.length xc] PET)).drewN n).cell? ⟨rb, 1, none⟩ = some (.int .i64 p)) := hide (fun n => ((unhide HAB n).cell (p := ⟨rb, 1, none⟩) hrl).trans h1)
      clear hR hx hyp hyb hstk hya hpl hpl3 hpl3n
      generalize hxl : x.a.length = xl at *
      generalize hn : K.length = n at *
      go_enter Tryz.func79, Tryz.ntmps79
      go_wp2_with fail
      go_quiet (fail)
      go_wp2
      go_ret
      exact .inr (.inl ⟨k3, k4, rfl, unhide HFI _, Kept.of (unhide HAB _)⟩)
    · have hpl3 : ((ps.length : Int) + 1 == 4) = false := by rw [beq_eq_false_iff_ne]; omega
      have hpl1 : (ps.length : Int) ≤ 3 := by omega
      have HCM := hide (And.intro hR (And.intro hx (And.intro hya (And.intro hyp (And.intro hyb hstk)))))
      have hB0 := box_new w x (.slice xa x.a.length xc) PET
      have HB0 := hide hB0
      have hzb : (w.alloc (.cells #[.int .i64 x.kind, .int .i64 x.n, .string ⟨x.name.toArray⟩, .slice xa x.a.length xc] PET)).heap.size = w.heap.size + 1 := by simp
      have HZB := hide hzb
      clear hR hx hyp hyb hstk hya hpl hB0 hzb
      generalize hxl : x.a.length = xl at *
      generalize hn : K.length = n at *
      generalize hpl : ps.length = pl at *
      go_enter Tryz.func79, Tryz.ntmps79
      go_wp2_with fail
      go_quiet (fail)
      go_upto_region 6 with (fail)
      have hB5 : Box ((w.alloc (.cells #[.int .i64 x.kind, .int .i64 x.n, .string ⟨x.name.toArray⟩, .slice xa xl xc] PET)).drewN nq) w.heap.size x (.slice xa xl xc) := (unhide HB0).keep rfl (Nat.le_refl _)
      have hW5 := unhide HAB nq
      have hs5 : ((w.alloc (.cells #[.int .i64 x.kind, .int .i64 x.n, .string ⟨x.name.toArray⟩, .slice xa xl xc] PET)).drewN nq).heap.size = w.heap.size + 1 := unhide HZB
      generalize (w.alloc (.cells #[.int .i64 x.kind, .int .i64 x.n, .string ⟨x.name.toArray⟩, .slice xa xl xc] PET)).drewN nq = W5 at *
      have hA := alloc_below W5.drew (.cells zeroE PET)
      have hz := alloc_new W5.drew zeroE PET
      rw [size_drew] at hA hz
      have hWz : Below w.heap.size w (W5.drew.alloc (.cells zeroE PET)) := bthen hW5 (w2 := W5.drew.alloc (.cells zeroE PET)) ((⟨rfl, rfl, rfl, Nat.le_refl _, fun _ _ => rfl⟩ : Below W5.heap.size W5 W5.drew).trans hA)
      subst hxl hn hpl
      obtain ⟨h9, c9, w9, hr9, hne9, hne9', z3, zf, ⟨y0, y1, y2, y3⟩, xf, hfin⟩ := comma_mem (W := W5.drew.alloc (.cells zeroE PET)) (z := W5.heap.size) (unhide HCM).1 (unhide HCM).2.1 (unhide HCM).2.2.1 (unhide HCM).2.2.2.1 (unhide HCM).2.2.2.2.1 (unhide HCM).2.2.2.2.2 hmh hWz hz (by omega)
      rw [hs5] at hr9
      obtain ⟨b0, b1, b2, b3, -, -, -, -, hbl⟩ := hB5
      have s3 := (hW5.cell (p := ⟨g, K.length * 4 + 3, none⟩) hg2).trans t3
      have hgW : g < W5.heap.size := by omega
      have x0 := xf (ps.length * 4)
      have x1 := xf (ps.length * 4 + 1)
      have x2 := xf (ps.length * 4 + 2)
      have x3 := xf (ps.length * 4 + 3)
      have HR9 := hide hr9
      have HFI := hide hfin
      clear hr9 hfin xf hA hz hWz t0 t1 t2 t3 h1 h2 HCM HAB HB0 HZB
      generalize hxl : x.a.length = xl at *
      generalize hn : K.length = n at *
      generalize hpl : ps.length = pl at *
      have hnn : (pl : Int) < pl + 1 := by omega
      go_region_law (refine step_append_runP rfl _ _ rfl rfl _ _ rfl rfl _ _ (unhide HR9) ?_)
      all_goals (
        refine at_world (F := fun W => Rd W base rb X L p d (.slice (some ⟨g, 0, none⟩) (n + 1) cap) ((y.plus x, .slice (some ⟨h9, 0, none⟩) (pl + 1) c9) :: K) W.heap.size ∧ Kept rb base X w W) (unhide HFI _ ?_) ?_
        · first | exact .inl (by with_reducible rfl) | exact .inr (by with_reducible rfl)
        intro Wf hWf
        have HRF := hide hWf
        have q1 := hWf.1.c1
        have q2 := hWf.1.fr 1
        clear hWf y0 y1 y2 y3 x0 x1 x2 x3 z3 zf
        go_wp2
        go_ret
        exact .inr (.inr ⟨k3, k4, rfl, _, _, _, (unhide HRF).1.moveI, (unhide HRF).2.rb _ _⟩))
  · have k3n : (y.kind == 3) = false := beq_eq_false_iff_ne.2 k3
    have k3m : (y.kind != 3) = true := by simp [bne, k3n]
    have HFI : Hid (∀ n, ((w.alloc (.cells #[.int .i64 x.kind, .int .i64 x.n, .string ⟨x.name.toArray⟩, .slice xa x.a.length xc] PET)).drewN n).cell? ⟨rb, 1, none⟩ = some (.int .i64 p)) := hide (fun n => ((unhide HAB n).cell (p := ⟨rb, 1, none⟩) hrl).trans h1)
    clear hR hx hyp hyb hstk hya hpl
    generalize hxl : x.a.length = xl at *
    generalize hn : K.length = n at *
    generalize ps.length = pl at *
    go_enter Tryz.func79, Tryz.ntmps79
    go_wp2_with fail
    go_quiet (fail)
    go_wp2
    go_ret
    exact .inl ⟨k3, rfl, unhide HFI _, Kept.of (unhide HAB _)⟩
end Go.Proofs.YtepnafnljfjeoaaGreatDoor.Line
