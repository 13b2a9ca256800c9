/- In the midst of eval.values: what is left, what is done. -/
import Derived.Test.YtomnbidppkpfiaaDoorEvTask
namespace Go.Proofs.YtomnbidppkpfiaaDoor.Line
open Go.ChangeShapes Go.WideShapes Go.ChangeAt Go.RowKit
open Ex (E)
open Ev (Sy Res)
set_option linter.unusedVariables false

abbrev INT : TypeId := 2
abbrev INTS : TypeId := 25
/-- the values that are done, a row of a call's own -/
def Dn (base : Nat) (w : World) (v : Value) (D : List Int) : Prop := w.ownsRow base INT 1 v D.length (D.map (Value.int .i64))
theorem Dn.shape {base : Nat} {w : World} {v : Value} {D : List Int} (h : Dn base w v D) : ∃ a cap, v = .slice a D.length cap := by
  rcases h.2 with ⟨rfl, h5⟩ | ⟨g, cap, cur, rfl, _⟩
  · exact ⟨none, 0, by rw [h5]⟩
  · exact ⟨_, _, rfl⟩
theorem row_take {w : World} {base g n size cap m : Nat} {e : TypeId} {xs : List Value} (h : w.ownsRow base e size (.slice (some ⟨g, 0, none⟩) n cap) n xs) (hm : m ≤ n) : w.ownsRow base e size (.slice (some ⟨g, 0, none⟩) m cap) m (xs.take (m * size)) := by
  rcases h.2 with ⟨e, _⟩ | ⟨g', cp, cur, e, hg, hh, hc, hmx, hs, ht⟩
  · cases e
  · injection e with e1 e2 e3
    injection e1 with e1
    injection e1 with e1
    subst e1 e3
    have hmn : m * size ≤ n * size := Nat.mul_le_mul_right _ hm
    refine ⟨by rw [List.length_take, h.1]; omega, .inr ⟨g, cap, cur, rfl, hg, hh, by omega, hmx, hs, ?_⟩⟩
    rw [← ht, List.take_take, Nat.min_eq_left hmn]
theorem Dn.take {base : Nat} {w : World} {a : Option Addr} {D : List Int} {cap m : Nat} (h : Dn base w (.slice a D.length cap) D) (hm : m ≤ D.length) : Dn base w (.slice a m cap) (D.take m) := by
  unfold Dn at *
  have hl : (D.take m).length = m := by rw [List.length_take]; omega
  rw [hl]
  rcases h.2 with ⟨e, h5⟩ | ⟨g, cp, cur, e, hg, hh, r⟩
  · injection e with e1 e2 e3
    subst e1 e3
    obtain rfl : m = 0 := by omega
    rw [List.take_zero]
    exact World.ownsRow_nil _ _ _ _
  · injection e with e1 e2 e3
    subst e1 e3
    have := row_take h hm
    rw [Nat.mul_one, ← List.map_take] at this
    exact this
/-- two rows of other kinds lie in other blocks -/
theorem rows_apart {w : World} {b1 b2 s1 s2 n1 n2 : Nat} {e1 e2 : TypeId} {v1 v2 : Value} {xs ys : List Value} (h1 : w.ownsRow b1 e1 s1 v1 n1 xs) (h2 : w.ownsRow b2 e2 s2 v2 n2 ys) (hne : e1 ≠ e2) : v1.ownBlock = none ∨ v1.ownBlock ≠ v2.ownBlock := by
  rcases h1.2 with ⟨rfl, _⟩ | ⟨g, cap, cur, rfl, hg, hh, _⟩
  · exact .inl rfl
  · rcases h2.2 with ⟨rfl, _⟩ | ⟨g2, cap2, cur2, rfl, hg2, hh2, _⟩
    · exact .inr (by intro e; cases e)
    · refine .inr (fun e => ?_)
      have e3 : g = g2 := Option.some.inj e
      subst e3
      rw [hh] at hh2
      have := Option.some.inj hh2
      injection this with _ e4
      exact hne e4
structure VM (w wr : World) (T : List Sy) (s : List Int) (l : List E) (sv : Value) (c : Int) (v dv : Value) (K : List Ent) (D : List Int) : Prop where
  left : Left (w.heap.size + 1) wr v K
  done : Dn (w.heap.size + 1) wr dv D
  ok : ∀ t ∈ K, EntOk w t
  dn : Ev.den T s (K.map Ent.tk) D = Ev.evs T s l
  fit : Ev.fit (K.map Ent.tk) D.length
  old : Below w.heap.size w wr
  t0 : wr.cell? ⟨w.heap.size, 0, none⟩ = some sv
  t1 : wr.cell? ⟨w.heap.size, 1, none⟩ = some (.int .i64 c)
  few : D.length + Ev.wt (K.map Ent.tk) ≤ 100000
theorem below_own {base : Nat} {e : TypeId} {size n : Nat} {w w' : World} {v : Value} {xs : List Value} (h : w.ownsRow base e size v n xs) (hb : Below w.heap.size w w') : w'.ownsRow base e size v n xs := own_keep h (fun k hk => hb.block k (h.lt k hk).2)
theorem VM.below {w wr w2 : World} {T : List Sy} {s : List Int} {l : List E} {sv : Value} {c : Int} {v dv : Value} {K : List Ent} {D : List Int} (h : VM w wr T s l sv c v dv K D) (hb : Below wr.heap.size wr w2) : VM w w2 T s l sv c v dv K D :=
  ⟨below_own h.left hb, below_own h.done hb, h.ok, h.dn, h.fit, bthen h.old hb, (hb.cell (p := ⟨w.heap.size, 0, none⟩) (cell_lt h.t0)).trans h.t0, (hb.cell (p := ⟨w.heap.size, 1, none⟩) (cell_lt h.t1)).trans h.t1, h.few⟩
theorem VM.sz {w wr : World} {T : List Sy} {s : List Int} {l : List E} {sv : Value} {c : Int} {v dv : Value} {K : List Ent} {D : List Int} (h : VM w wr T s l sv c v dv K D) : w.heap.size + 1 ≤ wr.heap.size := cell_lt h.t0
/-- the next one -/
theorem Left.top {base : Nat} {w : World} {v : Value} {t : Ent} {K : List Ent} (h : Left base w v (t :: K)) : ∃ g cap, v = .slice (some ⟨g, 0, none⟩) (K.length + 1) cap ∧ K.length + 1 ≤ cap ∧ base ≤ g ∧ g < w.heap.size ∧ w.cell? ⟨g, K.length * 2, none⟩ = some (.pointer (some ⟨t.b, t.o, none⟩)) ∧ w.cell? ⟨g, K.length * 2 + 1, none⟩ = some (.bool t.k) ∧ w.frozen? ⟨g, K.length * 2 + 1, none⟩ = false ∧ Left base w (.slice (some ⟨g, 0, none⟩) K.length cap) K ∧
    Left base (w.setCell ⟨g, K.length * 2 + 1, none⟩ (.bool true)) (.slice (some ⟨g, 0, none⟩) (K.length + 1) cap) (⟨t.b, t.o, t.sx, t.x, true⟩ :: K) ∧ w.grownBy (w.setCell ⟨g, K.length * 2 + 1, none⟩ (.bool true)) (some g) := by
  have hrow : w.ownsRow base TKE 2 v (K.length + 1) (flatQ (t :: K).reverse) := h
  rcases hrow.2 with ⟨e, h5⟩ | ⟨g, cap, cur, e, hg, hh, hc, _⟩
  · simp at h5
  · subst e
    have hl := flatQ_rev_len K
    have hst := World.ownsRow.stored hrow (K.length * 2 + 1) (.bool true)
    refine ⟨g, cap, rfl, hc, hg, (hrow.lt g rfl).2, ?_, ?_, World.ownsRow.frozenAt hrow _, ?_, ?_, hst.2⟩
    · rw [World.ownsRow.cellAt hrow _ (by omega), flatQ_rev, List.getElem?_append_right (by omega), hl, Nat.sub_self]; rfl
    · rw [World.ownsRow.cellAt hrow _ (by omega), flatQ_rev, List.getElem?_append_right (by omega), hl, Nat.add_sub_cancel_left]; rfl
    · have := row_take hrow (show K.length ≤ K.length + 1 by omega)
      rw [flatQ_rev, List.take_left' hl] at this
      exact this
    · have h1 := hst.1
      unfold Left
      rw [flatQ_rev, List.length_cons]
      rw [flatQ_rev] at h1
      have e2 : (flatQ K.reverse ++ entC t).set (K.length * 2 + 1) (.bool true) = flatQ K.reverse ++ entC ⟨t.b, t.o, t.sx, t.x, true⟩ := by
        rw [List.set_append_right _ _ (by omega), hl, Nat.add_sub_cancel_left]; rfl
      rw [e2] at h1
      exact h1
/-- one more value is done -/
theorem append_done {base : Nat} {w : World} {v : Value} {D : List Int} (hs : Dn base w v D) (hb : base ≤ w.heap.size) (hl : D.length + 1 ≤ 1000000) (n : Int) :
    ∃ v' w', (Builtin.append_ #[INTS, INTS] INTS #[v, .slice (some ⟨w.heap.size, 0, none⟩) 1 1]).run Tryd.prog (w.alloc (.cells #[.int .i64 n] INT)) = .ok v' w' ∧ Dn base w' v' (D ++ [n]) ∧ Oth w w' v v' := by
  obtain ⟨i0, hi, hz0, hz1, hz2⟩ := info_parts infoZ
  obtain ⟨v', w', hr, ho, hgr, _, hat⟩ := run_append_own_at (P := Tryd.prog) (w.alloc (.cells #[.int .i64 n] INT)) base INTS INTS INT i0 _ 1 8 Tryd.underlying25 hi hz0 hz1 hz2 rfl (by decide) v D.length _ (World.ownsRow.alloc hs _) ⟨w.heap.size, 0, none⟩ 1 1 [.int .i64 n] rfl
    (World.news_of_block (cs := #[.int .i64 n]) (t := INT) (fr := (0, 0)) (by show (w.heap.push _)[w.heap.size]? = _; exact Array.getElem?_push_size))
    (by intro u hu; rw [List.mem_singleton.1 hu]; rfl) (by unfold maxLen; omega) (by omega) (by simp; omega)
  refine ⟨v', w', hr, ?_, ⟨⟨hgr.os, hgr.tape, hgr.output, by have := hgr.size; simp at this; omega, fun b hb hne => (hgr.block b (by simp; omega) hne).trans ((alloc_below w _).block b hb)⟩, ?_⟩⟩
  · unfold Dn
    rw [List.length_append, List.map_append]
    exact ho
  · rcases hat with e | e
    · exact .inl e
    · exact .inr ⟨_, by simp, e⟩
theorem grown_old {w wr w2 : World} {r : Option Nat} (ho : Below w.heap.size w wr) (hg : wr.grownBy w2 r) (hr : ∀ k, r = some k → w.heap.size + 1 ≤ k) : Below w.heap.size w w2 ∧ (wr.heap.size ≥ w.heap.size + 1 → ∀ o, w2.cell? ⟨w.heap.size, o, none⟩ = wr.cell? ⟨w.heap.size, o, none⟩) := by
  refine ⟨ho.grown hg (by have := ho.size; omega) (fun j hj => by have := hr j hj; omega), fun hs o => ?_⟩
  exact World.cell?_of_block (hg.block w.heap.size (by omega) (fun e => by have := hr _ e.symm; omega))
/-- a tree's parts are ahead of it now -/
theorem VM.pushed {w wr w3 w4 : World} {T : List Sy} {s : List Int} {l : List E} {sv : Value} {c : Int} {v dv v' : Value} {t : Ent} {K es : List Ent} {D : List Int} (h : VM w wr T s l sv c v dv (t :: K) D) (hk : t.k = false)
    (g : Nat) (hv : v.ownBlock = some g) (hg3 : wr.grownBy w3 (some g)) (hO : Oth w3 w4 v v') (h4 : Left (w.heap.size + 1) w4 v' (es ++ ⟨t.b, t.o, t.sx, t.x, true⟩ :: K)) (hes : es.map Ent.tk = Ev.fresh (Ev.parts t.x)) (hok : ∀ u ∈ es, EntOk w u) :
    VM w w4 T s l sv c v' dv (es ++ ⟨t.b, t.o, t.sx, t.x, true⟩ :: K) D ∧ Ev.wt ((es ++ ⟨t.b, t.o, t.sx, t.x, true⟩ :: K).map Ent.tk) < Ev.wt ((t :: K).map Ent.tk) := by
  have hgb := (h.left.lt g hv).1
  have hmap : (es ++ ⟨t.b, t.o, t.sx, t.x, true⟩ :: K).map Ent.tk = Ev.fresh (Ev.parts t.x) ++ (t.x, true) :: K.map Ent.tk := by rw [List.map_append, hes]; rfl
  have htk : (t :: K).map Ent.tk = (t.x, false) :: K.map Ent.tk := by rw [List.map_cons, Ent.tk, hk]
  have hw := Ev.wt_push t.x (K.map Ent.tk)
  rw [hmap, htk]
  refine ⟨⟨h4, ?_, ?_, ?_, ?_, ?_, ?_, ?_, ?_⟩, by omega⟩
  · have hne := rows_apart h.done h.left (by decide)
    rw [hv] at hne
    have d3 := World.ownsRow.kept h.done hg3 hne
    exact World.ownsRow.kept d3 hO.grown (by rw [hv]; exact hne)
  · intro u hu
    rcases List.mem_append.1 hu with hu | hu
    · exact hok u hu
    · rcases List.mem_cons.1 hu with rfl | hu
      · exact ⟨(h.ok t (by simp)).at_, (h.ok t (by simp)).parts⟩
      · exact h.ok u (by simp [hu])
  · rw [hmap, Ev.den_push, ← htk]; exact h.dn
  · rw [hmap]; refine Ev.fit_push ?_; rw [← htk]; exact h.fit
  · have h1 := (grown_old h.old hg3 (fun k e => by injection e with e; omega)).1
    exact (grown_old h1 hO.grown (fun k e => by rw [hv] at e; injection e with e; omega)).1
  · have h1 := grown_old h.old hg3 (fun k e => by injection e with e; omega)
    have h2 := grown_old h1.1 hO.grown (fun k e => by rw [hv] at e; injection e with e; omega)
    exact (h2.2 (by have := hg3.size; have := h.sz; omega) 0).trans ((h1.2 h.sz 0).trans h.t0)
  · have h1 := grown_old h.old hg3 (fun k e => by injection e with e; omega)
    have h2 := grown_old h1.1 hO.grown (fun k e => by rw [hv] at e; injection e with e; omega)
    exact (h2.2 (by have := hg3.size; have := h.sz; omega) 1).trans ((h1.2 h.sz 1).trans h.t1)
  · have := h.few; rw [htk] at this; rw [hmap]; omega
/-- a task that is done: its parts known, or none -/
theorem VM.ready {w wr : World} {T : List Sy} {s : List Int} {l : List E} {sv : Value} {c : Int} {v dv : Value} {t : Ent} {K : List Ent} {D : List Int} (h : VM w wr T s l sv c v dv (t :: K) D) (hk : t.k = true ∨ Ev.parts t.x = []) :
    (Ev.parts t.x).length ≤ D.length ∧ Ev.fit (K.map Ent.tk) (D.length - (Ev.parts t.x).length + 1) ∧ Ev.evs T s l = (if (Ev.valP T s t.x (D.drop (D.length - (Ev.parts t.x).length))).err ≠ 0 then .inl (Ev.valP T s t.x (D.drop (D.length - (Ev.parts t.x).length))) else Ev.den T s (K.map Ent.tk) (D.take (D.length - (Ev.parts t.x).length) ++ [(Ev.valP T s t.x (D.drop (D.length - (Ev.parts t.x).length))).v])) ∧ Ev.wt (K.map Ent.tk) + 1 ≤ Ev.wt ((t :: K).map Ent.tk) ∧ D.length - (Ev.parts t.x).length + 1 + Ev.wt (K.map Ent.tk) ≤ 100000 := by
  have hd := h.dn
  have hf := h.fit
  have hfew := h.few
  cases hkk : t.k with
  | true =>
    have htk : (t :: K).map Ent.tk = (t.x, true) :: K.map Ent.tk := by rw [List.map_cons, Ent.tk, hkk]
    rw [htk] at hd hf hfew ⊢
    rw [Ev.fit] at hf
    rw [Ev.den] at hd
    rw [Ev.wt] at hfew ⊢
    exact ⟨hf.1, hf.2, hd.symm, by omega, by omega⟩
  | false =>
    have hp : Ev.parts t.x = [] := by
      rcases hk with hk | hk
      · rw [hkk] at hk; cases hk
      · exact hk
    have htk : (t :: K).map Ent.tk = (t.x, false) :: K.map Ent.tk := by rw [List.map_cons, Ent.tk, hkk]
    rw [htk] at hd hf hfew ⊢
    rw [Ev.fit] at hf
    rw [Ev.den_leaf T s t.x _ _ hp, Ev.den] at hd
    rw [Ev.wt] at hfew ⊢
    have := Ev.sz_pos t.x
    rw [hp] at hd ⊢
    exact ⟨by simp, by simpa using hf, hd.symm, by omega, by simp; omega⟩
theorem VM.stepped {w wr w3 w4 : World} {T : List Sy} {s : List Int} {l : List E} {sv : Value} {c : Int} {v dv v1 dv1 dv' : Value} {t : Ent} {K : List Ent} {D : List Int} (h : VM w wr T s l sv c v dv (t :: K) D) (hk : t.k = true ∨ Ev.parts t.x = [])
    (he : (Ev.valP T s t.x (D.drop (D.length - (Ev.parts t.x).length))).err = 0) (hb3 : Below wr.heap.size wr w3) (hl3 : Left (w.heap.size + 1) w3 v1 K) (hd3 : Dn (w.heap.size + 1) w3 dv1 (D.take (D.length - (Ev.parts t.x).length)))
    (hO : Oth w3 w4 dv1 dv') (hd4 : Dn (w.heap.size + 1) w4 dv' (D.take (D.length - (Ev.parts t.x).length) ++ [(Ev.valP T s t.x (D.drop (D.length - (Ev.parts t.x).length))).v])) :
    VM w w4 T s l sv c v1 dv' K (D.take (D.length - (Ev.parts t.x).length) ++ [(Ev.valP T s t.x (D.drop (D.length - (Ev.parts t.x).length))).v]) := by
  obtain ⟨r1, r2, r3, r4, r5⟩ := h.ready hk
  rw [if_neg (by omega)] at r3
  have hdl : ∀ k, dv1.ownBlock = some k → w.heap.size + 1 ≤ k := fun k e => (hd3.lt k e).1
  have ho3 := bthen h.old hb3
  have hs3 : w.heap.size + 1 ≤ w3.heap.size := by have := hb3.size; have := h.sz; omega
  have h1 := grown_old ho3 hO.grown hdl
  refine ⟨?_, hd4, fun u hu => h.ok u (by simp [hu]), r3.symm, ?_, h1.1, ?_, ?_, ?_⟩
  · exact World.ownsRow.kept hl3 hO.grown (rows_apart hl3 hd3 (by decide))
  · rw [List.length_append, List.length_take]
    simp only [List.length_singleton]
    rw [Nat.min_eq_left (by omega)]
    exact r2
  · exact (h1.2 hs3 0).trans ((hb3.cell (p := ⟨w.heap.size, 0, none⟩) (cell_lt h.t0)).trans h.t0)
  · exact (h1.2 hs3 1).trans ((hb3.cell (p := ⟨w.heap.size, 1, none⟩) (cell_lt h.t1)).trans h.t1)
  · rw [List.length_append, List.length_take]
    simp only [List.length_singleton]
    omega
end Go.Proofs.YtomnbidppkpfiaaDoor.Line
