/- The contract of tree.ownStmt: a statement's items and trees are copied where it stands. -/
import Derived.Test.YthkbchefjagbbaaGreatDoorCpA
namespace Go.Proofs.YthkbchefjagbbaaGreatDoor.Line
open Go.ChangeShapes Go.WideShapes Go.ChangeAt Go.RowKit
open Ex (E St)
set_option linter.unusedVariables false

theorem UpdC.far {X : Nat → Nat → Prop} {w wr wr' : World} (h : UpdC X w wr) (k : Upd (fun b => w.heap.size ≤ b) wr wr') : UpdC X w wr' :=
  ⟨k.os.trans h.os, k.tape.trans h.tape, k.output.trans h.output, Nat.le_trans h.size k.size, fun b h1 h2 => (k.block b (Nat.lt_of_lt_of_le h1 h.size) (by omega)).trans (h.same b h1 h2), fun b C t fr hc hx => by
    obtain ⟨C', h1, h2, h3⟩ := h.cells b C t fr hc hx
    have hb : b < w.heap.size := (Array.getElem?_eq_some_iff.1 hc).1
    exact ⟨C', (k.block b (Nat.lt_of_lt_of_le hb h.size) (by omega)).trans h1, h2, h3⟩⟩
theorem NumsS.updC {X : Nat → Nat → Prop} {w w' : World} {S : Nat → Prop} {v : Value} {l : List Nat} (h : NumsS w S v l) (hu : UpdC X w w') (hx : ∀ b, S b → ∀ o, ¬ X b o) : NumsS w' S v l := h.keep (fun b hb hl => hu.same b hl (hx b hb)) (fun _ h _ => h)
theorem Forest.updC {X : Nat → Nat → Prop} {w w' : World} {S : Nat → Prop} {l : List E} {v : Value} (h : Forest w S l v) (hu : UpdC X w w') (hx : ∀ b, S b → ∀ o, ¬ X b o) : Forest w' S l v := h.keep (fun b hb hl => hu.same b hl (hx b hb)) (fun _ h _ => h)
/-- how much a statement is -/
def szF (f : FS) : Nat := szL f.tgt.a + szL f.e.a + szL f.ca.a + szL f.cb.a + szL f.lo.a + szL f.hi.a
/-- where its items stand -/
structure SItm (w wr : World) (Stb : Nat → Prop) (g o : Nat) (v' : Value) (ys : List Itm) (f : FS) : Prop where
  row : wr.ownsRow w.heap.size ITT 2 v' ys.length (flatM ys)
  plain : plainI ys = f.items
  nums : ∀ y ∈ ys, NumsS wr (fun b => Stb b ∨ (w.heap.size ≤ b ∧ some b ≠ v'.ownBlock)) y.2.2 y.2.1
  cell : wr.cell? ⟨g, o + 1, none⟩ = some v'
  upd : UpdC (fun b j => b = g ∧ j = o + 1) w wr
theorem SItm.step {w wr w2 : World} {Stb : Nat → Prop} {g o q n vc k : Nat} {ys : List Itm} {f : FS} {v2 : Value} (h : SItm w wr Stb g o (.slice (some ⟨q, 0, none⟩) n vc) ys f) (hk : k < ys.length) (hyn : ys.length = n) (hgl : g < w.heap.size) (hq : w.heap.size ≤ q) (hS : ∀ b, Stb b → b < w.heap.size)
    (ho : w2.ownsRow wr.heap.size I64 1 v2 ys[k].2.1.length (ints ys[k].2.1)) (hb : Below wr.heap.size wr w2) : SItm w (w2.setCell ⟨q, k * 2 + 1, none⟩ v2) Stb g o (.slice (some ⟨q, 0, none⟩) n vc) (ys.set k (ys[k].1, ys[k].2.1, v2)) f := by
  subst hyn
  have hql := (h.row.lt q rfl).2
  have hsz := h.upd.size
  refine ⟨?_, (plainI_set ys k hk v2).trans h.plain, fun y hy => ?_, ?_, ?_⟩
  · rw [List.length_set, ← flatM_set ys k hk v2]
    exact (World.ownsRow.stored (ownsRow_of h.row (fun b hb' => hb.block b (h.row.lt b hb').2)) (k * 2 + 1) v2).1
  · rcases List.mem_or_eq_of_mem_set hy with hy | rfl
    · exact (h.nums y hy).keep (fun b hb' hl => (set_heap (show b ≠ q by
        rintro rfl
        rcases hb' with hb' | hb'
        · have := hS b hb'; omega
        · exact hb'.2 rfl)).trans (hb.block b hl)) (fun b hb' _ => hb')
    · exact (nums_own ho).keep (fun b hb' hl => set_heap (show b ≠ q by omega)) (fun b hb' _ => .inr ⟨by omega, fun e => by have h9 : b = q := Option.some.inj e; omega⟩)
  · exact (set_other (.inl (show g ≠ q by omega))).trans ((hb.cell (p := ⟨g, o + 1, none⟩) (cell_lt h.cell)).trans h.cell)
  · have k1 : UpdC (fun b _ => w.heap.size ≤ b) wr (w2.setCell ⟨q, k * 2 + 1, none⟩ v2) := (UpdC.below hb).trans (UpdC.set _ _ _ _ hq)
    exact UpdC.mono (X := fun b j => (b = g ∧ j = o + 1) ∨ w.heap.size ≤ b) ((h.upd.mono (fun _ _ _ hx => .inl hx)).trans (k1.mono (fun _ _ _ hx => .inr hx))) (fun b j hl hx => hx.resolve_right (by omega))
/-- the places of a statement's trees -/
def holes (g o : Nat) (f : FS) : List Hole := [(g, o + 5, f.tgt.a), (g, o + 9, f.e.a), (g, o + 14, f.ca.a), (g, o + 18, f.cb.a), (g, o + 23, f.lo.a), (g, o + 27, f.hi.a)]
theorem holes_work (g o : Nat) (f : FS) : work (holes g o f) = 6 + szF f := by simp [holes, work, szF]; omega
theorem SItm.pinv {w wr : World} {Stb : Nat → Prop} {g o : Nat} {v' : Value} {ys : List Itm} {f : FS} (h : SItm w wr Stb g o v' ys f) {iv tv ev av bv lv hv : Value} (hc : w.rangeAt g o (fsV f iv tv ev av bv lv hv).toList) (h2 : Forest w Stb f.tgt.a tv) (h3 : Forest w Stb f.e.a ev) (h4 : Forest w Stb f.ca.a av) (h5 : Forest w Stb f.cb.a bv) (h6 : Forest w Stb f.lo.a lv) (h7 : Forest w Stb f.hi.a hv)
    (hfr : ∀ j, w.frozen? ⟨g, j, none⟩ = false) (hS : ∀ b, Stb b → b < w.heap.size ∧ b ≠ g) :
    PInv (wr.alloc (.cells ((holes g o f).map ptrV).toArray PPT)).drew (wr.alloc (.cells ((holes g o f).map ptrV).toArray PPT)).drew wr.heap.size Stb (holes g o f) (.slice (some ⟨wr.heap.size, 0, none⟩) 6 6) (holes g o f) (fun _ => False) := by
  have hgl : g < w.heap.size := cell_lt (hc 1 _ rfl)
  have hsz := h.upd.size
  have hbl : Below wr.heap.size wr (wr.alloc (.cells ((holes g o f).map ptrV).toArray PPT)).drew := below_drew1 (Below.alloc (Below.refl _ _) (Nat.le_refl _) _)
  have k1 : UpdC (fun b j => b = g ∧ j = o + 1) w (wr.alloc (.cells ((holes g o f).map ptrV).toArray PPT)).drew := h.upd.trans (UpdC.below hbl)
  have hP : ∀ x ∈ holes g o f, x.1 = g ∧ ∃ v, (wr.alloc (.cells ((holes g o f).map ptrV).toArray PPT)).drew.cell? ⟨x.1, x.2.1, none⟩ = some v ∧ Forest (wr.alloc (.cells ((holes g o f).map ptrV).toArray PPT)).drew Stb x.2.2 v ∧ (wr.alloc (.cells ((holes g o f).map ptrV).toArray PPT)).drew.frozen? ⟨x.1, x.2.1, none⟩ = false := by
    have one : ∀ j u l, (fsV f iv tv ev av bv lv hv).toList[j]? = some u → j ≠ 1 → Forest w Stb l u → ∃ v, (wr.alloc (.cells ((holes g o f).map ptrV).toArray PPT)).drew.cell? ⟨g, o + j, none⟩ = some v ∧ Forest (wr.alloc (.cells ((holes g o f).map ptrV).toArray PPT)).drew Stb l v ∧ (wr.alloc (.cells ((holes g o f).map ptrV).toArray PPT)).drew.frozen? ⟨g, o + j, none⟩ = false := fun j u l hu hj hF =>
      ⟨u, k1.cell (hc j u hu) (fun e => by omega), hF.updC k1 (fun b hb _ e => (hS b hb).2 e.1), (k1.frozen (hc j u hu) ⟨0, fun e => by omega⟩).trans (hfr _)⟩
    intro x hx
    simp only [holes, List.mem_cons, List.not_mem_nil, or_false] at hx
    rcases hx with rfl | rfl | rfl | rfl | rfl | rfl
    · exact ⟨rfl, one 5 _ _ rfl (by omega) h2⟩
    · exact ⟨rfl, one 9 _ _ rfl (by omega) h3⟩
    · exact ⟨rfl, one 14 _ _ rfl (by omega) h4⟩
    · exact ⟨rfl, one 18 _ _ rfl (by omega) h5⟩
    · exact ⟨rfl, one 23 _ _ rfl (by omega) h6⟩
    · exact ⟨rfl, one 27 _ _ rfl (by omega) h7⟩
  refine ⟨World.ownsRow.drew (World.ownsRow_lit wr ((holes g o f).map ptrV).toArray 6 (Nat.le_refl _) (by decide) rfl), fun x hx => ?_, fun x hx => ?_, ?_, fun x hx => ?_, fun _ h => h.elim, fun b hb => ?_, by show wr.heap.size ≤ (wr.alloc _).heap.size; simp, UpdC.refl _ _⟩
  · obtain ⟨_, v, q1, q2, q3⟩ := hP x hx
    exact ⟨v, q1, q2, q3, .inr ⟨x, hx, rfl, rfl⟩⟩
  · obtain ⟨_, v, q1, q2, q3⟩ := hP x hx
    exact ⟨v, q1, .old _ _ q2, q3⟩
  · simp [holes]
  · have hx1 := (hP x hx).1
    exact ⟨by omega, fun hb => (hS _ hb).2 hx1⟩
  · have := (hS b hb).1; omega
theorem fs_other (f : FS) (iv tv ev av bv lv hv iv' tv' ev' av' bv' lv' hv' : Value) : ∀ j, j ≠ 1 → j ≠ 5 → j ≠ 9 → j ≠ 14 → j ≠ 18 → j ≠ 23 → j ≠ 27 → (fsV f iv' tv' ev' av' bv' lv' hv').toList[j]? = (fsV f iv tv ev av bv lv hv).toList[j]?
  | 0, _, _, _, _, _, _, _ | 2, _, _, _, _, _, _, _ | 3, _, _, _, _, _, _, _ | 4, _, _, _, _, _, _, _ | 6, _, _, _, _, _, _, _ | 7, _, _, _, _, _, _, _ | 8, _, _, _, _, _, _, _ | 10, _, _, _, _, _, _, _ | 11, _, _, _, _, _, _, _ | 12, _, _, _, _, _, _, _ | 13, _, _, _, _, _, _, _ | 15, _, _, _, _, _, _, _ | 16, _, _, _, _, _, _, _ | 17, _, _, _, _, _, _, _ | 19, _, _, _, _, _, _, _ | 20, _, _, _, _, _, _, _ | 21, _, _, _, _, _, _, _ | 22, _, _, _, _, _, _, _ | 24, _, _, _, _, _, _, _ | 25, _, _, _, _, _, _, _ | 26, _, _, _, _, _, _, _ | 28, _, _, _, _, _, _, _ => rfl
  | 1, h, _, _, _, _, _, _ => absurd rfl h
  | 5, _, h, _, _, _, _, _ => absurd rfl h
  | 9, _, _, h, _, _, _, _ => absurd rfl h
  | 14, _, _, _, h, _, _, _ => absurd rfl h
  | 18, _, _, _, _, h, _, _ => absurd rfl h
  | 23, _, _, _, _, _, h, _ => absurd rfl h
  | 27, _, _, _, _, _, _, h => absurd rfl h
  | j + 29, _, _, _, _, _, _, _ => by rw [List.getElem?_eq_none (show (fsV f iv' tv' ev' av' bv' lv' hv').toList.length ≤ j + 29 from Nat.le_add_left 29 j), List.getElem?_eq_none (show (fsV f iv tv ev av bv lv hv).toList.length ≤ j + 29 from Nat.le_add_left 29 j)]
/-- what ownStmt has made -/
theorem SItm.done {w wr W0 W : World} {Stb : Nat → Prop} {g o : Nat} {v' : Value} {ys : List Itm} {f : FS} (h : SItm w wr Stb g o v' ys f) (hyl : ys.length = f.items.length) {iv tv ev av bv lv hv : Value} (hc : w.rangeAt g o (fsV f iv tv ev av bv lv hv).toList) (hS : ∀ b, Stb b → b < w.heap.size ∧ b ≠ g) (h0 : Below wr.heap.size wr W0)
    (hu : UpdC (fun b j => wr.heap.size ≤ b ∨ ∃ x ∈ holes g o f, x.1 = b ∧ x.2.1 = j) W0 W) (hh : ∀ x ∈ holes g o f, ∃ v', W.cell? ⟨x.1, x.2.1, none⟩ = some v' ∧ Forest W (fun b => Stb b ∨ W0.heap.size ≤ b) x.2.2 v') :
    UpdC (fun b j => b = g ∧ o ≤ j ∧ j < o + 29) w W ∧ ∃ cs', W.rangeAt g o cs'.toList ∧ HoldsF (fun b => Stb b ∨ w.heap.size ≤ b) W cs' f := by
  have hgl : g < w.heap.size := cell_lt (hc 1 _ rfl)
  have hsz := h.upd.size
  have k1 : UpdC (fun b j => wr.heap.size ≤ b ∨ ∃ x ∈ holes g o f, x.1 = b ∧ x.2.1 = j) wr W := (UpdC.below h0).trans hu
  have hxs : ∀ x ∈ holes g o f, x.1 = g ∧ o + 5 ≤ x.2.1 ∧ x.2.1 < o + 29 := by
    intro x hx
    simp only [holes, List.mem_cons, List.not_mem_nil, or_false] at hx
    rcases hx with rfl | rfl | rfl | rfl | rfl | rfl <;> (refine ⟨rfl, ?_, ?_⟩ <;> (dsimp only; omega))
  have k2 : UpdC (fun b j => (b = g ∧ o ≤ j ∧ j < o + 29) ∨ wr.heap.size ≤ b) w W := (h.upd.mono (fun b j _ hx => .inl (by omega))).trans (k1.mono (fun b j _ hx => hx.elim .inr (fun ⟨x, hx, e1, e2⟩ => .inl (by have := hxs x hx; omega))))
  refine ⟨k2.mono (fun b j hl hx => hx.resolve_right (by omega)), ?_⟩
  obtain ⟨t', t1, t2⟩ := hh (g, o + 5, f.tgt.a) (by simp [holes])
  obtain ⟨e', e1, e2⟩ := hh (g, o + 9, f.e.a) (by simp [holes])
  obtain ⟨a', a1, a2⟩ := hh (g, o + 14, f.ca.a) (by simp [holes])
  obtain ⟨b', b1, b2⟩ := hh (g, o + 18, f.cb.a) (by simp [holes])
  obtain ⟨l', l1, l2⟩ := hh (g, o + 23, f.lo.a) (by simp [holes])
  obtain ⟨u', u1, u2⟩ := hh (g, o + 27, f.hi.a) (by simp [holes])
  have hB : wr.heap.size ≤ W0.heap.size := h0.size
  have mono : ∀ {l : List E} {v : Value}, Forest W (fun b => Stb b ∨ W0.heap.size ≤ b) l v → Forest W (fun b => Stb b ∨ w.heap.size ≤ b) l v := fun h => h.mono (fun b hb _ => hb.imp id (fun hb => by omega))
  have hkb : ∀ b, b < wr.heap.size → b ≠ g → W.heap[b]? = wr.heap[b]? := fun b hb hg => k1.same b hb (fun j hx => hx.elim (fun h => by omega) (fun ⟨x, hx, e1, _⟩ => hg (e1.symm.trans (hxs x hx).1)))
  refine ⟨fsV f v' t' e' a' b' l' u', ?_, v', t', e', a', b', l', u', rfl, ?_, mono t2, mono e2, mono a2, mono b2, mono l2, mono u2⟩
  · intro j u hj
    by_cases q1 : j = 1
    · subst q1
      obtain rfl : v' = u := Option.some.inj hj
      exact k1.cell h.cell (fun hx => hx.elim (fun h => by omega) (fun ⟨x, hx, _, e2⟩ => by have := hxs x hx; omega))
    by_cases q2 : j = 5
    · subst q2; obtain rfl : t' = u := Option.some.inj hj; exact t1
    by_cases q3 : j = 9
    · subst q3; obtain rfl : e' = u := Option.some.inj hj; exact e1
    by_cases q4 : j = 14
    · subst q4; obtain rfl : a' = u := Option.some.inj hj; exact a1
    by_cases q5 : j = 18
    · subst q5; obtain rfl : b' = u := Option.some.inj hj; exact b1
    by_cases q6 : j = 23
    · subst q6; obtain rfl : l' = u := Option.some.inj hj; exact l1
    by_cases q7 : j = 27
    · subst q7; obtain rfl : u' = u := Option.some.inj hj; exact u1
    rw [fs_other f iv tv ev av bv lv hv v' t' e' a' b' l' u' j q1 q2 q3 q4 q5 q6 q7] at hj
    refine k1.cell (h.upd.cell (hc j u hj) (fun e => by omega)) (fun hx => hx.elim (fun h => by omega) (fun ⟨x, hx, _, e2⟩ => ?_))
    simp only [holes, List.mem_cons, List.not_mem_nil, or_false] at hx
    rcases hx with rfl | rfl | rfl | rfl | rfl | rfl <;> (dsimp only at e2; omega)
  · have hr : W.ownsRow w.heap.size ITT 2 v' ys.length (flatM ys) := ownsRow_of h.row (fun k hk => hkb k (h.row.lt k hk).2 (by have := (h.row.lt k hk).1; omega))
    rw [← h.plain]
    refine items_read hr (fun k hk => .inr (h.row.lt k hk).1) (fun y hy => (h.nums y hy).keep (fun b hb hl => hkb b hl ?_) (fun b hb _ => hb.imp id (·.1)))
    rcases hb with hb | hb
    · exact (hS b hb).2
    · omega
set_option maxHeartbeats 8000000 in
set_option maxRecDepth 100000 in
theorem ownStmt_any (w : World) (g o : Nat) (f : FS) (Stb : Nat → Prop) (iv tv ev av bv lv hv : Value) (hc : w.rangeAt g o (fsV f iv tv ev av bv lv hv).toList) (hi : ItemsS w Stb iv f.items) (h2 : Forest w Stb f.tgt.a tv) (h3 : Forest w Stb f.e.a ev) (h4 : Forest w Stb f.ca.a av) (h5 : Forest w Stb f.cb.a bv) (h6 : Forest w Stb f.lo.a lv) (h7 : Forest w Stb f.hi.a hv)
    (hfr : ∀ j, w.frozen? ⟨g, j, none⟩ = false) (hS : ∀ b, Stb b → b < w.heap.size ∧ b ≠ g) (hn : f.items.length ≤ 100000) (hd : ∀ x ∈ f.items, x.2.length ≤ 100000) (hsz : szF f ≤ 100000) :
    Calls Tryz.prog 121 #[.pointer (some ⟨g, o, none⟩)] w fun e w' => e = .returned (.tuple #[]) ∧ UpdC (fun b j => b = g ∧ o ≤ j ∧ j < o + 29) w w' ∧ ∃ cs', w'.rangeAt g o cs'.toList ∧ HoldsF (fun b => Stb b ∨ w.heap.size ≤ b) w' cs' f := by
  have c1 : w.cell? ⟨g, o + 1, none⟩ = some iv := hc 1 _ rfl
  have f1 := hfr (o + 1)
  have hgl := cell_lt c1
  obtain ⟨ia, ic, ys0, hiv, his, hiy, hid, hio⟩ := items_news hi
  have hyl : ys0.length = f.items.length := by rw [← hiy]; exact (List.length_map ..).symm
  have HOW := hide (ownI_any w ia f.items.length ic (flatM ys0) (by rw [flatM_length, hyl]) his hio (by omega))
  have H0 := hide (And.intro hc (And.intro h2 (And.intro h3 (And.intro h4 (And.intro h5 (And.intro h6 (And.intro h7 (And.intro hfr (And.intro hS (And.intro hn (And.intro hd (And.intro hsz (And.intro hiy hid)))))))))))))
  subst hiv
  clear hc hi h2 h3 h4 h5 h6 h7 hfr hn hd hsz his hio hiy hid
  obtain ⟨n, hnn⟩ : ∃ n, f.items.length = n := ⟨_, rfl⟩
  rw [hnn] at c1 HOW hyl
  have hn6 : n ≤ 100000 := by rw [← hnn]; exact (unhide H0).2.2.2.2.2.2.2.2.2.1
  go_enter Tryz.func121, Tryz.ntmps121
  go_wp2_with fail
  refine (unhide HOW).mono ?_
  rintro e w1 ⟨v', rfl, ho1, hb1⟩
  have d1 := (hb1.cell (p := ⟨g, o + 1, none⟩) hgl).trans c1
  have e1 := (hb1.frozen (p := ⟨g, o + 1, none⟩) hgl).trans f1
  obtain ⟨va, vc, hvs, hva⟩ : ∃ va vc, v' = .slice va n vc ∧ (0 < n → ∃ q, va = some ⟨q, 0, none⟩ ∧ n ≤ vc ∧ w.heap.size ≤ q) := by
    rcases ho1.2 with ⟨e, h5⟩ | ⟨q, cp, cur, e, hq, _, hcp, _⟩
    · exact ⟨none, 0, by rw [e, h5], fun h => by omega⟩
    · exact ⟨_, cp, e, fun _ => ⟨q, rfl, hcp, hq⟩⟩
  have HI0 : Hid (SItm w (w1.setCell ⟨g, o + 1, none⟩ v') Stb g o v' ys0 f) := hide (by
    have hnb : ∀ k, v'.ownBlock = some k → w.heap.size ≤ k ∧ k < w1.heap.size := fun k hk => ho1.lt k hk
    refine ⟨by rw [hyl]; exact ownsRow_of ho1 (fun k hk => set_heap (by have := (hnb k hk).1; omega)), (unhide H0).2.2.2.2.2.2.2.2.2.2.2.2.1, fun y hy => ((unhide H0).2.2.2.2.2.2.2.2.2.2.2.2.2 y hy).keep (fun b hb hl => (set_heap ((unhide H0).2.2.2.2.2.2.2.2.1 b hb).2).trans (hb1.block b hl)) (fun b hb _ => .inl hb), World.cell?_setCell_same _ _ _ d1, (UpdC.below hb1).trans (UpdC.set _ _ _ _ ⟨rfl, rfl⟩)⟩)
  have HVA := hide hva
  subst hvs
  have dd : (w1.setCell ⟨g, o + 1, none⟩ (.slice va n vc)).cell? ⟨g, o + 1, none⟩ = some (.slice va n vc) := (unhide HI0).cell
  clear ho1 hb1 hva HOW
  go_wp2_with fail
  generalize w1.setCell ⟨g, o + 1, none⟩ (.slice va n vc) = W2 at *
  go_loopw [16] (fun i wr => ∃ k ys, i = .int .i64 (k : Nat) ∧ k ≤ n ∧ ys.length = n ∧ Hid (SItm w wr Stb g o (.slice va n vc) ys f)) (fun i _ => n - (intOf i).toNat)
  case atStart => exact ⟨0, ys0, rfl, Nat.zero_le _, hyl, HI0⟩
  case round =>
    obtain ⟨k, ys, rfl, hk, hyn, HI⟩ := hrel
    by_cases hlt : k < n
    · obtain ⟨q, hva, hvc, hqw⟩ := unhide HVA (by omega)
      subst hva
      have HI1 := unhide HI
      have c1 := HI1.cell
      have c2 : wr.cell? ⟨q, k * 2 + 1, none⟩ = some ys[k].2.2 := by
        rw [World.ownsRow.cellAt (hyn ▸ HI1.row) _ (by omega)]; exact (flatM_get ys k (by omega)).2
      have f2 : wr.frozen? ⟨q, k * 2 + 1, none⟩ = false := World.ownsRow.frozenAt (hyn ▸ HI1.row) _
      obtain ⟨da, dc, hdv, hds⟩ := nums_news (HI1.nums _ (List.getElem_mem (show k < ys.length by omega)))
      have hdl : ys[k].2.1.length ≤ 100000 := by
        have h1 := (unhide H0).2.2.2.2.2.2.2.2.2.2.1 (ys[k].1, ys[k].2.1) (by rw [← HI1.plain]; exact List.mem_map.2 ⟨ys[k], List.getElem_mem (show k < ys.length by omega), rfl⟩)
        exact h1
      have HOZ := hide (ownZ_any wr.drew da ys[k].2.1.length dc (ints ys[k].2.1) (by simp [ints]) hds (by intro u hu; obtain ⟨z, _, rfl⟩ := List.mem_map.1 hu; rfl) (by omega))
      rw [hdv] at c2
      generalize hdn : ys[k].2.1.length = dn at *
      have i1 : (k : Int) < n := by omega
      have i2 : (0 : Int) ≤ k := by omega
      have i3 : IntKind.i64.wrap (k : Int) = k := by rw [IntKind.wrap_i64]; omega
      have i4 : (k : Int) ≤ 100000 := by omega
      have hcl2 := cell_lt c2
      have hcl1 := cell_lt c1
      have HK := hide (And.intro HI1 f2)
      clear HI1 hds hdv f2
      go_upto_region 4 with (fail)
      refine wp_regionE (fun W => W.cell? ⟨g, o + 1, none⟩ = some (.slice (some ⟨q, 0, none⟩) n vc) ∧ W.cell? ⟨q, k * 2 + 1, none⟩ = some (.slice da dn dc)) (fun j => decide (j < 14)) (by kernel_rfl) ⟨c1, c2⟩ (fun hS => ?_)
      refine anyE_take 0 (v := ?_) rfl (by kernel_rfl) (by kernel_rfl) (by kernel_rfl) (by kernel_rfl) (fun _ _ _ h => h) hS (Or.inl ⟨by rfl, ?_⟩) ?_
      rotate_left
      · intro w' hS'
        obtain ⟨e1, e2⟩ := hS'
        go_simp
        try with_reducible rfl
      try simp only [List.getElem_toArray, List.getElem_cons_zero, Act.put, List.setIfInBounds_toArray, List.set_cons_zero, List.set_cons_succ]
      refine anyE_take 1 (v := ?_) rfl (by kernel_rfl) (by kernel_rfl) (by kernel_rfl) (by kernel_rfl) (fun _ _ _ h => h) hS (Or.inl ⟨by rfl, ?_⟩) ?_
      rotate_left
      · intro w' hS'
        obtain ⟨e1, e2⟩ := hS'
        go_simp
        try with_reducible rfl
      try simp only [List.getElem_toArray, List.getElem_cons_succ, List.getElem_cons_zero, Act.put, List.setIfInBounds_toArray, List.set_cons_zero, List.set_cons_succ]
      refine anyE_take 2 (v := ?_) rfl (by kernel_rfl) (by kernel_rfl) (by kernel_rfl) (by kernel_rfl) (fun _ _ _ h => h) hS (Or.inl ⟨by rfl, ?_⟩) ?_
      rotate_left
      · intro w' hS'
        obtain ⟨e1, e2⟩ := hS'
        go_simp
        try with_reducible rfl
      try simp only [List.getElem_toArray, List.getElem_cons_succ, List.getElem_cons_zero, Act.put, List.setIfInBounds_toArray, List.set_cons_zero, List.set_cons_succ]
      refine anyE_take 3 (v := ?_) rfl (by kernel_rfl) (by kernel_rfl) (by kernel_rfl) (by kernel_rfl) (fun _ _ _ h => h) hS (Or.inl ⟨by rfl, ?_⟩) ?_
      rotate_left
      · intro w' hS'
        obtain ⟨e1, e2⟩ := hS'
        go_simp
        try with_reducible rfl
      try simp only [List.getElem_toArray, List.getElem_cons_succ, List.getElem_cons_zero, Act.put, List.setIfInBounds_toArray, List.set_cons_zero, List.set_cons_succ]
      refine anyE_take 4 (v := ?_) rfl (by kernel_rfl) (by kernel_rfl) (by kernel_rfl) (by kernel_rfl) (fun _ _ _ h => h) hS (Or.inl ⟨by rfl, ?_⟩) ?_
      rotate_left
      · intro w' hS'
        obtain ⟨e1, e2⟩ := hS'
        go_simp
        try with_reducible rfl
      try simp only [List.getElem_toArray, List.getElem_cons_succ, List.getElem_cons_zero, Act.put, List.setIfInBounds_toArray, List.set_cons_zero, List.set_cons_succ]
      refine anyE_take 5 (v := ?_) rfl (by kernel_rfl) (by kernel_rfl) (by kernel_rfl) (by kernel_rfl) (fun _ _ _ h => h) hS (Or.inl ⟨by rfl, ?_⟩) ?_
      rotate_left
      · intro w' hS'
        obtain ⟨e1, e2⟩ := hS'
        go_simp
        try with_reducible rfl
      try simp only [List.getElem_toArray, List.getElem_cons_succ, List.getElem_cons_zero, Act.put, List.setIfInBounds_toArray, List.set_cons_zero, List.set_cons_succ]
      refine anyE_take 6 (v := ?_) rfl (by kernel_rfl) (by kernel_rfl) (by kernel_rfl) (by kernel_rfl) (fun _ _ _ h => h) hS (Or.inl ⟨by rfl, ?_⟩) ?_
      rotate_left
      · intro w' hS'
        obtain ⟨e1, e2⟩ := hS'
        go_simp
        try with_reducible rfl
      try simp only [List.getElem_toArray, List.getElem_cons_succ, List.getElem_cons_zero, Act.put, List.setIfInBounds_toArray, List.set_cons_zero, List.set_cons_succ]
      refine anyE_take 7 (v := ?_) rfl (by kernel_rfl) (by kernel_rfl) (by kernel_rfl) (by kernel_rfl) (fun _ _ _ h => h) hS (Or.inl ⟨by rfl, ?_⟩) ?_
      rotate_left
      · intro w' hS'
        obtain ⟨e1, e2⟩ := hS'
        go_simp
        try with_reducible rfl
      try simp only [List.getElem_toArray, List.getElem_cons_succ, List.getElem_cons_zero, Act.put, List.setIfInBounds_toArray, List.set_cons_zero, List.set_cons_succ]
      refine anyE_take 8 (v := ?_) rfl (by kernel_rfl) (by kernel_rfl) (by kernel_rfl) (by kernel_rfl) (fun _ _ _ h => h) hS (Or.inl ⟨by rfl, ?_⟩) ?_
      rotate_left
      · intro w' hS'
        obtain ⟨e1, e2⟩ := hS'
        go_simp
        try with_reducible rfl
      try simp only [List.getElem_toArray, List.getElem_cons_succ, List.getElem_cons_zero, Act.put, List.setIfInBounds_toArray, List.set_cons_zero, List.set_cons_succ]
      refine anyE_take 9 (v := ?_) rfl (by kernel_rfl) (by kernel_rfl) (by kernel_rfl) (by kernel_rfl) (fun _ _ _ h => h) hS (Or.inl ⟨by rfl, ?_⟩) ?_
      rotate_left
      · intro w' hS'
        obtain ⟨e1, e2⟩ := hS'
        go_simp
        try with_reducible rfl
      try simp only [List.getElem_toArray, List.getElem_cons_succ, List.getElem_cons_zero, Act.put, List.setIfInBounds_toArray, List.set_cons_zero, List.set_cons_succ]
      refine anyE_take 10 (v := ?_) rfl (by kernel_rfl) (by kernel_rfl) (by kernel_rfl) (by kernel_rfl) (fun _ _ _ h => h) hS (Or.inl ⟨by rfl, ?_⟩) ?_
      rotate_left
      · intro w' hS'
        obtain ⟨e1, e2⟩ := hS'
        go_simp
        try with_reducible rfl
      try simp only [List.getElem_toArray, List.getElem_cons_succ, List.getElem_cons_zero, Act.put, List.setIfInBounds_toArray, List.set_cons_zero, List.set_cons_succ]
      refine anyE_take 11 (v := ?_) rfl (by kernel_rfl) (by kernel_rfl) (by kernel_rfl) (by kernel_rfl) (fun _ _ _ h => h) hS (Or.inl ⟨by rfl, ?_⟩) ?_
      rotate_left
      · intro w' hS'
        obtain ⟨e1, e2⟩ := hS'
        go_simp
        try with_reducible rfl
      try simp only [List.getElem_toArray, List.getElem_cons_succ, List.getElem_cons_zero, Act.put, List.setIfInBounds_toArray, List.set_cons_zero, List.set_cons_succ]
      refine anyE_take 12 (v := ?_) rfl (by kernel_rfl) (by kernel_rfl) (by kernel_rfl) (by kernel_rfl) (fun _ _ _ h => h) hS (Or.inl ⟨by rfl, ?_⟩) ?_
      rotate_left
      · intro w' hS'
        obtain ⟨e1, e2⟩ := hS'
        go_simp
        try with_reducible rfl
      try simp only [List.getElem_toArray, List.getElem_cons_succ, List.getElem_cons_zero, Act.put, List.setIfInBounds_toArray, List.set_cons_zero, List.set_cons_succ]
      refine anyE_ready [13] (by kernel_rfl) (by simp) (ReadyE.cons rfl (fun K' hK => ?_) ReadyE.nil)
      go_simp
      go_at_call 172
      refine (unhide HOZ).mono ?_
      rintro e w2 ⟨v2, rfl, ho2, hb2⟩
      have g2 := (hb2.cell (p := ⟨q, k * 2 + 1, none⟩) hcl2).trans c2
      have g1 := (hb2.cell (p := ⟨g, o + 1, none⟩) hcl1).trans c1
      have gf := (hb2.frozen (p := ⟨q, k * 2 + 1, none⟩) hcl2).trans (unhide HK).2
      obtain ⟨va2, vc2, hv2⟩ : ∃ a c, v2 = .slice a dn c := by
        rcases ho2.2 with ⟨e, h5⟩ | ⟨_, cp, cur, e, _⟩
        · exact ⟨none, 0, by rw [e, h5]⟩
        · exact ⟨_, cp, e⟩
      subst hv2
      dsimp only
      try go_simp
      refine hK _ _ (fun _ => ⟨g1, g2⟩) ?_
      clear hK K'
      try simp only [List.getElem_toArray, List.getElem_cons_succ, List.getElem_cons_zero, Act.put, List.setIfInBounds_toArray, List.set_cons_zero, List.set_cons_succ]
      refine any_to_E (by kernel_rfl) ?_
      refine wpAny_take (i := 14) (v := ?_) rfl (by kernel_rfl) (by kernel_rfl) (by kernel_rfl) (fun _ _ _ h => h) (Or.inl ⟨by rfl, ?_⟩) ?_
      rotate_left
      · intro w'
        go_simp
        try with_reducible rfl
      try simp only [List.getElem_toArray, List.getElem_cons_succ, List.getElem_cons_zero, Act.put, List.setIfInBounds_toArray, List.set_cons_zero, List.set_cons_succ]
      refine wpAny_take (i := 15) (v := ?_) rfl (by kernel_rfl) (by kernel_rfl) (by kernel_rfl) (fun _ _ _ h => h) (Or.inl ⟨by rfl, ?_⟩) ?_
      rotate_left
      · intro w'
        go_simp
        try with_reducible rfl
      try simp only [List.getElem_toArray, List.getElem_cons_succ, List.getElem_cons_zero, Act.put, List.setIfInBounds_toArray, List.set_cons_zero, List.set_cons_succ]
      refine wpAny_ready (rs := [16]) (by kernel_rfl) (by simp) ?_
      refine AllReady.cons rfl (fun K' hK => ?_) AllReady.nil
      go_simp
      refine hK _ _ ?_
      clear hK K'
      try simp only [List.getElem_toArray, List.getElem_cons_succ, List.getElem_cons_zero, Act.put]
      refine wpAny_done (by kernel_rfl) ?_ _
      have HN := hide ((unhide HK).1.step (k := k) (v2 := .slice va2 dn vc2) (by omega) hyn hgl hqw (fun b hb => ((unhide H0).2.2.2.2.2.2.2.2.1 b hb).1) (by rw [hdn]; exact ho2) (bthen (below_drewN (Below.refl wr.heap.size wr) 1) hb2))
      clear ho2 hb2
      go_wp2
      go_roundw
      case rel => exact ⟨k + 1, _, by go_num, by omega, by rw [List.length_set]; exact hyn, HN⟩
      case measure => simp [intOf]; omega
    · have hkn : k = n := by omega
      subst hkn
      have hlt2 : ¬ (k : Int) < k := by omega
      clear hyl dd HI0 HVA
      go_upto_region 6 with (fail)
      refine wp_region_any (by kernel_rfl) ?_
      change wpAny _ _ _ _ _ _ _ (World.drew _)
      refine wpAny_take (i := 0) (v := ?_) rfl (by kernel_rfl) (by kernel_rfl) (by kernel_rfl) (fun _ _ _ h => h) (Or.inl ⟨by rfl, ?_⟩) ?_
      rotate_left
      · intro w'
        go_simp
        try with_reducible rfl
      try simp only [List.getElem_toArray, List.getElem_cons_zero, Act.put, List.setIfInBounds_toArray, List.set_cons_zero, List.set_cons_succ]
      refine wpAny_take (i := 1) (v := ?_) rfl (by kernel_rfl) (by kernel_rfl) (by kernel_rfl) (fun _ _ _ h => h) (Or.inl ⟨by rfl, ?_⟩) ?_
      rotate_left
      · intro w'
        go_simp
        try with_reducible rfl
      try simp only [List.getElem_toArray, List.getElem_cons_succ, List.getElem_cons_zero, Act.put, List.setIfInBounds_toArray, List.set_cons_zero, List.set_cons_succ]
      refine wpAny_take (i := 2) (v := ?_) rfl (by kernel_rfl) (by kernel_rfl) (by kernel_rfl) (fun _ _ _ h => h) (Or.inl ⟨by rfl, ?_⟩) ?_
      rotate_left
      · intro w'
        go_simp
        try with_reducible rfl
      try simp only [List.getElem_toArray, List.getElem_cons_succ, List.getElem_cons_zero, Act.put, List.setIfInBounds_toArray, List.set_cons_zero, List.set_cons_succ]
      refine wpAny_take (i := 3) (v := ?_) rfl (by kernel_rfl) (by kernel_rfl) (by kernel_rfl) (fun _ _ _ h => h) (Or.inl ⟨by rfl, ?_⟩) ?_
      rotate_left
      · intro w'
        go_simp
        try with_reducible rfl
      try simp only [List.getElem_toArray, List.getElem_cons_succ, List.getElem_cons_zero, Act.put, List.setIfInBounds_toArray, List.set_cons_zero, List.set_cons_succ]
      refine wpAny_take (i := 4) (v := ?_) rfl (by kernel_rfl) (by kernel_rfl) (by kernel_rfl) (fun _ _ _ h => h) (Or.inl ⟨by rfl, ?_⟩) ?_
      rotate_left
      · intro w'
        go_simp
        try with_reducible rfl
      try simp only [List.getElem_toArray, List.getElem_cons_succ, List.getElem_cons_zero, Act.put, List.setIfInBounds_toArray, List.set_cons_zero, List.set_cons_succ]
      refine wpAny_take (i := 5) (v := ?_) rfl (by kernel_rfl) (by kernel_rfl) (by kernel_rfl) (fun _ _ _ h => h) (Or.inl ⟨by rfl, ?_⟩) ?_
      rotate_left
      · intro w'
        go_simp
        try with_reducible rfl
      try simp only [List.getElem_toArray, List.getElem_cons_succ, List.getElem_cons_zero, Act.put, List.setIfInBounds_toArray, List.set_cons_zero, List.set_cons_succ]
      refine wpAny_take (i := 6) (v := ?_) rfl (by kernel_rfl) (by kernel_rfl) (by kernel_rfl) (fun _ _ _ h => h) (Or.inl ⟨by rfl, ?_⟩) ?_
      rotate_left
      · intro w'
        go_simp
        try with_reducible rfl
      try simp only [List.getElem_toArray, List.getElem_cons_succ, List.getElem_cons_zero, Act.put, List.setIfInBounds_toArray, List.set_cons_zero, List.set_cons_succ]
      refine wpAny_take (i := 7) (v := ?_) rfl (by kernel_rfl) (by kernel_rfl) (by kernel_rfl) (fun _ _ _ h => h) (Or.inl ⟨by rfl, ?_⟩) ?_
      rotate_left
      · intro w'
        go_simp
        try with_reducible rfl
      try simp only [List.getElem_toArray, List.getElem_cons_succ, List.getElem_cons_zero, Act.put, List.setIfInBounds_toArray, List.set_cons_zero, List.set_cons_succ]
      refine wpAny_take (i := 8) (v := ?_) rfl (by kernel_rfl) (by kernel_rfl) (by kernel_rfl) (fun _ _ _ h => h) (Or.inl ⟨by rfl, ?_⟩) ?_
      rotate_left
      · intro w'
        go_simp
        try with_reducible rfl
      try simp only [List.getElem_toArray, List.getElem_cons_succ, List.getElem_cons_zero, Act.put, List.setIfInBounds_toArray, List.set_cons_zero, List.set_cons_succ]
      refine wpAny_take (i := 9) (v := ?_) rfl (by kernel_rfl) (by kernel_rfl) (by kernel_rfl) (fun _ _ _ h => h) (Or.inl ⟨by rfl, ?_⟩) ?_
      rotate_left
      · intro w'
        go_simp
        try with_reducible rfl
      try simp only [List.getElem_toArray, List.getElem_cons_succ, List.getElem_cons_zero, Act.put, List.setIfInBounds_toArray, List.set_cons_zero, List.set_cons_succ]
      refine wpAny_take (i := 10) (v := ?_) rfl (by kernel_rfl) (by kernel_rfl) (by kernel_rfl) (fun _ _ _ h => h) (Or.inl ⟨by rfl, ?_⟩) ?_
      rotate_left
      · intro w'
        go_simp
        try with_reducible rfl
      try simp only [List.getElem_toArray, List.getElem_cons_succ, List.getElem_cons_zero, Act.put, List.setIfInBounds_toArray, List.set_cons_zero, List.set_cons_succ]
      refine wpAny_take (i := 11) (v := ?_) rfl (by kernel_rfl) (by kernel_rfl) (by kernel_rfl) (fun _ _ _ h => h) (Or.inl ⟨by rfl, ?_⟩) ?_
      rotate_left
      · intro w'
        go_simp
        try with_reducible rfl
      try simp only [List.getElem_toArray, List.getElem_cons_succ, List.getElem_cons_zero, Act.put, List.setIfInBounds_toArray, List.set_cons_zero, List.set_cons_succ]
      refine wpAny_take (i := 12) (v := ?_) rfl (by kernel_rfl) (by kernel_rfl) (by kernel_rfl) (fun _ _ _ h => h) (Or.inl ⟨by rfl, ?_⟩) ?_
      rotate_left
      · intro w'
        go_simp
        try with_reducible rfl
      try simp only [List.getElem_toArray, List.getElem_cons_succ, List.getElem_cons_zero, Act.put, List.setIfInBounds_toArray, List.set_cons_zero, List.set_cons_succ]
      refine wpAny_take (i := 13) (v := ?_) rfl (by kernel_rfl) (by kernel_rfl) (by kernel_rfl) (fun _ _ _ h => h) (Or.inl ⟨by rfl, ?_⟩) ?_
      rotate_left
      · intro w'
        go_simp
        try with_reducible rfl
      try simp only [List.getElem_toArray, List.getElem_cons_succ, List.getElem_cons_zero, Act.put, List.setIfInBounds_toArray, List.set_cons_zero, List.set_cons_succ]
      refine wpAny_take (i := 14) (v := ?_) rfl (by kernel_rfl) (by kernel_rfl) (by kernel_rfl) (fun _ _ _ h => h) (Or.inl ⟨by rfl, ?_⟩) ?_
      rotate_left
      · intro w'
        go_simp
        try with_reducible rfl
      try simp only [List.getElem_toArray, List.getElem_cons_succ, List.getElem_cons_zero, Act.put, List.setIfInBounds_toArray, List.set_cons_zero, List.set_cons_succ]
      refine wpAny_take (i := 15) (v := ?_) rfl (by kernel_rfl) (by kernel_rfl) (by kernel_rfl) (fun _ _ _ h => h) (Or.inl ⟨by rfl, ?_⟩) ?_
      rotate_left
      · intro w'
        go_simp
        try with_reducible rfl
      try simp only [List.getElem_toArray, List.getElem_cons_succ, List.getElem_cons_zero, Act.put, List.setIfInBounds_toArray, List.set_cons_zero, List.set_cons_succ]
      refine wpAny_take (i := 16) (v := ?_) rfl (by kernel_rfl) (by kernel_rfl) (by kernel_rfl) (fun _ _ _ h => h) (Or.inl ⟨by rfl, ?_⟩) ?_
      rotate_left
      · intro w'
        go_simp
        try with_reducible rfl
      try simp only [List.getElem_toArray, List.getElem_cons_succ, List.getElem_cons_zero, Act.put, List.setIfInBounds_toArray, List.set_cons_zero, List.set_cons_succ]
      refine wpAny_take (i := 17) (v := ?_) rfl (by kernel_rfl) (by kernel_rfl) (by kernel_rfl) (fun _ _ _ h => h) (Or.inl ⟨by rfl, ?_⟩) ?_
      rotate_left
      · intro w'
        go_simp
        try with_reducible rfl
      try simp only [List.getElem_toArray, List.getElem_cons_succ, List.getElem_cons_zero, Act.put, List.setIfInBounds_toArray, List.set_cons_zero, List.set_cons_succ]
      refine wpAny_take (i := 18) (v := ?_) rfl (by kernel_rfl) (by kernel_rfl) (by kernel_rfl) (fun _ _ _ h => h) (Or.inl ⟨by rfl, ?_⟩) ?_
      rotate_left
      · intro w'
        go_simp
        try with_reducible rfl
      try simp only [List.getElem_toArray, List.getElem_cons_succ, List.getElem_cons_zero, Act.put, List.setIfInBounds_toArray, List.set_cons_zero, List.set_cons_succ]
      refine wpAny_take (i := 19) (v := ?_) rfl (by kernel_rfl) (by kernel_rfl) (by kernel_rfl) (fun _ _ _ h => h) (Or.inl ⟨by rfl, ?_⟩) ?_
      rotate_left
      · intro w'
        go_simp
        try with_reducible rfl
      try simp only [List.getElem_toArray, List.getElem_cons_succ, List.getElem_cons_zero, Act.put, List.setIfInBounds_toArray, List.set_cons_zero, List.set_cons_succ]
      refine wpAny_take (i := 20) (v := ?_) rfl (by kernel_rfl) (by kernel_rfl) (by kernel_rfl) (fun _ _ _ h => h) (Or.inl ⟨by rfl, ?_⟩) ?_
      rotate_left
      · intro w'
        go_simp
        try with_reducible rfl
      try simp only [List.getElem_toArray, List.getElem_cons_succ, List.getElem_cons_zero, Act.put, List.setIfInBounds_toArray, List.set_cons_zero, List.set_cons_succ]
      refine wpAny_take (i := 21) (v := ?_) rfl (by kernel_rfl) (by kernel_rfl) (by kernel_rfl) (fun _ _ _ h => h) (Or.inl ⟨by rfl, ?_⟩) ?_
      rotate_left
      · intro w'
        go_simp
        try with_reducible rfl
      try simp only [List.getElem_toArray, List.getElem_cons_succ, List.getElem_cons_zero, Act.put, List.setIfInBounds_toArray, List.set_cons_zero, List.set_cons_succ]
      refine wpAny_take (i := 22) (v := ?_) rfl (by kernel_rfl) (by kernel_rfl) (by kernel_rfl) (fun _ _ _ h => h) (Or.inl ⟨by rfl, ?_⟩) ?_
      rotate_left
      · intro w'
        go_simp
        try with_reducible rfl
      try simp only [List.getElem_toArray, List.getElem_cons_succ, List.getElem_cons_zero, Act.put, List.setIfInBounds_toArray, List.set_cons_zero, List.set_cons_succ]
      refine wpAny_take (i := 23) (v := ?_) rfl (by kernel_rfl) (by kernel_rfl) (by kernel_rfl) (fun _ _ _ h => h) (Or.inl ⟨by rfl, ?_⟩) ?_
      rotate_left
      · intro w'
        go_simp
        try with_reducible rfl
      try simp only [List.getElem_toArray, List.getElem_cons_succ, List.getElem_cons_zero, Act.put, List.setIfInBounds_toArray, List.set_cons_zero, List.set_cons_succ]
      refine wpAny_take (i := 24) (v := ?_) rfl (by kernel_rfl) (by kernel_rfl) (by kernel_rfl) (fun _ _ _ h => h) (Or.inl ⟨by rfl, ?_⟩) ?_
      rotate_left
      · intro w'
        go_simp
        try with_reducible rfl
      try simp only [List.getElem_toArray, List.getElem_cons_succ, List.getElem_cons_zero, Act.put, List.setIfInBounds_toArray, List.set_cons_zero, List.set_cons_succ]
      refine wpAny_take (i := 25) (v := ?_) rfl (by kernel_rfl) (by kernel_rfl) (by kernel_rfl) (fun _ _ _ h => h) (Or.inl ⟨by rfl, ?_⟩) ?_
      rotate_left
      · intro w'
        go_simp
        try with_reducible rfl
      try simp only [List.getElem_toArray, List.getElem_cons_succ, List.getElem_cons_zero, Act.put, List.setIfInBounds_toArray, List.set_cons_zero, List.set_cons_succ]
      refine wpAny_ready (rs := [26]) (by kernel_rfl) (by simp) ?_
      refine AllReady.cons rfl (fun K' hK => ?_) AllReady.nil
      go_simp
      refine hK _ _ ?_
      clear hK K'
      try simp only [List.getElem_toArray, List.getElem_cons_succ, List.getElem_cons_zero, Act.put, List.setIfInBounds_toArray, List.set_cons_zero, List.set_cons_succ]
      refine wpAny_ready (rs := [27]) (by kernel_rfl) (by simp) ?_
      refine AllReady.cons rfl (fun K' hK => ?_) AllReady.nil
      go_simp
      go_at_call 173
      obtain ⟨hc, h2, h3, h4, h5, h6, h7, hfr, hS, hn, hd, hsz, -, -⟩ := unhide H0
      have hpi := (unhide HI).pinv hc h2 h3 h4 h5 h6 h7 hfr hS
      have HZ := hide (And.intro hc hS)
      clear hc h2 h3 h4 h5 h6 h7 hfr hS hn hd
      refine (ownParts_any _ _ _ _ _ hpi (by rw [holes_work]; omega)).mono ?_
      rintro e w3 ⟨rfl, hu, hh⟩
      have HR := hide ((unhide HI).done (by omega) (unhide HZ).1 (unhide HZ).2 (below_drew1 (Below.alloc (Below.refl _ _) (Nat.le_refl _) _)) hu hh)
      clear hu hh hpi hsz
      dsimp only
      try go_simp
      refine hK _ _ ?_
      clear hK K'
      refine wpAny_done (by kernel_rfl) ?_ _
      go_wp2
      go_end0
      exact ⟨rfl, unhide HR⟩
end Go.Proofs.YthkbchefjagbbaaGreatDoor.Line
