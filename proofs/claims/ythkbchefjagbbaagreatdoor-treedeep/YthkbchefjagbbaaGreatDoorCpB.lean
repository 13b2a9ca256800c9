/- Nodes whose rows are copied one by one (CN): what they say stays the same.
   The memory of tree.copied: which lists of nodes are still to be copied (TInv).
   The contract of tree.copied: lists of nodes within memory of their own. -/
import Derived.Test.YthkbchefjagbbaaGreatDoorCpStmt
import Derived.Test.YthkbchefjagbbaaGreatDoorTreeMemA
import Derived.Deep.LoopGhost
namespace Go.Proofs.YthkbchefjagbbaaGreatDoor.Line
open Go.ChangeShapes Go.WideShapes Go.ChangeAt Go.RowKit
open Ex (E St)
set_option linter.unusedVariables false

theorem str_inj {a b : List UInt8} (h : (Value.string ⟨a.toArray⟩) = .string ⟨b.toArray⟩) : a = b := by
  injection h with h
  injection h with h
  exact List.toArray_inj h
theorem Forest.det {W : World} {S S' : Nat → Prop} {l l' : List E} {v : Value} (h : Forest W S l v) (h' : Forest W S' l' v) : l = l' := by
  induction h generalizing l' with
  | nil a cap =>
    obtain ⟨a', c', e⟩ := h'.shape
    injection e with _ e _
    exact (List.length_eq_zero_iff.1 e.symm).symm
  | row l b off cap sl hS hcap hmax hc hf ih =>
    obtain ⟨a', c', e⟩ := h'.shape
    injection e with _ el _
    generalize hv : Value.slice (some ⟨b, off, none⟩) l.length cap = v at h'
    cases h' with
    | nil a cap => exact List.length_eq_zero_iff.1 el
    | row _ b' off' cap' sl' hS' hcap' hmax' hc' hf' =>
      injection hv with e1 _ _
      injection e1 with e1
      injection e1 with e1 e2
      subst e1; subst e2
      refine List.ext_getElem el (fun i h1 h2 => ?_)
      obtain ⟨a1, a2, a3, a4⟩ := hc i h1
      obtain ⟨b1, b2, b3, b4⟩ := hc' i h2
      rw [a1] at b1; rw [a2] at b2; rw [a3] at b3; rw [a4] at b4
      injection b1 with b1; injection b1 with _ b1
      injection b2 with b2; injection b2 with _ b2
      injection b3 with b3
      injection b4 with b4
      have i4 := ih i h1 (l' := l'[i].a) (by rw [b4]; exact hf' i h2)
      rw [← E.eta l[i], ← E.eta l'[i], b1, b2, str_inj b3, i4]
theorem NumsS.det {W : World} {S S' : Nat → Prop} {l l' : List Nat} {v : Value} (h : NumsS W S v l) (h' : NumsS W S' v l') : l = l' := by
  obtain ⟨a1, c1, e1⟩ := h.shape
  obtain ⟨a2, c2, e2⟩ := h'.shape
  rw [e1] at e2
  injection e2 with _ el _
  rcases h with ⟨rfl, _⟩ | ⟨b, off, cap, hv, hS, h1, h2, h3, hc⟩
  · exact (List.length_eq_zero_iff.1 el.symm).symm
  rcases h' with ⟨rfl, _⟩ | ⟨b', off', cap', hv', hS', h1', h2', h3', hc'⟩
  · exact List.length_eq_zero_iff.1 el
  rw [hv] at hv'
  injection hv' with e _ _
  injection e with e
  injection e with e1 e2
  subst e1; subst e2
  refine List.ext_getElem el (fun i p q => ?_)
  have k1 := hc i p
  rw [hc' i q] at k1
  injection k1 with k1
  injection k1 with _ k1
  exact (Int.ofNat.inj k1).symm
theorem ItemsS.det {W : World} {S S' : Nat → Prop} {m m' : List (List UInt8 × List Nat)} {v : Value} (h : ItemsS W S v m) (h' : ItemsS W S' v m') : m = m' := by
  obtain ⟨a1, c1, e1⟩ := h.shape
  obtain ⟨a2, c2, e2⟩ := h'.shape
  rw [e1] at e2
  injection e2 with _ el _
  rcases h with ⟨rfl, _⟩ | ⟨b, off, cap, dv, hv, hS, h1, h2, h3, hc, hd⟩
  · exact (List.length_eq_zero_iff.1 el.symm).symm
  rcases h' with ⟨rfl, _⟩ | ⟨b', off', cap', dv', hv', hS', h1', h2', h3', hc', hd'⟩
  · exact List.length_eq_zero_iff.1 el
  rw [hv] at hv'
  injection hv' with e _ _
  injection e with e
  injection e with e1 e2
  subst e1; subst e2
  refine List.ext_getElem el (fun i p q => ?_)
  obtain ⟨k1, k2⟩ := hc i p
  obtain ⟨j1, j2⟩ := hc' i q
  rw [k1] at j1; rw [k2] at j2
  injection j1 with j1
  injection j2 with j2
  have i2 := (hd i p).det (by rw [j2]; exact hd' i q)
  exact Prod.ext (str_inj j1) i2
theorem HoldsF.det {W : World} {S S' : Nat → Prop} {cs : Array Value} {f f' : FS} (h : HoldsF S W cs f) (h' : HoldsF S' W cs f') : f = f' := by
  obtain ⟨iv, tv, ev, av, bv, lv, hv, h0, h1, h2, h3, h4, h5, h6, h7⟩ := h.ex
  obtain ⟨iv', tv', ev', av', bv', lv', hv', h0', h1', h2', h3', h4', h5', h6', h7'⟩ := h'.ex
  rw [h0] at h0'
  have e := congrArg Array.toList h0'
  simp only [List.cons.injEq, Value.int.injEq, true_and, and_true] at e
  obtain ⟨e0, e1, e2, e3, e4, e5, e6, e7, e8, e9, e10, e11, e12, e13, e14, e15, e16, e17, e18, e19, e20, e21, e22, e23, e24, e25, e26, e27, e28⟩ := e
  subst e1; subst e5; subst e9; subst e14; subst e18; subst e23; subst e27
  obtain ⟨k, it, tg, ee, op, ca, cb, nm, lo, hi, st⟩ := f
  obtain ⟨k', it', tg', ee', op', ca', cb', nm', lo', hi', st'⟩ := f'
  dsimp only at *
  obtain rfl := Int.ofNat.inj e0
  obtain rfl := h1.det h1'
  obtain rfl : tg = tg' := by rw [← E.eta tg, ← E.eta tg', e2, e3, str_inj e4, h2.det h2']
  obtain rfl : ee = ee' := by rw [← E.eta ee, ← E.eta ee', e6, e7, str_inj e8, h3.det h3']
  obtain rfl := str_inj e10
  obtain rfl : ca = ca' := by rw [← E.eta ca, ← E.eta ca', e11, e12, str_inj e13, h4.det h4']
  obtain rfl : cb = cb' := by rw [← E.eta cb, ← E.eta cb', e15, e16, str_inj e17, h5.det h5']
  obtain rfl := str_inj e19
  obtain rfl : lo = lo' := by rw [← E.eta lo, ← E.eta lo', e20, e21, str_inj e22, h6.det h6']
  obtain rfl : hi = hi' := by rw [← E.eta hi, ← E.eta hi', e24, e25, str_inj e26, h7.det h7']
  obtain rfl := e28
  rfl
/-- a node's cells, one by one -/
theorem nc_at {W : World} {b o : Nat} {c : NC} (hs : c.cs.size = 29) : W.rangeAt b o c.cells ↔ W.cell? ⟨b, o, none⟩ = some (.int .i64 c.line) ∧ W.cell? ⟨b, o + 1, none⟩ = some (.int .i64 c.en) ∧ W.rangeAt b (o + 2) c.cs.toList ∧ W.cell? ⟨b, o + 31, none⟩ = some c.bv ∧ W.cell? ⟨b, o + 32, none⟩ = some c.ev ∧ W.cell? ⟨b, o + 33, none⟩ = some (.int .i64 c.mid) := by
  have hl : c.cs.toList.length = 29 := by simpa using hs
  obtain ⟨k0, k1, k2, k31, k32, k33⟩ := cells_at c hs
  constructor
  · intro h
    refine ⟨h 0 _ k0, h 1 _ k1, fun j v hj => ?_, h 31 _ k31, h 32 _ k32, h 33 _ k33⟩
    have hjl := (List.getElem?_eq_some_iff.1 hj).1
    have := h (j + 2) v (by
      show (c.cs.toList ++ [c.bv, c.ev, .int .i64 c.mid])[j]? = _
      rw [List.getElem?_append_left hjl]; exact hj)
    rw [show o + 2 + j = o + (j + 2) by omega]
    exact this
  · rintro ⟨h0, h1, h2, h31, h32, h33⟩ j v hj
    have hjl := (List.getElem?_eq_some_iff.1 hj).1
    rw [NC.len hs] at hjl
    by_cases q0 : j = 0
    · subst q0; rw [k0] at hj; rw [← hj]; exact h0
    by_cases q1 : j = 1
    · subst q1; rw [k1] at hj; rw [← hj]; exact h1
    by_cases q31 : j = 31
    · subst q31; rw [k31] at hj; rw [← hj]; exact h31
    by_cases q32 : j = 32
    · subst q32; rw [k32] at hj; rw [← hj]; exact h32
    by_cases q33 : j = 33
    · subst q33; rw [k33] at hj; rw [← hj]; exact h33
    have e : (c.cs.toList ++ [c.bv, c.ev, .int .i64 c.mid])[j - 2]? = some v := by
      rw [← hj]
      obtain ⟨i, rfl⟩ : ∃ i, j = i + 2 := ⟨j - 2, by omega⟩
      rfl
    rw [List.getElem?_append_left (by omega)] at e
    have := h2 (j - 2) v e
    rw [show o + j = o + 2 + (j - 2) by omega]
    exact this
/-- nodes of which some rows are copies (in blocks of Nn, from their beginning on); all else lies in blocks of Sx -/
inductive CN (W : World) (Nn Sx : Nat → Prop) : List PN → Value → Prop
  | nil (a : Option Addr) (cap : Nat) : CN W Nn Sx [] (.slice a 0 cap)
  | old (l : List PN) (v : Value) (h : Nodes W Sx l v) : CN W Nn Sx l v
  | row (l : List PN) (b cap : Nat) (cs : Nat → NC) (hN : Nn b) (hcap : l.length ≤ cap) (hmax : cap ≤ maxLen) (hl : 0 < l.length)
      (hc : ∀ i (h : i < l.length), W.rangeAt b (i * 34) (cs i).cells)
      (h1 : ∀ i (h : i < l.length), (cs i).line = l[i].line ∧ (cs i).en = l[i].en ∧ (cs i).mid = l[i].mid)
      (h2 : ∀ i (h : i < l.length), HoldsF Sx W (cs i).cs l[i].ps.full)
      (hb : ∀ i (h : i < l.length), CN W Nn Sx l[i].body (cs i).bv)
      (he : ∀ i (h : i < l.length), CN W Nn Sx l[i].els (cs i).ev) : CN W Nn Sx l (.slice (some ⟨b, 0, none⟩) l.length cap)
theorem CN.keep {W W' : World} {Nn Sx Nn' Sx' : Nat → Prop} {l : List PN} {v : Value} (h : CN W Nn Sx l v) (hk : ∀ b, Nn b ∨ Sx b → b < W.heap.size → W'.heap[b]? = W.heap[b]?) (hn : ∀ b, Nn b → b < W.heap.size → Nn' b) (hs : ∀ b, Sx b → b < W.heap.size → Sx' b) : CN W' Nn' Sx' l v := by
  induction h with
  | nil a cap => exact .nil a cap
  | old l v h => exact .old l v (h.keep (fun b hb hl => hk b (.inr hb) hl) hs)
  | row l b cap cs hN hcap hmax hl hc h1 h2 hb he ihb ihe =>
    have hlt : b < W.heap.size := range_lt (hc 0 hl)
    exact .row l b cap cs (hn b hN hlt) hcap hmax hl (fun i hi => range_keep (hc i hi) (hk b (.inl hN) hlt)) h1 (fun i hi => (h2 i hi).keep (fun b hb hl => hk b (.inr hb) hl) hs) ihb ihe
theorem CN.shape {W : World} {Nn Sx : Nat → Prop} {l : List PN} {v : Value} (h : CN W Nn Sx l v) : ∃ a cap, v = .slice a l.length cap := by
  cases h with
  | nil a cap => exact ⟨a, cap, rfl⟩
  | old l v h => exact h.shape
  | row _ b cap cs hN hcap hmax hl hc h1 h2 hb he => exact ⟨_, _, rfl⟩
theorem CN.nodes {W : World} {Nn Sx S : Nat → Prop} {l : List PN} {v : Value} (h : CN W Nn Sx l v) (hn : ∀ b, Nn b → S b) (hs : ∀ b, Sx b → S b) : Nodes W S l v := by
  induction h with
  | nil a cap => exact .nil a cap
  | old l v h => exact h.mono (fun b hb _ => hs b hb)
  | row l b cap cs hN hcap hmax hl hc h1 h2 hb he ihb ihe =>
    exact .row l b 0 cap cs (hn b hN) hcap hmax hl (fun i hi => by rw [Nat.zero_add]; exact hc i hi) h1 (fun i hi => (h2 i hi).keep (fun _ _ _ => rfl) (fun b hb _ => hs b hb)) ihb ihe
/-- a copy says what the row says -/
theorem CN.copy {W : World} {Nn Sx : Nat → Prop} {l0 : List PN} {b o n c g cap : Nat} (h : CN W Nn Sx l0 (.slice (some ⟨b, o, none⟩) n c)) (hg : Nn g) (hcap : n ≤ cap) (hmax : cap ≤ maxLen) (he : ∀ j, j < n * 34 → W.cell? ⟨g, j, none⟩ = W.cell? ⟨b, o + j, none⟩) : CN W Nn Sx l0 (.slice (some ⟨g, 0, none⟩) n cap) := by
  have hlen : l0.length = n := by
    obtain ⟨a, c', e⟩ := h.shape
    injection e with _ e _
    exact e.symm
  by_cases hn : n = 0
  · rw [List.length_eq_zero_iff.1 (hlen.trans hn), hn]; exact .nil _ _
  · rw [← hlen] at hcap he ⊢
    have key : ∃ cs : Nat → NC, (∀ i (h : i < l0.length), W.rangeAt b (o + i * 34) (cs i).cells) ∧ (∀ i (h : i < l0.length), (cs i).line = l0[i].line ∧ (cs i).en = l0[i].en ∧ (cs i).mid = l0[i].mid) ∧ (∀ i (h : i < l0.length), HoldsF Sx W (cs i).cs l0[i].ps.full) ∧ (∀ i (h : i < l0.length), CN W Nn Sx l0[i].body (cs i).bv) ∧ (∀ i (h : i < l0.length), CN W Nn Sx l0[i].els (cs i).ev) := by
      cases h with
      | nil a cap => simp at hn
      | old l v h =>
        cases h with
        | nil a cap => simp at hn
        | row _ _ _ _ cs hS hcap2 hmax2 hl hc h1 h2 hb he2 => exact ⟨cs, hc, h1, h2, fun i hi => .old _ _ (hb i hi), fun i hi => .old _ _ (he2 i hi)⟩
      | row _ _ _ cs hN hcap2 hmax2 hl hc h1 h2 hb he2 => exact ⟨cs, fun i hi => by rw [Nat.zero_add]; exact hc i hi, h1, h2, hb, he2⟩
    obtain ⟨cs, hc, h1, h2, hb, he'⟩ := key
    refine .row l0 g cap cs hg hcap hmax (by omega) (fun i hi j v hj => ?_) h1 h2 hb he'
    have hj34 := (List.getElem?_eq_some_iff.1 hj).1
    rw [NC.len (h2 i hi).size.1] at hj34
    rw [he _ (by omega), ← Nat.add_assoc]
    exact hc i hi j v hj
/-- a list's place is turned to a copy: what is said stays the same -/
theorem CN.swap {W : World} {Nn Sx : Nat → Prop} {g p : Nat} {v0 u : Value} {l : List PN} {v : Value} (hg : Nn g) (hns : ¬ Sx g) (hp : p % 34 = 31 ∨ p % 34 = 32) (h0 : W.cell? ⟨g, p, none⟩ = some v0) (hu : ∀ l0, CN (W.setCell ⟨g, p, none⟩ u) Nn Sx l0 v0 → CN (W.setCell ⟨g, p, none⟩ u) Nn Sx l0 u) (h : CN W Nn Sx l v) : CN (W.setCell ⟨g, p, none⟩ u) Nn Sx l v := by
  have hsx : ∀ b, Sx b → b < W.heap.size → (W.setCell ⟨g, p, none⟩ u).heap[b]? = W.heap[b]? := fun b hb _ => set_heap (fun e => hns (e ▸ hb))
  induction h with
  | nil a cap => exact .nil a cap
  | old l v h => exact .old l v (h.keep hsx (fun _ h _ => h))
  | row l b cap cs hN hcap hmax hl hc h1 h2 hb he ihb ihe =>
    by_cases hbg : b = g
    · subst hbg
      have hat : ∀ i (h : i < l.length), _ := fun i h => (nc_at (W := W) (b := b) (o := i * 34) (h2 i h).size.1).1 (hc i h)
      refine .row l b cap (fun i => if i * 34 + 31 = p then { cs i with bv := u } else if i * 34 + 32 = p then { cs i with ev := u } else cs i) hN hcap hmax hl (fun i hi => ?_) (fun i hi => ?_) (fun i hi => ?_) (fun i hi => ?_) (fun i hi => ?_)
      · obtain ⟨k0, k1, k2, k31, k32, k33⟩ := hat i hi
        have hr2 : (W.setCell ⟨b, p, none⟩ u).rangeAt b (i * 34 + 2) (cs i).cs.toList := fun j v hj => by
          have hjl := (List.getElem?_eq_some_iff.1 hj).1
          have h29 : (cs i).cs.toList.length = 29 := by simpa using (h2 i hi).size.1
          exact (set_other (.inr (by omega))).trans (k2 j v hj)
        by_cases q1 : i * 34 + 31 = p
        · simp only [if_pos q1]
          refine (nc_at (c := { cs i with bv := u }) (h2 i hi).size.1).2 ⟨(set_other (.inr (by omega))).trans k0, (set_other (.inr (by omega))).trans k1, hr2, ?_, (set_other (.inr (by omega))).trans k32, (set_other (.inr (by omega))).trans k33⟩
          rw [q1]; exact World.cell?_setCell_same _ _ _ h0
        · by_cases q2 : i * 34 + 32 = p
          · simp only [if_neg q1, if_pos q2]
            refine (nc_at (c := { cs i with ev := u }) (h2 i hi).size.1).2 ⟨(set_other (.inr (by omega))).trans k0, (set_other (.inr (by omega))).trans k1, hr2, (set_other (.inr (by omega))).trans k31, ?_, (set_other (.inr (by omega))).trans k33⟩
            rw [q2]; exact World.cell?_setCell_same _ _ _ h0
          · simp only [if_neg q1, if_neg q2]
            exact (nc_at (h2 i hi).size.1).2 ⟨(set_other (.inr (by omega))).trans k0, (set_other (.inr (by omega))).trans k1, hr2, (set_other (.inr (by omega))).trans k31, (set_other (.inr (by omega))).trans k32, (set_other (.inr (by omega))).trans k33⟩
      · have := h1 i hi
        split
        · exact this
        · split <;> exact this
      · have := (h2 i hi).keep hsx (fun _ h _ => h)
        split
        · exact this
        · split <;> exact this
      · by_cases q1 : i * 34 + 31 = p
        · simp only [if_pos q1]
          refine hu _ ?_
          have k31 := (hat i hi).2.2.2.1
          rw [q1, h0] at k31
          injection k31 with k31
          rw [k31]
          exact ihb i hi
        · by_cases q2 : i * 34 + 32 = p
          · simp only [if_neg q1, if_pos q2]; exact ihb i hi
          · simp only [if_neg q1, if_neg q2]; exact ihb i hi
      · by_cases q1 : i * 34 + 31 = p
        · simp only [if_pos q1]; exact ihe i hi
        · by_cases q2 : i * 34 + 32 = p
          · simp only [if_neg q1, if_pos q2]
            refine hu _ ?_
            have k32 := (hat i hi).2.2.2.2.1
            rw [q2, h0] at k32
            injection k32 with k32
            rw [k32]
            exact ihe i hi
          · simp only [if_neg q1, if_neg q2]; exact ihe i hi
    · refine .row l b cap cs hN hcap hmax hl (fun i hi => range_keep (hc i hi) (set_heap hbg)) h1 (fun i hi => (h2 i hi).keep hsx (fun _ h _ => h)) ihb ihe
/-- a statement is turned to a copy: what is said stays the same -/
theorem CN.stmt {W W' : World} {Nn Sx Sx' : Nat → Prop} {g k : Nat} {cs0 cs' : Array Value} {f : FS} {S0 : Nat → Prop} (hns : ¬ Sx g) (hr0 : W.rangeAt g (k * 34 + 2) cs0.toList) (hf0 : HoldsF S0 W cs0 f) (hu : UpdC (fun b j => b = g ∧ k * 34 + 2 ≤ j ∧ j < k * 34 + 2 + 29) W W') (hr' : W'.rangeAt g (k * 34 + 2) cs'.toList) (hf' : HoldsF Sx' W' cs' f) (hs : ∀ b, Sx b → Sx' b)
    {l : List PN} {v : Value} (h : CN W Nn Sx l v) : CN W' Nn Sx' l v := by
  have hblk : ∀ b, b ≠ g → b < W.heap.size → W'.heap[b]? = W.heap[b]? := fun b hb hl => hu.same b hl (fun o e => hb e.1)
  have hsx : ∀ b, Sx b → b < W.heap.size → W'.heap[b]? = W.heap[b]? := fun b hb hl => hblk b (fun e => hns (e ▸ hb)) hl
  induction h with
  | nil a cap => exact .nil a cap
  | old l v h => exact .old l v (h.keep hsx (fun b hb _ => hs b hb))
  | row l b cap cs hN hcap hmax hl hc h1 h2 hb he ihb ihe =>
    have hlt : b < W.heap.size := range_lt (hc 0 hl)
    by_cases hbg : b = g
    · subst hbg
      have hat : ∀ i (h : i < l.length), _ := fun i h => (nc_at (W := W) (b := b) (o := i * 34) (h2 i h).size.1).1 (hc i h)
      refine .row l b cap (fun i => if i = k then { cs i with cs := cs' } else cs i) hN hcap hmax hl (fun i hi => ?_) (fun i hi => ?_) (fun i hi => ?_) (fun i hi => ?_) (fun i hi => ?_)
      · obtain ⟨k0, k1, k2, k31, k32, k33⟩ := hat i hi
        by_cases q : i = k
        · subst q
          simp only [ite_true]
          refine (nc_at (c := { cs i with cs := cs' }) hf'.size.1).2 ⟨hu.cell k0 (fun e => by omega), hu.cell k1 (fun e => by omega), hr', hu.cell k31 (fun e => by omega), hu.cell k32 (fun e => by omega), hu.cell k33 (fun e => by omega)⟩
        · simp only [if_neg q]
          refine (nc_at (h2 i hi).size.1).2 ⟨hu.cell k0 (fun e => by omega), hu.cell k1 (fun e => by omega), fun j v hj => ?_, hu.cell k31 (fun e => by omega), hu.cell k32 (fun e => by omega), hu.cell k33 (fun e => by omega)⟩
          have hjl := (List.getElem?_eq_some_iff.1 hj).1
          have h29 : (cs i).cs.toList.length = 29 := by simpa using (h2 i hi).size.1
          exact hu.cell (k2 j v hj) (fun e => by omega)
      · have := h1 i hi
        split <;> exact this
      · by_cases q : i = k
        · subst q
          simp only [ite_true]
          have e : (cs i).cs = cs0 := by
            have s1 := (h2 i hi).size.1
            have s2 := hf0.size.1
            refine Array.ext (s1.trans s2.symm) (fun j j1 j2 => ?_)
            have a1 := (hat i hi).2.2.1 j _ (by rw [Array.getElem?_toList]; exact Array.getElem?_eq_getElem j1)
            have a2 := hr0 j _ (by rw [Array.getElem?_toList]; exact Array.getElem?_eq_getElem j2)
            rw [a1] at a2
            exact Option.some.inj a2
          have d := h2 i hi
          rw [e] at d
          rw [d.det hf0]
          exact hf'
        · simp only [if_neg q]
          exact (h2 i hi).keep hsx (fun b hb _ => hs b hb)
      · have := ihb i hi
        split <;> exact this
      · have := ihe i hi
        split <;> exact this
    · exact .row l b cap cs hN hcap hmax hl (fun i hi => range_keep (hc i hi) (hblk b hbg hlt)) h1 (fun i hi => (h2 i hi).keep hsx (fun b hb _ => hs b hb)) ihb ihe
/-- how much is to be copied -/
def szP : PN → Nat
  | .mk _ _ _ b e _ => 2 + szPs b + szPs e
where szPs : List PN → Nat
  | [] => 0
  | n :: l => szP n + szPs l
end Go.Proofs.YthkbchefjagbbaaGreatDoor.Line

namespace Go.Proofs.YthkbchefjagbbaaGreatDoor.Line
open Go.ChangeShapes Go.WideShapes Go.ChangeAt Go.RowKit
open Ex (E St)
set_option linter.unusedVariables false

abbrev NLP : TypeId := 228
abbrev NLS : TypeId := 229
theorem infoNL : (Tryz.prog.info? NLP).map (fun i => (i.zero, i.size, i.bytes)) = some (some (.pointer none), 1, 8) := by kernel_rfl
/-- a place, and the nodes that are told there -/
abbrev NHole : Type := Nat × Nat × List PN
def nptrV (x : NHole) : Value := .pointer (some ⟨x.1, x.2.1, none⟩)
theorem szPs_cons (n : PN) (l : List PN) : szP.szPs (n :: l) = 2 + szP.szPs n.body + szP.szPs n.els + szP.szPs l := by cases n; rw [szP.szPs, szP]; rfl
/-- nodes as a list of cells -/
theorem nodes_news {W : World} {S : Nat → Prop} {l : List PN} {v : Value} (h : Nodes W S l v) : ∃ a c, ∃ cs : List NC, v = .slice a l.length c ∧ SliceHas W a l.length (flatN cs) ∧ cs.length = l.length ∧ (∀ (i : Nat) c n, cs[i]? = some c → l[i]? = some n → Node1 W S c n) ∧ (∀ u ∈ flatN cs, u.oneCell' = true) ∧ (∀ b o, a = some ⟨b, o, none⟩ → 0 < l.length → S b) ∧ ∀ c ∈ cs, c.cs.size = 29 := by
  cases h with
  | nil a cap => exact ⟨a, cap, [], rfl, .inl rfl, rfl, (fun i c n h => by simp at h), (fun u hu => by cases hu), (fun _ _ _ h => absurd h (Nat.lt_irrefl 0)), (fun c hc => by cases hc)⟩
  | row _ b off cap cs hS hcap hmax hl hc h1 h2 hb he =>
    have hlen : (List.ofFn (fun i : Fin l.length => cs i)).length = l.length := List.length_ofFn
    have hmem : ∀ y ∈ List.ofFn (fun i : Fin l.length => cs i), ∃ i, ∃ h : i < l.length, y = cs i := fun y hy => by
      obtain ⟨i, rfl⟩ := List.mem_ofFn.1 hy
      exact ⟨i.1, i.2, rfl⟩
    have hone : ∀ i (h : i < l.length), Node1 W S (cs i) l[i] := fun i hi => ⟨(h1 i hi).1, (h1 i hi).2.1, (h1 i hi).2.2, h2 i hi, hb i hi, he i hi⟩
    have hsz : ∀ c ∈ List.ofFn (fun i : Fin l.length => cs i), c.cs.size = 29 := fun y hy => by
      obtain ⟨i, hi, rfl⟩ := hmem y hy
      exact (h2 i hi).size.1
    refine ⟨some ⟨b, off, none⟩, cap, List.ofFn (fun i : Fin l.length => cs i), rfl, .inr ⟨b, off, rfl, fun j v hv => ?_⟩, hlen, fun i c n p q => ?_, fun u hu => ?_, fun b' o' e _ => ?_, hsz⟩
    · have hj := (List.getElem?_eq_some_iff.1 hv).1
      rw [flatN_length _ hsz, hlen] at hj
      have hi : j / 34 < l.length := by omega
      have e := flatN_get _ hsz (j / 34) (by omega) (j % 34) (by omega)
      rw [show j / 34 * 34 + j % 34 = j by omega, hv] at e
      simp only [List.getElem_ofFn] at e
      have := hc (j / 34) hi (j % 34) v e.symm
      rw [show off + j = off + j / 34 * 34 + j % 34 by omega]
      exact this
    · obtain ⟨p1, rfl⟩ := List.getElem?_eq_some_iff.1 p
      obtain ⟨q1, rfl⟩ := List.getElem?_eq_some_iff.1 q
      simp only [List.getElem_ofFn]
      exact hone i q1
    · obtain ⟨y, hy, hu⟩ := List.mem_flatMap.1 hu
      obtain ⟨i, hi, rfl⟩ := hmem y hy
      exact (hone i hi).one u hu
    · injection e with e
      injection e with e
      exact e ▸ hS
/-- of all nodes those of P are still to be copied; the box is w's next block -/
structure TInv (w wr : World) (Stb : Nat → Prop) (l0 : List PN) (lv : Value) (P : List NHole) (Nn Sx : Nat → Prop) : Prop where
  row : wr.ownsRow (w.heap.size + 1) NLP 1 lv P.length (P.map nptrV)
  pend : ∀ x ∈ P, ∃ v, wr.cell? ⟨x.1, x.2.1, none⟩ = some v ∧ Nodes wr Stb x.2.2 v ∧ wr.frozen? ⟨x.1, x.2.1, none⟩ = false ∧ ((Nn x.1 ∧ (x.2.1 % 34 = 31 ∨ x.2.1 % 34 = 32)) ∨ (x.1 = w.heap.size ∧ x.2.1 = 0))
  root : ∃ v, wr.cell? ⟨w.heap.size, 0, none⟩ = some v ∧ CN wr Nn Sx l0 v ∧ wr.frozen? ⟨w.heap.size, 0, none⟩ = false
  dist : (P.map fun x => (x.1, x.2.1)).Nodup
  nn : ∀ b, Nn b → w.heap.size < b ∧ b < wr.heap.size ∧ some b ≠ lv.ownBlock
  sx : ∀ b, Sx b → b < wr.heap.size ∧ b ≠ w.heap.size ∧ ¬ Nn b ∧ some b ≠ lv.ownBlock ∧ (Stb b ∨ w.heap.size < b)
  stb : ∀ b, Stb b → Sx b ∧ b < w.heap.size
  below : Below w.heap.size w wr
theorem TInv.top {w wr : World} {Stb : Nat → Prop} {l0 : List PN} {lv : Value} {P : List NHole} {x : NHole} {Nn Sx : Nat → Prop} (h : TInv w wr Stb l0 lv (P ++ [x]) Nn Sx) : ∃ q cap, lv = .slice (some ⟨q, 0, none⟩) (P.length + 1) cap ∧ P.length + 1 ≤ cap ∧ wr.cell? ⟨q, P.length, none⟩ = some (nptrV x) ∧ w.heap.size < q ∧ q < wr.heap.size := by
  have hrow := h.row
  rw [List.length_append, List.length_singleton] at hrow
  rcases hrow.2 with ⟨e, h5⟩ | ⟨q, cap, cur, e, hg, hh, hc, _⟩
  · exact absurd h5 (Nat.succ_ne_zero _)
  · subst e
    refine ⟨q, cap, rfl, hc, ?_, hg, (hrow.lt q rfl).2⟩
    rw [World.ownsRow.cellAt hrow _ (by omega), List.map_append, List.getElem?_append_right (by simp), List.length_map, Nat.sub_self]
    rfl
theorem TInv.pop {w wr : World} {Stb : Nat → Prop} {l0 : List PN} {q cap : Nat} {P : List NHole} {x : NHole} {Nn Sx : Nat → Prop} (h : TInv w wr Stb l0 (.slice (some ⟨q, 0, none⟩) (P.length + 1) cap) (P ++ [x]) Nn Sx) : TInv w wr Stb l0 (.slice (some ⟨q, 0, none⟩) P.length cap) P Nn Sx := by
  have hrow := h.row
  rw [List.length_append, List.length_singleton, List.map_append] at hrow
  exact ⟨row_shrink hrow (by simp), fun y hy => h.pend y (List.mem_append_left _ hy), h.root, by have := h.dist; rw [List.map_append] at this; exact (List.nodup_append.1 this).1, h.nn, h.sx, h.stb, h.below⟩
/-- what the worklist's block is not -/
theorem TInv.apart {w wr : World} {Stb : Nat → Prop} {l0 : List PN} {lv : Value} {P : List NHole} {Nn Sx : Nat → Prop} (h : TInv w wr Stb l0 lv P Nn Sx) : some w.heap.size ≠ lv.ownBlock ∧ ∀ x ∈ P, some x.1 ≠ lv.ownBlock := by
  have h0 : some w.heap.size ≠ lv.ownBlock := fun e => by have := (h.row.lt _ e.symm).1; omega
  refine ⟨h0, fun x hx => ?_⟩
  obtain ⟨v, _, _, _, h4⟩ := h.pend x hx
  rcases h4 with ⟨hN, _⟩ | ⟨e, _⟩
  · exact (h.nn _ hN).2.2
  · rw [e]; exact h0
/-- one list is copied, and its copy stored -/
theorem TInv.put {w wr w1 : World} {Stb : Nat → Prop} {l0 : List PN} {q cap : Nat} {P : List NHole} {x : NHole} {Nn Sx : Nat → Prop} {v v' : Value} {cs : List NC} (h : TInv w wr Stb l0 (.slice (some ⟨q, 0, none⟩) P.length cap) P Nn Sx)
    (hxP : ∀ z ∈ P, ¬ (z.1 = x.1 ∧ z.2.1 = x.2.1)) (hx : (Nn x.1 ∧ (x.2.1 % 34 = 31 ∨ x.2.1 % 34 = 32)) ∨ (x.1 = w.heap.size ∧ x.2.1 = 0)) (hc : wr.cell? ⟨x.1, x.2.1, none⟩ = some v) {a : Option Addr} {c : Nat} (hv : v = .slice a x.2.2.length c) (hs : SliceHas wr a x.2.2.length (flatN cs)) (hcl : cs.length = x.2.2.length) (hcs : ∀ (i : Nat) c n, cs[i]? = some c → x.2.2[i]? = some n → Node1 wr Stb c n) (haS : ∀ b o, a = some ⟨b, o, none⟩ → 0 < x.2.2.length → Stb b) (hsz : ∀ c ∈ cs, c.cs.size = 29)
    (ho : w1.ownsRow wr.heap.size NDT 34 v' x.2.2.length (flatN cs)) (hb : Below wr.heap.size wr w1) :
    TInv w (w1.setCell ⟨x.1, x.2.1, none⟩ v') Stb l0 (.slice (some ⟨q, 0, none⟩) P.length cap) P (fun b => Nn b ∨ some b = v'.ownBlock) Sx ∧ (w1.setCell ⟨x.1, x.2.1, none⟩ v').cell? ⟨x.1, x.2.1, none⟩ = some v' ∧ (∀ i (h1 : i < x.2.2.length) (h2 : i < cs.length), Node1 (w1.setCell ⟨x.1, x.2.1, none⟩ v') Stb cs[i] x.2.2[i]) ∧ (∀ g n c', v' = .slice (some ⟨g, 0, none⟩) n c' → (∀ o, (w1.setCell ⟨x.1, x.2.1, none⟩ v').frozen? ⟨g, o, none⟩ = false) ∧ ∀ i (h2 : i < cs.length), (w1.setCell ⟨x.1, x.2.1, none⟩ v').rangeAt g (i * 34) cs[i].cells) ∧ x.1 < wr.heap.size ∧ (∀ b, some b = v'.ownBlock → wr.heap.size ≤ b) := by
  have hxl := cell_lt hc
  have hz1 := hb.size
  have hws := h.below.size
  have hn1 : ∀ b, some b = v'.ownBlock → wr.heap.size ≤ b ∧ b < w1.heap.size := fun b e => ho.lt b e.symm
  have hxS : ¬ Sx x.1 := fun hS => by
    have := h.sx _ hS
    rcases hx with ⟨h1, _⟩ | ⟨h1, _⟩
    · exact this.2.2.1 h1
    · exact this.2.1 h1
  have hbw : w.heap.size < wr.heap.size := by
    obtain ⟨u, h1, _⟩ := h.root
    exact cell_lt h1
  have hxq : x.1 ≠ q := fun e => by
    rcases hx with ⟨h1, _⟩ | ⟨h1, _⟩
    · exact (h.nn _ h1).2.2 (by rw [e]; rfl)
    · exact h.apart.1 (by rw [← h1, e]; rfl)
  have hrow2 : (w1.setCell ⟨x.1, x.2.1, none⟩ v').ownsRow wr.heap.size NDT 34 v' x.2.2.length (flatN cs) := ownsRow_of ho (fun k hk => set_heap (by have := (hn1 k hk.symm).1; omega))
  have hst : ∀ b, Sx b → b < wr.heap.size → (w1.setCell ⟨x.1, x.2.1, none⟩ v').heap[b]? = wr.heap[b]? := fun b hS hl => (set_heap (fun e => hxS (by rw [← e]; exact hS))).trans (hb.block b hl)
  have hsb : ∀ b, Stb b → b < wr.heap.size → (w1.setCell ⟨x.1, x.2.1, none⟩ v').heap[b]? = wr.heap[b]? := fun b hS hl => hst b (h.stb b hS).1 hl
  have hlen : (flatN cs).length = x.2.2.length * 34 := by rw [flatN_length _ hsz, hcl]
  have hcopy : ∀ l1, CN (w1.setCell ⟨x.1, x.2.1, none⟩ v') (fun b => Nn b ∨ some b = v'.ownBlock) Sx l1 v → CN (w1.setCell ⟨x.1, x.2.1, none⟩ v') (fun b => Nn b ∨ some b = v'.ownBlock) Sx l1 v' := by
    intro l1 h0
    by_cases hn : x.2.2.length = 0
    · obtain ⟨a0, c0, e0⟩ := h0.shape
      rw [hv] at e0
      injection e0 with _ e0 _
      have : l1 = [] := List.length_eq_zero_iff.1 (by omega)
      subst this
      rcases ho.2 with ⟨e, _⟩ | ⟨g, cp, cur, e, _⟩
      · rw [e]; exact .nil _ _
      · rw [e, hn]; exact .nil _ _
    · rcases hs with hs | ⟨b, o, ea, hr⟩
      · exact absurd hs hn
      · rcases hrow2.2 with ⟨_, e⟩ | ⟨g, cp, cur, e, hg, hh, hcp, hmx, _⟩
        · exact absurd e hn
        · rw [hv, ea] at h0
          have hbS : Stb b := haS b o ea (by omega)
          have hjl : ∀ j, j < x.2.2.length * 34 → j < (flatN cs).length := fun j hj => by rw [hlen]; exact hj
          have h9 := h0.copy (g := g) (cap := cp) (.inr (by rw [e]; rfl)) hcp hmx (fun j hj => by
            have h1 : (w1.setCell ⟨x.1, x.2.1, none⟩ v').cell? ⟨b, o + j, none⟩ = some ((flatN cs)[j]'(hjl j hj)) := (World.cell?_of_block (a := ⟨b, o + j, none⟩) (hsb b hbS (cell_lt (hr j _ (List.getElem?_eq_getElem (hjl j hj)))))).trans (hr j _ (List.getElem?_eq_getElem (hjl j hj)))
            have h2 : (w1.setCell ⟨x.1, x.2.1, none⟩ v').cell? ⟨g, j, none⟩ = some ((flatN cs)[j]'(hjl j hj)) := (World.ownsRow.cells hrow2 (by rw [e]; rfl) j _ (List.getElem?_eq_getElem (hjl j hj)) |> fun h => by rw [Addr.add_mid, Nat.zero_add] at h; exact h)
            rw [h1, h2])
          rw [← e] at h9
          exact h9
  have hCN : ∀ {l : List PN} {u : Value}, CN wr Nn Sx l u → CN (w1.setCell ⟨x.1, x.2.1, none⟩ v') (fun b => Nn b ∨ some b = v'.ownBlock) Sx l u := fun {l u} h0 => by
    have h1 : CN w1 (fun b => Nn b ∨ some b = v'.ownBlock) Sx l u := h0.keep (fun b _ hl => hb.block b hl) (fun b hN _ => .inl hN) (fun _ h _ => h)
    rcases hx with ⟨hN, hm⟩ | ⟨e1, e2⟩
    · exact h1.swap (.inl hN) hxS hm ((hb.cell (p := ⟨x.1, x.2.1, none⟩) hxl).trans hc) hcopy
    · refine h1.keep (fun b hb2 hl => set_heap (fun e => ?_)) (fun _ h _ => h) (fun _ h _ => h)
      rcases hb2 with (hN | hN) | hS
      · have := (h.nn b hN).1; omega
      · have := (hn1 b hN).1; omega
      · exact hxS (by rw [← e]; exact hS)
  have hcell : (w1.setCell ⟨x.1, x.2.1, none⟩ v').cell? ⟨x.1, x.2.1, none⟩ = some v' := World.cell?_setCell_same _ _ _ ((hb.cell (p := ⟨x.1, x.2.1, none⟩) hxl).trans hc)
  have hfrz : ∀ b o, b < wr.heap.size → (w1.setCell ⟨x.1, x.2.1, none⟩ v').frozen? ⟨b, o, none⟩ = wr.frozen? ⟨b, o, none⟩ := fun b o hl => by
    rw [World.frozen?_setCell]; exact hb.frozen (p := ⟨b, o, none⟩) hl
  have hsame : ∀ b o u, wr.cell? ⟨b, o, none⟩ = some u → ¬ (b = x.1 ∧ o = x.2.1) → (w1.setCell ⟨x.1, x.2.1, none⟩ v').cell? ⟨b, o, none⟩ = some u := fun b o u h1 h2 => by
    rw [set_other (by by_cases hb2 : b = x.1 <;> by_cases ho2 : o = x.2.1 <;> simp_all)]
    exact (hb.cell (p := ⟨b, o, none⟩) (cell_lt h1)).trans h1
  have hsz2 : (w1.setCell ⟨x.1, x.2.1, none⟩ v').heap.size = w1.heap.size := by simp [World.setCell]
  refine ⟨⟨ownsRow_of h.row (fun k hk => ?_), fun z hz => ?_, ?_, h.dist, fun b hN => ?_, fun b hS => ?_, h.stb, ?_⟩, hcell, fun i p1 p2 => (hcs i _ _ (List.getElem?_eq_getElem p2) (List.getElem?_eq_getElem p1)).keep (fun b hS hl => hsb b hS hl) (fun _ h _ => h), fun g n c' e => ?_, hxl, fun b e => (hn1 b e).1⟩
  · have : q = k := Option.some.inj hk
    subst this
    exact (set_heap (fun e => hxq e.symm)).trans (hb.block q (h.row.lt q rfl).2)
  · obtain ⟨u, h1, h2, h3, h4⟩ := h.pend z hz
    exact ⟨u, hsame _ _ _ h1 (hxP z hz), h2.keep (fun b hS hl => hsb b hS hl) (fun _ h _ => h), (hfrz _ _ (cell_lt h1)).trans h3, h4.imp (fun h => ⟨.inl h.1, h.2⟩) id⟩
  · obtain ⟨u, h1, h2, h3⟩ := h.root
    by_cases he : w.heap.size = x.1 ∧ 0 = x.2.1
    · obtain ⟨e1, e2⟩ := he
      rw [e1, e2] at h1 h3 ⊢
      rw [hc] at h1
      injection h1 with h1
      subst h1
      exact ⟨v', hcell, hcopy _ (hCN h2), (hfrz _ _ hxl).trans h3⟩
    · exact ⟨u, hsame _ _ _ h1 he, hCN h2, (hfrz _ _ (cell_lt h1)).trans h3⟩
  · rcases hN with hN | hN
    · have := h.nn b hN
      exact ⟨this.1, by omega, this.2.2⟩
    · have := hn1 b hN
      exact ⟨by omega, by omega, fun e => by have e : b = q := Option.some.inj e; have := (h.row.lt q rfl).2; omega⟩
  · have := h.sx b hS
    refine ⟨by omega, this.2.1, fun hN => ?_, this.2.2.2⟩
    rcases hN with hN | hN
    · exact this.2.2.1 hN
    · have := (hn1 b hN).1; omega
  · refine Below.trans h.below ((hb.mono hws).setCell ?_ v')
    rcases hx with ⟨hN, _⟩ | ⟨e, _⟩
    · have := (h.nn _ hN).1; show w.heap.size ≤ x.1; omega
    · show w.heap.size ≤ x.1; omega
  · subst e
    obtain ⟨a9, cap9, e9⟩ : ∃ a c, Value.slice (some ⟨g, 0, none⟩) n c' = .slice a x.2.2.length c := by
      rcases ho.2 with ⟨e, h5⟩ | ⟨_, cp, cur, e, _⟩
      · cases e
      · exact ⟨_, _, e⟩
    injection e9 with _ en _
    subst en
    refine ⟨fun o => World.ownsRow.frozenAt hrow2 o, fun i p2 j u hj => ?_⟩
    have hj34 := (List.getElem?_eq_some_iff.1 hj).1
    rw [NC.len (hsz _ (List.getElem_mem p2))] at hj34
    rw [World.ownsRow.cellAt hrow2 _ (by omega), flatN_get _ hsz i p2 j hj34]
    exact hj
/-- a statement is copied where it stands -/
theorem TInv.stmt {w wr W : World} {Stb : Nat → Prop} {l0 : List PN} {lv : Value} {P : List NHole} {Nn Sx : Nat → Prop} (h : TInv w wr Stb l0 lv P Nn Sx) {g k : Nat} {cs0 cs' : Array Value} {f : FS} (hg : Nn g) (hr0 : wr.rangeAt g (k * 34 + 2) cs0.toList) (hf0 : HoldsF Stb wr cs0 f)
    (hu : UpdC (fun b j => b = g ∧ k * 34 + 2 ≤ j ∧ j < k * 34 + 2 + 29) wr W) (hr' : W.rangeAt g (k * 34 + 2) cs'.toList) (hf' : HoldsF (fun b => Stb b ∨ wr.heap.size ≤ b) W cs' f) :
    ∃ Sx', TInv w W Stb l0 lv P Nn Sx' := by
  have hsz := hu.size
  have hws := h.below.size
  have hgs : ¬ Sx g := fun hS => (h.sx g hS).2.2.1 hg
  have hbw : w.heap.size < wr.heap.size := by
    obtain ⟨u, h1, _⟩ := h.root
    exact cell_lt h1
  have hng := h.nn g hg
  have hblk : ∀ b, b ≠ g → b < wr.heap.size → W.heap[b]? = wr.heap[b]? := fun b hb hl => hu.same b hl (fun o e => hb e.1)
  have hsb : ∀ b, Stb b → b < wr.heap.size → W.heap[b]? = wr.heap[b]? := fun b hS hl => hblk b (fun e => hgs (e ▸ (h.stb b hS).1)) hl
  have hlvlt : ∀ b, some b = lv.ownBlock → b < wr.heap.size := fun b e => (h.row.lt b e.symm).2
  refine ⟨fun b => Sx b ∨ (wr.heap.size ≤ b ∧ b < W.heap.size), ownsRow_of h.row (fun k hk => hblk k (fun e => hng.2.2 (by rw [← e]; exact hk.symm)) (hlvlt k hk.symm)), fun z hz => ?_, ?_, h.dist, fun b hN => ?_, fun b hS => ?_, fun b hS => ⟨.inl (h.stb b hS).1, (h.stb b hS).2⟩, ?_⟩
  · obtain ⟨u, h1, h2, h3, h4⟩ := h.pend z hz
    have hz1 : ¬ (z.1 = g ∧ k * 34 + 2 ≤ z.2.1 ∧ z.2.1 < k * 34 + 2 + 29) := fun e => by
      rcases h4 with ⟨_, hm⟩ | ⟨e1, _⟩
      · omega
      · have := hng.1; omega
    exact ⟨u, hu.cell h1 hz1, h2.keep hsb (fun _ h _ => h), (hu.frozen h1 ⟨0, fun e => by omega⟩).trans h3, h4⟩
  · obtain ⟨u, h1, h2, h3⟩ := h.root
    exact ⟨u, hu.cell h1 (fun e => by have := hng.1; omega), h2.stmt hgs hr0 hf0 hu hr' (hf'.keep (fun _ _ _ => rfl) (fun b hb hl => hb.imp (fun hS => (h.stb b hS).1) (fun hS => ⟨hS, hl⟩))) (fun b hS => .inl hS), (hu.frozen h1 ⟨0, fun e => by omega⟩).trans h3⟩
  · have := h.nn b hN
    exact ⟨this.1, by omega, this.2.2⟩
  · rcases hS with hS | hS
    · have := h.sx b hS
      exact ⟨by omega, this.2.1, this.2.2.1, this.2.2.2⟩
    · exact ⟨hS.2, by omega, fun hN => by have := (h.nn b hN).2.1; omega, fun e => by have := hlvlt b e; omega, .inr (by omega)⟩
  · exact Below.trans h.below ⟨hu.os, hu.tape, hu.output, hu.size, fun b hb => hblk b (by have := hng.1; omega) (by omega)⟩
/-- two more are to be copied -/
theorem TInv.push2 {w wr : World} {Stb : Nat → Prop} {l0 : List PN} {lv : Value} {P : List NHole} {Nn Sx : Nat → Prop} (h : TInv w wr Stb l0 lv P Nn Sx) {g k : Nat} {v1 v2 : Value} {lb le : List PN} (hg : Nn g) (hc1 : wr.cell? ⟨g, k * 34 + 31, none⟩ = some v1) (hc2 : wr.cell? ⟨g, k * 34 + 32, none⟩ = some v2) (hF1 : Nodes wr Stb lb v1) (hF2 : Nodes wr Stb le v2) (hfr : ∀ o, wr.frozen? ⟨g, o, none⟩ = false)
    (hd : ∀ z ∈ P, ¬ (z.1 = g ∧ k * 34 ≤ z.2.1)) (hP : P.length ≤ 1000000) :
    ∃ lv' w9, (Builtin.append_ #[NLS, NLS] NLS #[lv, .slice (some ⟨wr.heap.size, 0, none⟩) 2 2]).run Tryz.prog (wr.alloc (.cells #[.pointer (some ⟨g, k * 34 + 31, none⟩), .pointer (some ⟨g, k * 34 + 32, none⟩)] NLP)) = .ok lv' w9 ∧ TInv w w9 Stb l0 lv' (P ++ [(g, k * 34 + 31, lb), (g, k * 34 + 32, le)]) Nn Sx ∧ Upd (fun b => some b = lv.ownBlock) wr w9 := by
  obtain ⟨i0, hi, hz0, hz1, hz2⟩ := info_parts infoNL
  have hws := h.below.size
  have hbw : w.heap.size < wr.heap.size := by
    obtain ⟨u, h1, _⟩ := h.root
    exact cell_lt h1
  have hsz : (wr.alloc (.cells #[.pointer (some ⟨g, k * 34 + 31, none⟩), .pointer (some ⟨g, k * 34 + 32, none⟩)] NLP)).heap.size = wr.heap.size + 1 := by simp
  have ba := alloc_below wr (.cells #[.pointer (some ⟨g, k * 34 + 31, none⟩), .pointer (some ⟨g, k * 34 + 32, none⟩)] NLP)
  obtain ⟨lv', w9, hr, ho, hgr, _, hat⟩ := run_append_own_at (P := Tryz.prog) (wr.alloc (.cells #[.pointer (some ⟨g, k * 34 + 31, none⟩), .pointer (some ⟨g, k * 34 + 32, none⟩)] NLP)) (w.heap.size + 1) NLS NLS NLP i0 _ 1 8 Tryz.underlying229 hi hz0 hz1 hz2 rfl (by decide) lv P.length (P.map nptrV) (h.row.alloc _) ⟨wr.heap.size, 0, none⟩ 2 2 [.pointer (some ⟨g, k * 34 + 31, none⟩), .pointer (some ⟨g, k * 34 + 32, none⟩)] rfl
    (World.news_of_block (cs := #[.pointer (some ⟨g, k * 34 + 31, none⟩), .pointer (some ⟨g, k * 34 + 32, none⟩)]) (t := NLP) (fr := (0, 0)) (heap_alloc_last wr _)) (fun u hu => by
      rcases List.mem_cons.1 hu with rfl | hu
      · rfl
      · rw [List.mem_singleton.1 hu]; rfl) (by unfold maxLen; omega) (by omega) (by omega)
  rw [hsz] at hat
  have hup : Upd (fun b => some b = lv.ownBlock) wr w9 := ⟨hgr.os.trans ba.os, hgr.tape.trans ba.tape, hgr.output.trans ba.output, Nat.le_trans ba.size hgr.size, fun b h1 h2 => (hgr.block b (by omega) h2).trans (ba.block b h1)⟩
  have hlb : ∀ b, some b = lv.ownBlock → w.heap.size + 1 ≤ b ∧ b < wr.heap.size := fun b e => h.row.lt b e.symm
  have hnb : ∀ b, b < wr.heap.size → some b ≠ lv.ownBlock → some b ≠ lv'.ownBlock := fun b h1 h2 e => by
    rcases hat with e2 | e2
    · exact h2 (by rw [e, e2])
    · rw [e2] at e; injection e with e; omega
  have hold : ∀ b o u, wr.cell? ⟨b, o, none⟩ = some u → some b ≠ lv.ownBlock → w9.cell? ⟨b, o, none⟩ = some u ∧ w9.frozen? ⟨b, o, none⟩ = wr.frozen? ⟨b, o, none⟩ := fun b o u h1 h2 => by
    have hb := hup.block b (cell_lt h1) h2
    exact ⟨(World.cell?_of_block (a := ⟨b, o, none⟩) hb).trans h1, World.frozen?_of_block (a := ⟨b, o, none⟩) hb⟩
  have hsb : ∀ b, Stb b → b < wr.heap.size → w9.heap[b]? = wr.heap[b]? := fun b hS hl => hup.block b hl (h.sx b (h.stb b hS).1).2.2.2.1
  have hnn : ∀ b, Nn b → ¬ some b = lv.ownBlock := fun b hN => (h.nn b hN).2.2
  refine ⟨lv', w9, hr, ⟨?_, fun z hz => ?_, ?_, ?_, fun b hN => ?_, fun b hS => ?_, h.stb, ?_⟩, hup⟩
  · rw [List.map_append, List.length_append]; exact ho
  · rcases List.mem_append.1 hz with hz | hz
    · obtain ⟨u, h1, h2, h3, h4⟩ := h.pend z hz
      obtain ⟨k1, k2⟩ := hold _ _ _ h1 (h.apart.2 z hz)
      exact ⟨u, k1, h2.keep hsb (fun _ h _ => h), k2.trans h3, h4⟩
    · rcases List.mem_cons.1 hz with rfl | hz
      · obtain ⟨k1, k2⟩ := hold _ _ _ hc1 (hnn _ hg)
        exact ⟨v1, k1, hF1.keep hsb (fun _ h _ => h), k2.trans (hfr _), .inl ⟨hg, .inl (by show (k * 34 + 31) % 34 = 31; omega)⟩⟩
      · rw [List.mem_singleton.1 hz]
        obtain ⟨k1, k2⟩ := hold _ _ _ hc2 (hnn _ hg)
        exact ⟨v2, k1, hF2.keep hsb (fun _ h _ => h), k2.trans (hfr _), .inl ⟨hg, .inr (by show (k * 34 + 32) % 34 = 32; omega)⟩⟩
  · obtain ⟨u, h1, h2, h3⟩ := h.root
    obtain ⟨k1, k2⟩ := hold _ _ _ h1 h.apart.1
    exact ⟨u, k1, h2.keep (fun b hb hl => hup.block b hl (by rcases hb with hb | hb; exact hnn b hb; exact (h.sx b hb).2.2.2.1)) (fun _ h _ => h) (fun _ h _ => h), k2.trans h3⟩
  · rw [List.map_append]
    refine List.nodup_append.2 ⟨h.dist, by simp, fun a ha b hb e => ?_⟩
    obtain ⟨z, hz, rfl⟩ := List.mem_map.1 ha
    simp only [List.map_cons, List.map_nil, List.mem_cons, List.not_mem_nil, or_false] at hb
    rcases hb with hb | hb <;> (rw [hb] at e; injection e with e1 e2; exact hd z hz ⟨e1, by omega⟩)
  · have := h.nn b hN
    exact ⟨this.1, Nat.lt_of_lt_of_le this.2.1 hup.size, hnb b this.2.1 this.2.2⟩
  · have := h.sx b hS
    exact ⟨Nat.lt_of_lt_of_le this.1 hup.size, this.2.1, this.2.2.1, hnb b this.1 this.2.2.2.1, this.2.2.2.2⟩
  · exact Below.trans h.below ⟨hup.os, hup.tape, hup.output, hup.size, fun b hb => hup.block b (by omega) (fun e => by have := (hlb b e).1; omega)⟩
end Go.Proofs.YthkbchefjagbbaaGreatDoor.Line

namespace Go.Proofs.YthkbchefjagbbaaGreatDoor.Line
open Go.ChangeShapes Go.WideShapes Go.ChangeAt Go.RowKit
open Ex (E St)
set_option linter.unusedVariables false

theorem stepL_append {ops : Array Oper} {o : Oper} {a : Act} {w : World} {K : Act → World → Prop} {Q : Exit → Act → World → Prop} {P : Prop} (hgd : o.guard = none) (s x : Operand)
    (ho : o.op = .call { callee := .builtin .append, args := #[s, x], argTypes := #[NLS, NLS] }) (hty : o.type = NLS) (sv xv : Value) (hs : a.eval s = sv) (hx : a.eval x = xv) (v' : Value) (w' : World)
    (hr : (Builtin.append_ #[NLS, NLS] NLS #[sv, xv]).run Tryz.prog w = .ok v' w') (h : K (a.put o.dst v') w') : if Region.wanted o (yielded ops a.tmps) = true then Oper.wp Tryz.prog o a w K Q else P := by
  have hw : Region.wanted o (yielded ops a.tmps) = true := by simp [Region.wanted, hgd]
  rw [if_pos hw]
  unfold Oper.wp execOp
  simp only [ho, hty, resolve, invoke, builtin, Sem.run_bind, Sem.run_pure, Result.andThen_ok, List.map_toArray, List.map_cons, List.map_nil, hs, hx, hr]
  exact h
/-- statements that are not too great -/
def FitF (f : FS) : Prop := f.items.length ≤ 100000 ∧ (∀ x ∈ f.items, x.2.length ≤ 100000) ∧ szF f ≤ 100000
def FitN : PN → Prop
  | .mk _ _ ps b e _ => FitF ps.full ∧ FitNs b ∧ FitNs e
where FitNs : List PN → Prop
  | [] => True
  | n :: l => FitN n ∧ FitNs l
theorem fit_cons (n : PN) (l : List PN) : FitN.FitNs (n :: l) ↔ (FitF n.ps.full ∧ FitN.FitNs n.body ∧ FitN.FitNs n.els) ∧ FitN.FitNs l := by cases n; rw [FitN.FitNs, FitN]; rfl
theorem fit_at {l : List PN} (h : FitN.FitNs l) (i : Nat) (hi : i < l.length) : FitF l[i].ps.full ∧ FitN.FitNs l[i].body ∧ FitN.FitNs l[i].els := by
  induction l generalizing i with
  | nil => simp at hi
  | cons n l ih =>
    have h := (fit_cons n l).1 h
    cases i with
    | zero => exact h.1
    | succ i => exact ih h.2 i (by simpa using hi)
/-- how much is still to be copied -/
def workN (P : List NHole) : Nat := (P.map fun x => 1 + szP.szPs x.2.2).sum
theorem workN_snoc (P : List NHole) (x : NHole) : workN (P ++ [x]) = workN P + (1 + szP.szPs x.2.2) := by simp [workN]
theorem workN_app (P Q : List NHole) : workN (P ++ Q) = workN P + workN Q := by simp [workN]
theorem workN_len (P : List NHole) : P.length ≤ workN P := by
  induction P with
  | nil => exact Nat.zero_le _
  | cons x P ih =>
    have : workN (x :: P) = (1 + szP.szPs x.2.2) + workN P := by simp [workN]
    rw [this, List.length_cons]; omega
theorem szPs_len (l : List PN) : 2 * l.length ≤ szP.szPs l := by
  induction l with
  | nil => exact Nat.zero_le _
  | cons x l ih => rw [szPs_cons, List.length_cons]; omega
theorem szPs_take (l : List PN) (i : Nat) (h : i < l.length) : szP.szPs (l.take (i + 1)) = szP.szPs (l.take i) + (2 + szP.szPs l[i].body + szP.szPs l[i].els) := by
  induction l generalizing i with
  | nil => simp at h
  | cons x l ih =>
    cases i with
    | zero => simp only [List.take_succ_cons, List.take_zero, List.getElem_cons_zero]; rw [szPs_cons]; simp [szP.szPs]
    | succ i =>
      have := ih i (by simpa using h)
      simp only [List.take_succ_cons, List.getElem_cons_succ]
      rw [szPs_cons, szPs_cons, this]
      omega
def nsnoc (g : Nat) (l : List PN) : Nat → List NHole
  | 0 => []
  | i + 1 => nsnoc g l i ++ [(g, i * 34 + 31, (l[i]?.map PN.body).getD []), (g, i * 34 + 32, (l[i]?.map PN.els).getD [])]
theorem nsnoc_succ (g : Nat) (l : List PN) (i : Nat) (h : i < l.length) : nsnoc g l (i + 1) = nsnoc g l i ++ [(g, i * 34 + 31, l[i].body), (g, i * 34 + 32, l[i].els)] := by
  rw [nsnoc, List.getElem?_eq_getElem h]; rfl
theorem nsnoc_len (g : Nat) (l : List PN) : ∀ i, (nsnoc g l i).length = 2 * i
  | 0 => rfl
  | i + 1 => by rw [nsnoc, List.length_append, nsnoc_len g l i]; simp; omega
theorem nsnoc_work (g : Nat) (l : List PN) : ∀ i, i ≤ l.length → workN (nsnoc g l i) = szP.szPs (l.take i)
  | 0, _ => by simp [nsnoc, workN, szP.szPs]
  | i + 1, h => by
    rw [nsnoc_succ g l i (by omega), workN_app, nsnoc_work g l i (by omega), szPs_take l i (by omega)]
    simp [workN]
    omega
theorem nsnoc_mem {g : Nat} {l : List PN} {z : NHole} : ∀ {i : Nat}, i ≤ l.length → z ∈ nsnoc g l i → z.1 = g ∧ z.2.1 < i * 34 ∧ ∀ (hf : FitN.FitNs l), FitN.FitNs z.2.2
  | 0, _, h => by cases h
  | i + 1, hi, h => by
    rw [nsnoc_succ g l i (by omega)] at h
    rcases List.mem_append.1 h with h | h
    · have := nsnoc_mem (by omega) h
      exact ⟨this.1, by omega, this.2.2⟩
    · rcases List.mem_cons.1 h with rfl | h
      · exact ⟨rfl, by show i * 34 + 31 < (i + 1) * 34; omega, fun hf => (fit_at hf i (by omega)).2.1⟩
      · rw [List.mem_singleton.1 h]
        exact ⟨rfl, by show i * 34 + 32 < (i + 1) * 34; omega, fun hf => (fit_at hf i (by omega)).2.2⟩
theorem UpdC.frozenAll {X : Nat → Nat → Prop} {w w' : World} (h : UpdC X w w') {b o : Nat} {v : Value} (hc : w.cell? ⟨b, o, none⟩ = some v) (hx : ∃ o, ¬ X b o) (o2 : Nat) : w'.frozen? ⟨b, o2, none⟩ = w.frozen? ⟨b, o2, none⟩ := by
  cases hh : w.heap[b]? with
  | none => simp [World.cell?, hh] at hc
  | some ob =>
    cases ob with
    | cells C t fr =>
      obtain ⟨C', h1, h2, h3⟩ := h.cells b C t fr hh hx
      simp [World.frozen?, hh, h1]
    | _ => simp [World.cell?, hh] at hc
theorem TInv.drew {w wr : World} {Stb : Nat → Prop} {l0 : List PN} {lv : Value} {P : List NHole} {Nn Sx : Nat → Prop} (h : TInv w wr Stb l0 lv P Nn Sx) : TInv w wr.drew Stb l0 lv P Nn Sx :=
  ⟨h.row, fun z hz => by
    obtain ⟨u, h1, h2, h3, h4⟩ := h.pend z hz
    exact ⟨u, h1, h2.keep (fun _ _ _ => rfl) (fun _ h _ => h), h3, h4⟩, by
    obtain ⟨u, h1, h2, h3⟩ := h.root
    exact ⟨u, h1, h2.keep (fun _ _ _ => rfl) (fun _ h _ => h) (fun _ h _ => h), h3⟩, h.dist, h.nn, h.sx, h.stb, below_drew1 h.below⟩
/-- the inner loop: the copy lies at the place; from the i-th node on all is as it was -/
structure InCop (w wr : World) (Stb : Nat → Prop) (l0 : List PN) (lv : Value) (P : List NHole) (Nn : Nat → Prop) (x : NHole) (v' : Value) (cs : List NC) (i : Nat) : Prop where
  inv : ∃ Sx, TInv w wr Stb l0 lv P Nn Sx
  cell : wr.cell? ⟨x.1, x.2.1, none⟩ = some v'
  hx : (Nn x.1 ∧ (x.2.1 % 34 = 31 ∨ x.2.1 % 34 = 32)) ∨ (x.1 = w.heap.size ∧ x.2.1 = 0)
  own : ∀ b, some b = v'.ownBlock → Nn b
  ne : some x.1 ≠ v'.ownBlock
  at_ : ∀ g n c', v' = .slice (some ⟨g, 0, none⟩) n c' → (∀ o, wr.frozen? ⟨g, o, none⟩ = false) ∧ ∀ j (h2 : j < cs.length), i ≤ j → wr.rangeAt g (j * 34) cs[j].cells
  nodes : ∀ j (h1 : j < x.2.2.length) (h2 : j < cs.length), i ≤ j → Node1 wr Stb cs[j] x.2.2[j]
theorem InCop.step {w wr W : World} {Stb : Nat → Prop} {l0 : List PN} {lv : Value} {P : List NHole} {Nn : Nat → Prop} {x : NHole} {n c' g i : Nat} {cs : List NC} (h : InCop w wr Stb l0 lv P Nn x (.slice (some ⟨g, 0, none⟩) n c') cs i) (hi : i < x.2.2.length) (hcl : cs.length = x.2.2.length) {cs' : Array Value} {f : FS}
    (hf : x.2.2[i].ps.full = f) (hu : UpdC (fun b j => b = g ∧ i * 34 + 2 ≤ j ∧ j < i * 34 + 2 + 29) wr W) (hr' : W.rangeAt g (i * 34 + 2) cs'.toList) (hf' : HoldsF (fun b => Stb b ∨ wr.heap.size ≤ b) W cs' f) (hP : P.length ≤ 1000000) (hd : ∀ z ∈ P, ¬ (z.1 = g ∧ i * 34 ≤ z.2.1)) :
    ∃ lv' w9, (Builtin.append_ #[NLS, NLS] NLS #[lv, .slice (some ⟨W.heap.size, 0, none⟩) 2 2]).run Tryz.prog (W.alloc (.cells #[.pointer (some ⟨g, i * 34 + 31, none⟩), .pointer (some ⟨g, i * 34 + 32, none⟩)] NLP)).drew = .ok lv' w9 ∧ InCop w w9 Stb l0 lv' (P ++ [(g, i * 34 + 31, x.2.2[i].body), (g, i * 34 + 32, x.2.2[i].els)]) Nn x (.slice (some ⟨g, 0, none⟩) n c') cs (i + 1) := by
  subst hf
  obtain ⟨Sx, hI⟩ := h.inv
  have hg : Nn g := h.own g rfl
  obtain ⟨hfz, hrg⟩ := h.at_ g n c' rfl
  have hi2 : i < cs.length := by omega
  have hn1 := h.nodes i hi hi2 (Nat.le_refl _)
  obtain ⟨k0, k1, k2, k31, k32, k33⟩ := (nc_at (W := wr) (b := g) (o := i * 34) hn1.st.size.1).1 (hrg i hi2 (Nat.le_refl _))
  obtain ⟨Sx', hI2⟩ := hI.stmt hg k2 hn1.st hu hr' hf'
  have hgs : ∀ b, Stb b → b ≠ g := fun b hS e => (hI.sx b (hI.stb b hS).1).2.2.1 (e ▸ hg)
  have hsb : ∀ b, Stb b → b < wr.heap.size → W.heap[b]? = wr.heap[b]? := fun b hS hl => hu.same b hl (fun o e => hgs b hS e.1)
  have b1 : Nodes W.drew Stb x.2.2[i].body cs[i].bv := hn1.body.keep hsb (fun _ h _ => h)
  have b2 : Nodes W.drew Stb x.2.2[i].els cs[i].ev := hn1.els.keep hsb (fun _ h _ => h)
  have hfz2 : ∀ o, W.drew.frozen? ⟨g, o, none⟩ = false := fun o => by
    show W.frozen? ⟨g, o, none⟩ = false
    rw [hu.frozenAll k0 ⟨i * 34, fun e => by omega⟩ o]; exact hfz o
  obtain ⟨lv', w9, hr, hI3, hup⟩ := hI2.drew.push2 hg (hu.cell k31 (fun e => by omega)) (hu.cell k32 (fun e => by omega)) b1 b2 hfz2 hd hP
  have hgl : some g ≠ lv.ownBlock := (hI.nn g hg).2.2
  have hgW : g < W.heap.size := (hI2.nn g hg).2.1
  have hxl : some x.1 ≠ lv.ownBlock := by
    rcases h.hx with ⟨hN, _⟩ | ⟨e, _⟩
    · exact (hI.nn _ hN).2.2
    · rw [e]; exact hI.apart.1
  have hxg : x.1 ≠ g := fun e => h.ne (by rw [e]; rfl)
  have hcW : W.cell? ⟨x.1, x.2.1, none⟩ = some (.slice (some ⟨g, 0, none⟩) n c') := hu.cell h.cell (fun e => hxg e.1)
  have hgb : w9.heap[g]? = W.heap[g]? := hup.block g hgW hgl
  refine ⟨lv', w9, hr, ⟨Sx', hI3⟩, (World.cell?_of_block (a := ⟨x.1, x.2.1, none⟩) (hup.block x.1 (cell_lt hcW) hxl)).trans hcW, h.hx, h.own, h.ne, fun g2 n2 c2 e => ?_, fun j h1 h2 hj => ?_⟩
  · injection e with e _ _
    injection e with e
    injection e with e
    subst e
    refine ⟨fun o => (World.frozen?_of_block (a := ⟨g, o, none⟩) hgb).trans (hfz2 o), fun j h2 hj => ?_⟩
    refine range_keep ?_ hgb
    intro t u ht
    have ht34 := (List.getElem?_eq_some_iff.1 ht).1
    rw [NC.len (h.nodes j (by omega) h2 (by omega)).st.size.1] at ht34
    exact hu.cell (hrg j h2 (by omega) t u ht) (fun e => by omega)
  · refine (h.nodes j h1 h2 (by omega)).keep (fun b hS hl => (hup.block b (Nat.lt_of_lt_of_le hl hu.size) ?_).trans (hsb b hS hl)) (fun _ h _ => h)
    exact (hI.sx b (hI.stb b hS).1).2.2.2.1
theorem tinv_start {w : World} {Stb : Nat → Prop} {l : List PN} {v : Value} (h : Nodes w Stb l v) (hS : ∀ b, Stb b → b < w.heap.size) (t : TypeId) : TInv w ((w.alloc (.cells #[v] t)).alloc (.cells #[.pointer (some ⟨w.heap.size, 0, none⟩)] NLP)) Stb l (.slice (some ⟨w.heap.size + 1, 0, none⟩) 1 1) [(w.heap.size, 0, l)] (fun _ => False) Stb := by
  have b1 : Below w.heap.size w (w.alloc (.cells #[v] t)) := Below.alloc (Below.refl _ _) (Nat.le_refl _) _
  have s1 : (w.alloc (.cells #[v] t)).heap.size = w.heap.size + 1 := by simp
  have b2 : Below w.heap.size w ((w.alloc (.cells #[v] t)).alloc (.cells #[.pointer (some ⟨w.heap.size, 0, none⟩)] NLP)) := Below.alloc b1 (by omega) _
  have s2 : ((w.alloc (.cells #[v] t)).alloc (.cells #[.pointer (some ⟨w.heap.size, 0, none⟩)] NLP)).heap.size = w.heap.size + 2 := by simp
  have hB : ((w.alloc (.cells #[v] t)).alloc (.cells #[.pointer (some ⟨w.heap.size, 0, none⟩)] NLP)).heap[w.heap.size]? = some (.cells #[v] t (0, 0)) := (Below.heap_alloc _ _ _ (by omega)).trans (heap_alloc_new w _)
  have hc : ((w.alloc (.cells #[v] t)).alloc (.cells #[.pointer (some ⟨w.heap.size, 0, none⟩)] NLP)).cell? ⟨w.heap.size, 0, none⟩ = some v := by simp [World.cell?, hB]
  have hf : ((w.alloc (.cells #[v] t)).alloc (.cells #[.pointer (some ⟨w.heap.size, 0, none⟩)] NLP)).frozen? ⟨w.heap.size, 0, none⟩ = false := by simp [World.frozen?, hB]
  have hN : Nodes ((w.alloc (.cells #[v] t)).alloc (.cells #[.pointer (some ⟨w.heap.size, 0, none⟩)] NLP)) Stb l v := h.old b2
  refine ⟨?_, fun x hx => ?_, ⟨v, hc, .old _ _ hN, hf⟩, by simp, fun b h => h.elim, fun b hb => ?_, fun b hb => ⟨hb, hS b hb⟩, b2⟩
  · have := World.ownsRow_lit (base := w.heap.size + 1) (e := NLP) (size := 1) (w.alloc (.cells #[v] t)) #[.pointer (some ⟨w.heap.size, 0, none⟩)] 1 (by omega) (by decide) rfl
    rw [s1] at this
    exact this
  · rw [List.mem_singleton.1 hx]
    exact ⟨v, hc, hN, hf, .inr ⟨rfl, rfl⟩⟩
  · have := hS b hb
    exact ⟨by omega, by omega, fun h => h, fun e => by have e : b = w.heap.size + 1 := Option.some.inj e; omega, .inl hb⟩
set_option maxHeartbeats 8000000 in
set_option maxRecDepth 100000 in
theorem copied_any (w : World) (Stb : Nat → Prop) (l : List PN) (v : Value) (h : Nodes w Stb l v) (hS : ∀ b, Stb b → b < w.heap.size) (hok : FitN.FitNs l) (hsz : szP.szPs l ≤ 900000) :
    Calls Tryz.prog 78 #[v] w fun e w' => ∃ v', e = .returned v' ∧ Nodes w' (fun b => Stb b ∨ w.heap.size ≤ b) l v' ∧ Below w.heap.size w w' := by
  have H0 := hide (tinv_start h hS 82)
  obtain ⟨va, vc, hvv⟩ := h.shape
  clear h
  generalize hvl : l.length = vl at hvv
  subst hvv
  clear hvl
  go_enter Tryz.func78, Tryz.ntmps78
  go_wp2_with fail
  generalize hW2 : World.alloc _ _ = W2 at *
  clear hW2
  go_loopg [3] (workN [(w.heap.size, 0, l)]) (fun k sv wr => ∃ lv P Nn, sv = lv ∧ workN P ≤ k ∧ workN P ≤ 900001 ∧ Hid (∀ x ∈ P, FitN.FitNs x.2.2) ∧ Hid (∃ Sx, TInv w wr Stb l lv P Nn Sx))
  case atStart => exact ⟨_, [(w.heap.size, 0, l)], _, rfl, Nat.le_refl _, by simp [workN]; omega, hide (fun x hx => by rw [List.mem_singleton.1 hx]; exact hok), hide ⟨_, unhide H0⟩⟩
  case round =>
    generalize wr = wo at *
    obtain ⟨lv, P, Nn, hlv, hk, hk2, HF, HI⟩ := hrel
    rcases snoc_cases P with hP | ⟨Q, x, hP⟩
    · subst hP
      obtain ⟨a, cap, hx⟩ : ∃ a cap, lv = .slice a 0 cap := by
        obtain ⟨Sx, hI⟩ := unhide HI
        rcases hI.row.2 with ⟨hx, _⟩ | ⟨g, cap, cur, hx, _⟩
        · exact ⟨none, 0, hx⟩
        · exact ⟨_, cap, hx⟩
      subst hx
      subst hlv
      obtain ⟨Sx, hI⟩ := unhide HI
      obtain ⟨u, h1, h2, h3⟩ := hI.root
      have HR := hide (And.intro (h2.nodes (S := fun b => Stb b ∨ w.heap.size ≤ b) (fun b hb => .inr (by have := (hI.nn b hb).1; omega)) (fun b hb => (hI.sx b hb).2.2.2.2.imp id (fun h => by omega))) hI.below)
      clear hI h2 h3 HI HF
      go_wp2
      go_ret
      exact ⟨u, rfl, unhide HR⟩
    · subst hP
      obtain ⟨Sx, hI⟩ := unhide HI
      obtain ⟨q, cap, hx, hcap, hcell, hqb, hql⟩ := hI.top
      subst hx
      subst hlv
      have hlen := workN_len (Q ++ [x])
      rw [List.length_append, List.length_singleton] at hlen
      obtain ⟨v, pc, pF, pf, pp⟩ := hI.pend x (by simp)
      obtain ⟨a, c, cs, hv, hs, hcl, hcs, hone, haS, hcsz⟩ := nodes_news pF
      have hxl := cell_lt pc
      have hdist := hI.dist
      rw [List.map_append] at hdist
      have hxQ : ∀ z ∈ Q, ¬ (z.1 = x.1 ∧ z.2.1 = x.2.1) := fun z hz e => (List.nodup_append.1 hdist).2.2 (z.1, z.2.1) (List.mem_map.2 ⟨z, hz, rfl⟩) (x.1, x.2.1) (List.mem_singleton.2 rfl) (by rw [e.1, e.2])
      rw [workN_snoc] at hk hk2 hlen
      have hsz1 := szPs_len x.2.2
      have HOW := hide (ownN_any wo a x.2.2.length c (flatN cs) (by rw [flatN_length _ hcsz, hcl]) hs hone (by omega))
      have HPOP := hide hI.pop
      have HX := hide (And.intro pp (And.intro hv (And.intro hs (And.intro hcl (And.intro hcs (And.intro haS (And.intro hxQ hcsz)))))))
      subst hv
      have HFX : Hid (FitN.FitNs x.2.2 ∧ ∀ z ∈ Q, FitN.FitNs z.2.2) := hide ⟨unhide HF x (by simp), fun z hz => unhide HF z (List.mem_append_left _ hz)⟩
      have HQB : Hid (∀ z ∈ Q, z.1 < wo.heap.size) := hide (fun z hz => by
        obtain ⟨u, h1, _⟩ := hI.pend z (List.mem_append_left _ hz)
        exact cell_lt h1)
      unfold nptrV at hcell
      clear HI HF hI pp pF hs hcl hcs hone haS hxQ hdist hcsz
      generalize hql2 : Q.length = ql at *
      generalize hnl : x.2.2.length = nl at *
      have i1 : (ql : Int) ≤ cap := by omega
      have i2 : (0 : Int) ≤ ql := by omega
      have i3 : (ql : Int) < ql + 1 := by omega
      have i4 : IntKind.i64.wrap (ql : Int) = ql := by rw [IntKind.wrap_i64]; omega
      have i5 : (0 : Int) < (ql : Int) + 1 := by omega
      go_wp2_with fail
      refine (unhide HOW).mono ?_
      rintro e w1 ⟨v', rfl, ho1, hb1⟩
      have pc1 := (hb1.cell (p := ⟨x.1, x.2.1, none⟩) hxl).trans pc
      have pf1 := (hb1.frozen (p := ⟨x.1, x.2.1, none⟩) hxl).trans pf
      obtain ⟨va', vc', hvs, hva⟩ : ∃ va vc, v' = .slice va nl vc ∧ (0 < nl → ∃ g, va = some ⟨g, 0, none⟩ ∧ nl ≤ vc ∧ wo.heap.size ≤ g) := by
        rcases ho1.2 with ⟨e, h5⟩ | ⟨g, cp, cur, e, hg, _, hcp, _⟩
        · exact ⟨none, 0, by rw [e, h5], fun h => by omega⟩
        · exact ⟨_, cp, e, fun _ => ⟨g, rfl, hcp, hg⟩⟩
      obtain ⟨hp0, hp1, hp2, hp3, hp4, hp5⟩ := TInv.put (w := w) (l0 := l) (q := q) (cap := cap) (P := Q) (Nn := Nn) (Sx := Sx) (Stb := Stb) (wr := wo) (x := x) (by rw [hql2]; exact unhide HPOP) (unhide HX).2.2.2.2.2.2.1 (unhide HX).1 pc (by rw [hnl]) (by rw [hnl]; exact (unhide HX).2.2.1) (by rw [hnl]; exact (unhide HX).2.2.2.1) (unhide HX).2.2.2.2.1 (by rw [hnl]; exact (unhide HX).2.2.2.2.2.1) (unhide HX).2.2.2.2.2.2.2 (by rw [hnl]; exact ho1) hb1
      have HIN : Hid (InCop w (w1.setCell ⟨x.1, x.2.1, none⟩ v') Stb l (.slice (some ⟨q, 0, none⟩) ql cap) (Q ++ nsnoc ((v'.ownBlock).getD 0) x.2.2 0) (fun b => Nn b ∨ some b = v'.ownBlock) x v' cs 0) := hide (by
        rw [hql2] at hp0
        refine ⟨⟨Sx, by simpa [nsnoc] using hp0⟩, hp1, (unhide HX).1.imp (fun h => ⟨.inl h.1, h.2⟩) id, fun b e => .inr e, fun e => by have := hp5 _ e; omega, fun g n c' e => ⟨(hp3 g n c' e).1, fun j h2 _ => (hp3 g n c' e).2 j h2⟩, fun j h1 h2 _ => hp2 j h1 h2⟩)
      have HVA := hide hva
      subst hvs
      have HJ := hide (And.intro hk (And.intro hk2 (And.intro hnl ((unhide HX).2.2.2.1))))
      clear hp0 hp1 hp2 hp3 hp4 hp5 ho1 hb1 HPOP HX hva HOW pc hk hk2 hcell
      have hcc : (w1.setCell ⟨x.1, x.2.1, none⟩ (.slice va' nl vc')).cell? ⟨x.1, x.2.1, none⟩ = some (.slice va' nl vc') := (unhide HIN).cell
      go_wp2_with fail
      generalize hW2 : w1.setCell ⟨x.1, x.2.1, none⟩ (.slice va' nl vc') = W2 at *
      clear hW2
      go_loopw [3, 32] (fun lv i wr2 => ∃ lw i2, lv = lw ∧ i = .int .i64 (i2 : Nat) ∧ i2 ≤ nl ∧ Hid (InCop w wr2 Stb l lw (Q ++ nsnoc ((Value.ownBlock (.slice va' nl vc')).getD 0) x.2.2 i2) (fun b => Nn b ∨ some b = Value.ownBlock (.slice va' nl vc')) x (.slice va' nl vc') cs i2)) (fun _ i _ => nl - (intOf i).toNat)
      case atStart => exact ⟨_, 0, rfl, rfl, Nat.zero_le _, HIN⟩
      case round =>
        obtain ⟨lw, i2, hlw, rfl, hi2, HI⟩ := hrel
        by_cases hlt : i2 < nl
        · obtain ⟨g, hva, hcp, hgo⟩ := unhide HVA (by omega)
          subst hva
          have hlw2 := hlw.symm
          subst hlw2
          have hI := unhide HI
          have h2 := hI.cell
          obtain ⟨hfz, hrg⟩ := hI.at_ g nl vc' rfl
          have hi2l : i2 < cs.length := by have := (unhide HJ).2.2.2; omega
          have hn1 := hI.nodes i2 (by have := (unhide HJ).2.2.1; omega) hi2l (Nat.le_refl _)
          obtain ⟨k0, k1, k2, k31, k32, k33⟩ := (nc_at (W := wr) (b := g) (o := i2 * 34) hn1.st.size.1).1 (hrg i2 hi2l (Nat.le_refl _))
          obtain ⟨iv, tv, ev, av, bv, lv', hv', hx0, hx1, hx2, hx3, hx4, hx5, hx6, hx7⟩ := hn1.st.ex
          obtain ⟨⟨q1, q2, q3⟩, q4, q5⟩ := fit_at (unhide HFX).1 i2 (by have := (unhide HJ).2.2.1; omega)
          obtain ⟨Sx2, hI2⟩ := hI.inv
          have hgN := hI2.nn g (.inr rfl)
          have HST := hide (ownStmt_any wr g (i2 * 34 + 2) _ Stb iv tv ev av bv lv' hv' (by rw [← hx0]; exact k2) hx1 hx2 hx3 hx4 hx5 hx6 hx7 hfz (fun b hb => ⟨(hI2.sx b (hI2.stb b hb).1).1, fun e => (hI2.sx b (hI2.stb b hb).1).2.2.1 (.inr (by rw [e]; rfl))⟩) q1 q2 q3)
          have HPL : Hid ((Q ++ nsnoc g x.2.2 i2).length ≤ 1000000) := hide (by
            rw [List.length_append, nsnoc_len, hql2]
            have h8 := (unhide HJ).2.1
            have h9 := workN_len Q
            have h7 := szPs_len x.2.2
            have h6 := (unhide HJ).2.2.1
            rw [hql2] at h9
            omega)
          have hgl : g < wr.heap.size := hgN.2.1
          have hxg : x.1 ≠ g := fun e => hI.ne (by rw [e]; rfl)
          clear hI hI2 hfz hrg hn1 k0 k1 k2 k31 k32 k33 hx0 hx1 hx2 hx3 hx4 hx5 hx6 hx7 q1 q2 q3 q4 q5 hgN
          have j1 : (i2 : Int) < nl := by omega
          have j2 : (0 : Int) ≤ i2 := by omega
          have j3 : (i2 : Int) ≤ 900000 := by have := (unhide HJ).2.1; omega
          have j4 : IntKind.i64.wrap (i2 : Int) = i2 := by rw [IntKind.wrap_i64]; omega
          go_wp2_with fail
          refine (unhide HST).mono ?_
          rintro e w3 ⟨rfl, hu3, cs', hr3, hf3⟩
          have hc3 : w3.cell? ⟨x.1, x.2.1, none⟩ = some (.slice (some ⟨g, 0, none⟩) nl vc') := hu3.cell h2 (fun e => hxg e.1)
          obtain ⟨lv', w9, hr9, hin⟩ := (unhide HI).step (by have := (unhide HJ).2.2.1; omega) (by have := (unhide HJ).2.2.1; have := (unhide HJ).2.2.2; omega) rfl hu3 hr3 hf3 (unhide HPL) (fun z hz e => by
            rcases List.mem_append.1 hz with hz | hz
            · have := unhide HQB z hz; omega
            · have := (nsnoc_mem (by have := (unhide HJ).2.2.1; omega) hz).2.1
              omega)
          have HR9 := hide hr9
          have HIN2 : Hid (InCop w w9 Stb l lv' (Q ++ nsnoc ((Value.ownBlock (.slice (some ⟨g, 0, none⟩) nl vc')).getD 0) x.2.2 (i2 + 1)) (fun b => Nn b ∨ some b = Value.ownBlock (.slice (some ⟨g, 0, none⟩) nl vc')) x (.slice (some ⟨g, 0, none⟩) nl vc') cs (i2 + 1)) := hide (by
            rw [nsnoc_succ _ _ i2 (by have := (unhide HJ).2.2.1; omega), ← List.append_assoc]
            exact hin)
          clear hu3 hr3 hf3 hin hr9 HI HST h2
          go_upto_region 11 with (fail)
          refine wp_region_any (by kernel_rfl) ?_
          change wpAny _ _ _ _ _ _ _ (World.drew _)
          refine wpAny_take (i := 0) (v := ?_) rfl (by kernel_rfl) (by kernel_rfl) (by kernel_rfl) (fun _ _ _ h => h) (Or.inl ⟨by rfl, ?_⟩) ?_
          rotate_left
          · intro w'
            go_simp
            try with_reducible rfl
          try simp only [List.getElem_toArray, List.getElem_cons_zero, Act.put, List.setIfInBounds_toArray, List.set_cons_zero, List.set_cons_succ]
          refine wpAny_take (i := 1) (v := ?_) rfl (by kernel_rfl) (by kernel_rfl) (by kernel_rfl) (fun _ _ _ h => h) (Or.inl ⟨by rfl, ?_⟩) ?_
          rotate_left
          · intro w'
            go_simp
            try with_reducible rfl
          try simp only [List.getElem_toArray, List.getElem_cons_succ, List.getElem_cons_zero, Act.put, List.setIfInBounds_toArray, List.set_cons_zero, List.set_cons_succ]
          refine wpAny_take (i := 2) (v := ?_) rfl (by kernel_rfl) (by kernel_rfl) (by kernel_rfl) (fun _ _ _ h => h) (Or.inl ⟨by rfl, ?_⟩) ?_
          rotate_left
          · intro w'
            go_simp
            try with_reducible rfl
          try simp only [List.getElem_toArray, List.getElem_cons_succ, List.getElem_cons_zero, Act.put, List.setIfInBounds_toArray, List.set_cons_zero, List.set_cons_succ]
          refine wpAny_take (i := 3) (v := ?_) rfl (by kernel_rfl) (by kernel_rfl) (by kernel_rfl) (fun _ _ _ h => h) (Or.inl ⟨by rfl, ?_⟩) ?_
          rotate_left
          · intro w'
            go_simp
            try with_reducible rfl
          try simp only [List.getElem_toArray, List.getElem_cons_succ, List.getElem_cons_zero, Act.put, List.setIfInBounds_toArray, List.set_cons_zero, List.set_cons_succ]
          refine wpAny_take (i := 4) (v := ?_) rfl (by kernel_rfl) (by kernel_rfl) (by kernel_rfl) (fun _ _ _ h => h) (Or.inl ⟨by rfl, ?_⟩) ?_
          rotate_left
          · intro w'
            go_simp
            try with_reducible rfl
          try simp only [List.getElem_toArray, List.getElem_cons_succ, List.getElem_cons_zero, Act.put, List.setIfInBounds_toArray, List.set_cons_zero, List.set_cons_succ]
          refine wpAny_take (i := 5) (v := ?_) rfl (by kernel_rfl) (by kernel_rfl) (by kernel_rfl) (fun _ _ _ h => h) (Or.inl ⟨by rfl, ?_⟩) ?_
          rotate_left
          · intro w'
            go_simp
            try with_reducible rfl
          try simp only [List.getElem_toArray, List.getElem_cons_succ, List.getElem_cons_zero, Act.put, List.setIfInBounds_toArray, List.set_cons_zero, List.set_cons_succ]
          refine wpAny_take (i := 6) (v := ?_) rfl (by kernel_rfl) (by kernel_rfl) (by kernel_rfl) (fun _ _ _ h => h) (Or.inl ⟨by rfl, ?_⟩) ?_
          rotate_left
          · intro w'
            go_simp
            try with_reducible rfl
          try simp only [List.getElem_toArray, List.getElem_cons_succ, List.getElem_cons_zero, Act.put, List.setIfInBounds_toArray, List.set_cons_zero, List.set_cons_succ]
          refine wpAny_ready (rs := [7]) (by kernel_rfl) (by simp) ?_
          refine AllReady.cons rfl (fun K' hK => ?_) AllReady.nil
          go_simp
          refine hK _ _ ?_
          clear hK K'
          try simp only [List.getElem_toArray, List.getElem_cons_succ, List.getElem_cons_zero, Act.put, List.setIfInBounds_toArray, List.set_cons_zero, List.set_cons_succ]
          refine wpAny_ready (rs := [8]) (by kernel_rfl) (by simp) ?_
          refine AllReady.cons rfl (fun K' hK => ?_) AllReady.nil
          refine stepL_append rfl _ _ rfl rfl _ _ rfl rfl _ _ (unhide HR9) ?_
          refine hK _ _ ?_
          clear hK K'
          try simp only [List.getElem_toArray, List.getElem_cons_succ, List.getElem_cons_zero, Act.put, List.setIfInBounds_toArray, List.set_cons_zero, List.set_cons_succ]
          refine wpAny_take (i := 9) (v := ?_) rfl (by kernel_rfl) (by kernel_rfl) (by kernel_rfl) (fun _ _ _ h => h) (Or.inl ⟨by rfl, ?_⟩) ?_
          rotate_left
          · intro w'
            go_simp
            try with_reducible rfl
          try simp only [List.getElem_toArray, List.getElem_cons_succ, List.getElem_cons_zero, Act.put, List.setIfInBounds_toArray, List.set_cons_zero, List.set_cons_succ]
          refine wpAny_done (by kernel_rfl) ?_ _
          go_wp2
          go_roundw
          case rel => exact ⟨lv', i2 + 1, rfl, by go_num, by omega, HIN2⟩
          case measure => simp [intOf]; omega
        · have hin : i2 = nl := by omega
          subst hin
          have hlt2 : ¬ (i2 : Int) < i2 := by omega
          have hlw2 := hlw.symm
          subst hlw2
          go_wp2
          go_roundg (workN Q + szP.szPs x.2.2)
          case measure => have := (unhide HJ).1; omega
          case rel =>
            have hwk : workN (Q ++ nsnoc ((Value.ownBlock (.slice va' i2 vc')).getD 0) x.2.2 i2) = workN Q + szP.szPs x.2.2 := by
              rw [workN_app, nsnoc_work _ _ i2 (by have := (unhide HJ).2.2.1; omega), List.take_of_length_le (by have := (unhide HJ).2.2.1; omega)]
            refine ⟨_, _, _, rfl, by omega, ?_, hide (fun z hz => ?_), hide (unhide HI).inv⟩
            · rw [hwk]
              have := (unhide HJ).2.1; omega
            · rcases List.mem_append.1 hz with hz | hz
              · exact (unhide HFX).2 z hz
              · exact (nsnoc_mem (by have := (unhide HJ).2.2.1; omega) hz).2.2 (unhide HFX).1
end Go.Proofs.YthkbchefjagbbaaGreatDoor.Line
