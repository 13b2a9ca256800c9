/- ExprBack, walked. -/
import Derived.Test.YtepnafnljfjeoaaGreatDoorRfTxt
import Derived.Test.YtepnafnljfjeoaaGreatDoorPlnOf
import Derived.Test.YtepnafnljfjeoaaGreatDoorBkSz
import Derived.Test.YtepnafnljfjeoaaGreatDoorKnAll
import Derived.Test.YtepnafnljfjeoaaGreatDoorRdLast
import Derived.Test.YtepnafnljfjeoaaGreatDoorToksTo
import Derived.Test.YtepnafnljfjeoaaGreatDoorExprSame
import Derived.Test.YtepnafnljfjeoaaGreatDoorPlainAll
namespace Go.Proofs.YtepnafnljfjeoaaGreatDoor.Line
open Go.ChangeShapes Go.WideShapes Go.ChangeAt Go.RowKit
open Ex (E St)
set_option linter.unusedVariables false

/-- a Wrong's error, three boxes -/
def R13 (v p : Nat) (x : E) (xs : Value) (q : Nat) (y : E) (ys : Value) (r : Nat) (zs : Value) (W : World) : Prop := W.cell? ⟨v, 1, none⟩ = some (.int .i64 0) ∧ W.cell? ⟨p, 0, none⟩ = some (.int .i64 x.kind) ∧ W.cell? ⟨p, 1, none⟩ = some (.int .i64 x.n) ∧ W.cell? ⟨p, 2, none⟩ = some (.string ⟨x.name.toArray⟩) ∧ W.cell? ⟨p, 3, none⟩ = some xs ∧ W.cell? ⟨q, 0, none⟩ = some (.int .i64 y.kind) ∧ W.cell? ⟨q, 1, none⟩ = some (.int .i64 y.n) ∧ W.cell? ⟨q, 2, none⟩ = some (.string ⟨y.name.toArray⟩) ∧ W.cell? ⟨q, 3, none⟩ = some ys ∧ W.cell? ⟨r, 0, none⟩ = some (.int .i64 y.kind) ∧ W.cell? ⟨r, 1, none⟩ = some (.int .i64 y.n) ∧ W.cell? ⟨r, 2, none⟩ = some (.string ⟨y.name.toArray⟩) ∧ W.cell? ⟨r, 3, none⟩ = some zs
theorem R13.keep {v p : Nat} {x : E} {xs : Value} {q : Nat} {y : E} {ys : Value} {r : Nat} {zs : Value} {W W' : World} (h : R13 v p x xs q y ys r zs W) (hb : Below W.heap.size W W') : R13 v p x xs q y ys r zs W' := by
  have hc : ∀ {b o : Nat} {v : Value}, W.cell? ⟨b, o, none⟩ = some v → W'.cell? ⟨b, o, none⟩ = some v := fun {b o v} h => (hb.cell (p := ⟨b, o, none⟩) (cell_lt h)).trans h
  obtain ⟨h0, h1, h2, h3, h4, h5, h6, h7, h8, h9, h10, h11, h12⟩ := h
  exact ⟨hc h0, hc h1, hc h2, hc h3, hc h4, hc h5, hc h6, hc h7, hc h8, hc h9, hc h10, hc h11, hc h12⟩
/-- the argument's box and its parts -/
structure BM (w : World) (x : E) (sx : Value) (W : World) : Prop where
  e0 : W.cell? ⟨w.heap.size, 0, none⟩ = some (.int .i64 x.kind)
  e1 : W.cell? ⟨w.heap.size, 1, none⟩ = some (.int .i64 x.n)
  e2 : W.cell? ⟨w.heap.size, 2, none⟩ = some (.string ⟨x.name.toArray⟩)
  e3 : W.cell? ⟨w.heap.size, 3, none⟩ = some sx
  fx : Forest W (fun _ => True) x.a sx
  old : Below w.heap.size w W
theorem BM.below {w : World} {x : E} {sx : Value} {W W' : World} (h : BM w x sx W) (hb : Below W.heap.size W W') : BM w x sx W' := by
  have hc : ∀ {b o : Nat} {v : Value}, W.cell? ⟨b, o, none⟩ = some v → W'.cell? ⟨b, o, none⟩ = some v := fun {b o v} h => (hb.cell (p := ⟨b, o, none⟩) (cell_lt h)).trans h
  exact ⟨hc h.e0, hc h.e1, hc h.e2, hc h.e3, h.fx.old hb, bthen h.old hb⟩
theorem plain_sm : ∀ x : E, RX x → Ex.Sm (plainE x) := by
  have leaf : ∀ n, Ex.Sm (.mk 1 n [] []) := fun n => .mk _ (by simp [E.a]) (fun y hy => by cases hy)
  have one : ∀ z, Ex.Sm z → Ex.Sm (.mk 4 0 [] [z]) := fun z hz => .mk _ (by simp [E.a]) (fun y hy => by rw [List.mem_singleton.1 hy]; exact hz)
  have gen : ∀ x : E, x.kind ≠ 1 → x.a.length ≤ 1000 → (∀ z ∈ x.a, Ex.Sm (plainE z)) → Ex.Sm (plainE x) := fun x hk hl h => by
    cases x with
    | mk k n nm a =>
      rw [plain_mk (show k ≠ 1 from hk), plainL_map]
      refine .mk _ (by simpa [E.a] using hl) (fun y hy => ?_)
      obtain ⟨z, hz, rfl⟩ := List.mem_map.1 hy
      exact h z hz
  intro x h
  induction h with
  | num x hk hs ha =>
    cases x with
    | mk k n nm a =>
      obtain rfl : k = 1 := hk
      obtain rfl : nm = [] := hs
      obtain rfl : a = [] := ha
      rw [plainE]
      split
      · exact .mk _ (by simp [E.a]) (fun y hy => by
          rcases List.mem_cons.1 hy with rfl | hy
          · exact one _ (leaf _)
          · rw [List.mem_singleton.1 hy]; exact leaf _)
      · split
        · exact one _ (leaf _)
        · rw [plainL]; exact leaf _
  | var x hk hn hs ha => exact gen x (by omega) (by rw [ha]; decide) (fun z hz => by rw [ha] at hz; cases hz)
  | elem x hk hn hs h1 h4 h ih => exact gen x (by omega) (by omega) ih
  | neg x hk hn hs h1 h ih => exact gen x (by omega) (by omega) ih
  | two x hk hn hs h1 h ih => exact gen x (by omega) (by omega) ih
set_option maxHeartbeats 16000000 in
set_option maxRecDepth 100000 in
theorem exprBack_walk (x : E) (sx : Value) (w : World) (hx : Forest w (fun _ => True) x.a sx) (hN : NumX x) (hG : Glob w) (hT : Tab w) :
    Calls Tryz.prog 3 #[treeV x sx] w fun e w' => e = .returned (.bool true) ∧ Below w.heap.size w w' := by
  have al1 := alloc_below w (.cells #[.int .i64 x.kind, .int .i64 x.n, .string ⟨x.name.toArray⟩, sx] PET)
  have hb1 := bx_new w x sx PET
  have HM1 : Hid (BM w x sx (w.alloc (.cells #[.int .i64 x.kind, .int .i64 x.n, .string ⟨x.name.toArray⟩, sx] PET))) := hide ⟨hb1.c0, hb1.c1, hb1.c2, hb1.c3, hx.old al1, al1⟩
  have HK := hide (known5_any _ (hG.below al1) (Tab.below hT al1))
  have HTB := hide hT
  have HNX := hide hN
  obtain ⟨xa, xc, rfl⟩ := hx.shape
  clear hx hG hT hN al1 hb1
  generalize hxn : x.a.length = xn at *
  have HXN := hide hxn
  clear hxn
  go_enter Tryz.func3, Tryz.ntmps3
  go_upto_region 1 with fail
  generalize (w.alloc (.cells #[.int .i64 x.kind, .int .i64 x.n, .string ⟨x.name.toArray⟩, .slice xa xn xc] PET)) = W1 at *
  go_wp2_with (go_at_call 4; refine (unhide HK).mono ?_; rintro ev w0 ⟨rfl, hb0⟩; have HM0 := hide ((unhide HM1).below hb0); clear hb0 HK HM1; have e0 := (unhide HM0).e0; have e1 := (unhide HM0).e1; have e2 := (unhide HM0).e2; have e3 := (unhide HM0).e3)
  refine (few_any x w0 _ (unhide HM0).fx).mono ?_
  rintro ev w1 ⟨b, rfl, hbf, hbe⟩
  have HMA := hide ((unhide HM0).below hbe)
  clear e0 e1 e2 e3 HM0
  cases b with
  | false =>
    clear hbf hbe
    go_wp2
    go_ret
    exact ⟨rfl, (unhide HMA).old⟩
  | true =>
  obtain ⟨hsz, hni⟩ := hbf (by simp)
  have HSZ := hide hsz
  have HNI := hide hni
  clear hbf hbe hsz hni
  have e0 := (unhide HMA).e0
  have e1 := (unhide HMA).e1
  have e2 := (unhide HMA).e2
  have e3 := (unhide HMA).e3
  go_wp2_with fail
  refine (of_any x w1 _ _ (unhide HMA).fx (sm_of x (unhide HNI))).mono ?_
  rintro ev w2 ⟨sy, rfl, hfy, hbe⟩
  have HM2 := hide ((unhide HMA).below hbe)
  obtain ⟨ya, yc, hsy⟩ := hfy.shape
  rw [unhide HXN] at hsy
  subst hsy
  have HFY := hide hfy
  clear e0 e1 e2 e3 HMA hfy hbe
  go_wp2_with fail
  refine (right5_any x w2 _ (unhide HNI) ((unhide HFY).mono (fun _ _ _ => trivial))).mono ?_
  rintro ev w3 ⟨⟨b, rfl, hbf⟩, hbe⟩
  have HM3 := hide ((unhide HM2).below hbe)
  clear HM2 HFY
  cases b with
  | false =>
    clear hbf hbe
    go_wp2
    go_ret
    exact ⟨rfl, (unhide HM3).old⟩
  | true =>
  have HRX := hide (hbf (by simp))
  clear hbf hbe
  have e0 := (unhide HM3).e0
  have e1 := (unhide HM3).e1
  have e2 := (unhide HM3).e2
  have e3 := (unhide HM3).e3
  have HTL : Hid ((textT x).length ≤ 20000) := hide (by have := textT_sz x (unhide HNI) (unhide HNX); have := unhide HSZ; omega)
  have HTX := hide (text_any x _ _ w3 (unhide HM3).fx (okE_of x (unhide HNI) (unhide HNX)) (Tab.below (unhide HTB) (unhide HM3).old) (by have := wtE_sz x; have := unhide HSZ; omega) (by have := unhide HTL; omega))
  obtain ⟨l, hl, hee⟩ := told_back (unhide HRX) (unhide HNX)
  have HRT := hide (refText_any x (unhide HRX) (unhide HNX) (by have := unhide HTL; omega))
  have HRT2 := hide (show (∀ (w : World) (sx : Value), Forest w (fun _ => True) x.a sx → Calls Tryz.prog 9 #[treeV x sx] w fun e w' => e = .returned (.string ⟨(textT x).toArray⟩) ∧ Below w.heap.size w w') from unhide HRT)
  have HTK := hide (fun V => refToks_any (textT x) (by have := unhide HTL; omega) V)
  have HLL := hide (show l.length ≤ 20000 by have := toks_countW (textT x); rw [hl] at this; have h2 : l.length ≤ (textT x).length := this; have := unhide HTL; omega)
  rw [hl] at HTK
  have HEE := hide hee
  clear hl hee HRT
  generalize textT x = TX at *
  go_wp2_with fail
  refine (unhide HTX).mono ?_
  rintro ev w4 ⟨rfl, hbe⟩
  have HM4 := hide ((unhide HM3).below hbe)
  clear e0 e1 e2 e3 HM3 HTX hbe
  have e0 := (unhide HM4).e0
  have e1 := (unhide HM4).e1
  have e2 := (unhide HM4).e2
  have e3 := (unhide HM4).e3
  go_wp2_with fail
  refine (of_any x w4 _ _ (unhide HM4).fx (sm_of x (unhide HNI))).mono ?_
  rintro ev w5 ⟨sy, rfl, hfy, hbe⟩
  have HM5 := hide ((unhide HM4).below hbe)
  obtain ⟨za, zc, hsy⟩ := hfy.shape
  rw [unhide HXN] at hsy
  subst hsy
  have HFY := hide hfy
  clear e0 e1 e2 e3 HM4 hfy hbe
  go_wp2_with fail
  refine (unhide HRT2 w5 _ ((unhide HFY).mono (fun _ _ _ => trivial))).mono ?_
  rintro ev w6 ⟨rfl, hbe⟩
  have HM6 := hide ((unhide HM5).below hbe)
  clear HM5 HFY hbe HRT2
  go_wp2_with fail
  refine (unhide HTK w6).mono ?_
  rintro ev w7 ⟨u, g, rfl, hu, hg, hbe⟩
  have hbe2 := bthen hbe (alloc_below w7 (.cells #[.slice none 0 0, .int .i64 0] WrT))
  obtain ⟨ua, uc, hus⟩ := hu.tks.shape
  have HU := hide (And.intro (hu.tks.below (alloc_below w7 (.cells #[.slice none 0 0, .int .i64 0] WrT))) (fun p hp => Nat.lt_of_lt_of_le (hu.ownLt p hp) (alloc_below w7 (.cells #[.slice none 0 0, .int .i64 0] WrT)).size))
  have HM7 := hide ((unhide HM6).below hbe2)
  have hg0 : g = .agg #[.slice none 0 0, .int .i64 0] := by
    rcases hg with ⟨_, h⟩ | ⟨h, _⟩
    · exact h
    · exact absurd rfl h
  subst hg0
  subst hus
  clear hu hg hbe hbe2 HTK HM6
  go_upto_region 9 with fail
  have t1 : (w7.alloc (.cells #[.slice none 0 0, .int .i64 0] WrT)).cell? ⟨w7.heap.size, 1, none⟩ = some (.int .i64 0) := by simp [go_sem]
  generalize (w7.alloc (.cells #[.slice none 0 0, .int .i64 0] WrT)) = W7 at *
  have HPP := hide (show (∀ (w : World) (S : Nat → Prop) (sx : Value), Forest w S x.a sx → Calls Tryz.prog 15 #[treeV x sx] w fun e w' => ∃ sy, e = .returned (treeV (plainE x) sy) ∧ Forest w' (fun b => w.heap.size ≤ b) (plainE x).a sy ∧ Below w.heap.size w w') from plain_any x (unhide HRX) (unhide HNX))
  have HPSM := hide (show Ex.Sm (plainE x) from plain_sm x (unhide HRX))
  rcases unhide HEE with hE | ⟨e', s', hE, h4⟩
  · have HEX := hide hE
    have HRP : Hid (Calls Tryz.prog 11 #[.slice ua l.length uc] W7 fun e w' => ∃ sl g, e = .returned (.tuple #[treeV (plainE x) sl, .int .i64 l.length, g]) ∧ Forest w' (fun b => W7.heap.size ≤ b) (plainE x).a sl ∧ g = .agg #[.slice none 0 0, .int .i64 0] ∧ Below W7.heap.size W7 w') := hide (by
      refine (refParse_any l _ W7 (by have := unhide HLL; omega) (unhide HU).1 (unhide HU).2).mono ?_
      rintro ev w8 ⟨x8, s8, sl, g, hR, he, hf, ht, hb, -⟩
      have hd := hR.det hE
      injection hd with hd1 hd2
      subst hd1 hd2
      refine ⟨sl, g, he, hf, ?_, hb⟩
      rcases ht with ⟨_, h⟩ | ⟨h, _⟩
      · exact h
      · exact absurd rfl h)
    have HPS : Hid (∀ (L : Value) (w : World), Tks w L l → (∀ p, L.ownBlock = some p → p < w.heap.size) → Calls Tryz.prog 12 #[L] w fun e w' => ∃ sl, e = .returned (.tuple #[treeV (plainE x) sl, .int .i64 l.length, .nilIface]) ∧ Forest w' (fun b => w.heap.size ≤ b) (plainE x).a sl ∧ Below w.heap.size w w') := hide (fun L V ht ho => by
      refine (parse_spec l L V (by have := unhide HLL; omega) ht ho).mono ?_
      rintro ev w8 ⟨x8, s8, sl, g, hR, he, hf, hs, hb⟩
      have hd := hR.det hE
      injection hd with hd1 hd2
      subst hd1 hd2
      have hg := says_nilD hs rfl
      subst hg
      exact ⟨sl, he, hf, hb⟩)
    clear hE HEE HEX HRX HSZ HTL
    generalize plainE x = px at *
    go_wp2_with fail
    refine (unhide HRP).mono ?_
    rintro ev w8 ⟨sl, g, rfl, hf, rfl, hb⟩
    obtain ⟨pa, pc, rfl⟩ := hf.shape
    have al1 := alloc_below w8 (.cells #[.int .i64 px.kind, .int .i64 px.n, .string ⟨px.name.toArray⟩, .slice pa px.a.length pc] ET)
    have al2 := alloc_below (w8.alloc (.cells #[.int .i64 px.kind, .int .i64 px.n, .string ⟨px.name.toArray⟩, .slice pa px.a.length pc] ET)) (.cells #[.slice none 0 0, .int .i64 0] WrT)
    have hz1 : (w8.alloc (.cells #[.int .i64 px.kind, .int .i64 px.n, .string ⟨px.name.toArray⟩, .slice pa px.a.length pc] ET)).heap.size = w8.heap.size + 1 := by simp
    have hbx := (bx_new w8 px (.slice pa px.a.length pc) ET).keep (al2.block _ (by simp)) al2.size
    have HBX := hide hbx
    have t8 : ((w8.alloc (.cells #[.int .i64 px.kind, .int .i64 px.n, .string ⟨px.name.toArray⟩, .slice pa px.a.length pc] ET)).alloc (.cells #[.slice none 0 0, .int .i64 0] WrT)).cell? ⟨w8.heap.size + 1, 1, none⟩ = some (.int .i64 0) := by rw [← hz1]; simp [go_sem]
    have hb2 := bthen hb (bthen al1 al2)
    have HM8 := hide ((unhide HM7).below hb2)
    have HU8 := hide ((unhide HU).1.below hb2)
    have HF8 := hide ((hf.old (bthen al1 al2)).mono (S' := fun _ => True) (fun _ _ _ => trivial))
    clear hf hb al1 al2 hz1 hbx hb2 HM7 HU HRP t1
    go_upto_region 12 with fail
    generalize ((w8.alloc (.cells #[.int .i64 px.kind, .int .i64 px.n, .string ⟨px.name.toArray⟩, .slice pa px.a.length pc] ET)).alloc (.cells #[.slice none 0 0, .int .i64 0] WrT)) = W8 at *
    generalize hvb : w8.heap.size + 1 = vb at *
    clear hvb
    generalize w8.heap.size = pb at *
    go_wp2_with fail
    refine (to_any _ l W8 (unhide HU8) (by have := unhide HLL; omega)).mono ?_
    rintro ev w9 ⟨u2, rfl, hu, hb⟩
    have HM9 := hide ((unhide HM8).below hb)
    have HF9 := hide ((unhide HF8).old hb)
    have HBX9 := hide ((unhide HBX).keep (hb.block _ (unhide HBX).lt) hb.size)
    have t9 := (hb.cell (p := ⟨vb, 1, none⟩) (cell_lt t8)).trans t8
    have HPC := hide (unhide HPS u2 w9 hu.tks hu.ownLt)
    clear hu hb HM8 HF8 HBX t8 HPS HU8
    go_wp2_with fail
    refine (unhide HPC).mono ?_
    rintro ev w10 ⟨sl, rfl, hf, hb⟩
    obtain ⟨qa, qc, rfl⟩ := hf.shape
    have al1 := alloc_below w10 (.cells #[.int .i64 px.kind, .int .i64 px.n, .string ⟨px.name.toArray⟩, .slice qa px.a.length qc] PET)
    have hbz := bx_new w10 px (.slice qa px.a.length qc) PET
    have hb2 := bthen hb al1
    have HMX := hide ((unhide HM9).below hb2)
    have HFX := hide ((unhide HF9).old hb2)
    have HFZ := hide ((hf.old al1).mono (S' := fun _ => True) (fun _ _ _ => trivial))
    have tX := (hb2.cell (p := ⟨vb, 1, none⟩) (cell_lt t9)).trans t9
    have hbk := (unhide HBX9).keep (hb2.block _ (unhide HBX9).lt) hb2.size
    have HS0 : Hid (R13 vb w.heap.size x (.slice xa xn xc) pb px (.slice pa px.a.length pc) w10.heap.size (.slice qa px.a.length qc) (w10.alloc (.cells #[.int .i64 px.kind, .int .i64 px.n, .string ⟨px.name.toArray⟩, .slice qa px.a.length qc] PET))) := hide ⟨tX, (unhide HMX).e0, (unhide HMX).e1, (unhide HMX).e2, (unhide HMX).e3, hbk.c0, hbk.c1, hbk.c2, hbk.c3, hbz.c0, hbz.c1, hbz.c2, hbz.c3⟩
    clear hf hb al1 hbz hb2 tX hbk t9 HM9 HF9 HBX9 HPC
    go_upto_region 15 with fail
    generalize (w10.alloc (.cells #[.int .i64 px.kind, .int .i64 px.n, .string ⟨px.name.toArray⟩, .slice qa px.a.length qc] PET)) = WX at *
    generalize w10.heap.size = rb at *
    generalize hpn : px.a.length = pn at *
    have HPN := hide hpn
    clear hpn
    have HD := hide (below_drewN (Below.refl WX.heap.size WX) 1)
    refine wp_regionE (R13 vb w.heap.size x (.slice xa xn xc) pb px (.slice pa pn pc) rb (.slice qa pn qc)) (fun j => decide (j < 32)) (by kernel_rfl) ((unhide HS0).keep (unhide HD)) (fun hS => ?_)
    refine anyE_take 0 (v := ?_) rfl (by kernel_rfl) (by kernel_rfl) (by kernel_rfl) (by kernel_rfl) (fun _ _ _ h => h) hS (Or.inl ⟨by rfl, ?_⟩) ?_
    rotate_left
    · intro w' hS'
      obtain ⟨e0, e1, e2, e3, e4, e5, e6, e7, e8, e9, e10, e11, e12⟩ := hS'
      go_simp
      try with_reducible rfl
    try simp only [List.getElem_toArray, List.getElem_cons_zero, Act.put, List.setIfInBounds_toArray, List.set_cons_zero, List.set_cons_succ]
    refine anyE_take 1 (v := ?_) rfl (by kernel_rfl) (by kernel_rfl) (by kernel_rfl) (by kernel_rfl) (fun _ _ _ h => h) hS (Or.inl ⟨by rfl, ?_⟩) ?_
    rotate_left
    · intro w' hS'
      obtain ⟨e0, e1, e2, e3, e4, e5, e6, e7, e8, e9, e10, e11, e12⟩ := hS'
      go_simp
      try with_reducible rfl
    try simp only [List.getElem_toArray, List.getElem_cons_succ, List.getElem_cons_zero, Act.put, List.setIfInBounds_toArray, List.set_cons_zero, List.set_cons_succ]
    refine anyE_take 2 (v := ?_) rfl (by kernel_rfl) (by kernel_rfl) (by kernel_rfl) (by kernel_rfl) (fun _ _ _ h => h) hS (Or.inl ⟨by rfl, ?_⟩) ?_
    rotate_left
    · intro w' hS'
      obtain ⟨e0, e1, e2, e3, e4, e5, e6, e7, e8, e9, e10, e11, e12⟩ := hS'
      go_simp
      try with_reducible rfl
    try simp only [List.getElem_toArray, List.getElem_cons_succ, List.getElem_cons_zero, Act.put, List.setIfInBounds_toArray, List.set_cons_zero, List.set_cons_succ]
    refine anyE_take 3 (v := ?_) rfl (by kernel_rfl) (by kernel_rfl) (by kernel_rfl) (by kernel_rfl) (fun _ _ _ h => h) hS (Or.inl ⟨by rfl, ?_⟩) ?_
    rotate_left
    · intro w' hS'
      obtain ⟨e0, e1, e2, e3, e4, e5, e6, e7, e8, e9, e10, e11, e12⟩ := hS'
      go_simp
      try with_reducible rfl
    try simp only [List.getElem_toArray, List.getElem_cons_succ, List.getElem_cons_zero, Act.put, List.setIfInBounds_toArray, List.set_cons_zero, List.set_cons_succ]
    refine anyE_take 4 (v := ?_) rfl (by kernel_rfl) (by kernel_rfl) (by kernel_rfl) (by kernel_rfl) (fun _ _ _ h => h) hS (Or.inl ⟨by rfl, ?_⟩) ?_
    rotate_left
    · intro w' hS'
      obtain ⟨e0, e1, e2, e3, e4, e5, e6, e7, e8, e9, e10, e11, e12⟩ := hS'
      go_simp
      try with_reducible rfl
    try simp only [List.getElem_toArray, List.getElem_cons_succ, List.getElem_cons_zero, Act.put, List.setIfInBounds_toArray, List.set_cons_zero, List.set_cons_succ]
    refine anyE_take 5 (v := ?_) rfl (by kernel_rfl) (by kernel_rfl) (by kernel_rfl) (by kernel_rfl) (fun _ _ _ h => h) hS (Or.inl ⟨by rfl, ?_⟩) ?_
    rotate_left
    · intro w' hS'
      obtain ⟨e0, e1, e2, e3, e4, e5, e6, e7, e8, e9, e10, e11, e12⟩ := hS'
      go_simp
      try with_reducible rfl
    try simp only [List.getElem_toArray, List.getElem_cons_succ, List.getElem_cons_zero, Act.put, List.setIfInBounds_toArray, List.set_cons_zero, List.set_cons_succ]
    refine anyE_take 6 (v := ?_) rfl (by kernel_rfl) (by kernel_rfl) (by kernel_rfl) (by kernel_rfl) (fun _ _ _ h => h) hS (Or.inl ⟨by rfl, ?_⟩) ?_
    rotate_left
    · intro w' hS'
      obtain ⟨e0, e1, e2, e3, e4, e5, e6, e7, e8, e9, e10, e11, e12⟩ := hS'
      go_simp
      try with_reducible rfl
    try simp only [List.getElem_toArray, List.getElem_cons_succ, List.getElem_cons_zero, Act.put, List.setIfInBounds_toArray, List.set_cons_zero, List.set_cons_succ]
    refine anyE_take 7 (v := ?_) rfl (by kernel_rfl) (by kernel_rfl) (by kernel_rfl) (by kernel_rfl) (fun _ _ _ h => h) hS (Or.inl ⟨by rfl, ?_⟩) ?_
    rotate_left
    · intro w' hS'
      obtain ⟨e0, e1, e2, e3, e4, e5, e6, e7, e8, e9, e10, e11, e12⟩ := hS'
      go_simp
      try with_reducible rfl
    try simp only [List.getElem_toArray, List.getElem_cons_succ, List.getElem_cons_zero, Act.put, List.setIfInBounds_toArray, List.set_cons_zero, List.set_cons_succ]
    refine anyE_take 8 (v := ?_) rfl (by kernel_rfl) (by kernel_rfl) (by kernel_rfl) (by kernel_rfl) (fun _ _ _ h => h) hS (Or.inl ⟨by rfl, ?_⟩) ?_
    rotate_left
    · intro w' hS'
      obtain ⟨e0, e1, e2, e3, e4, e5, e6, e7, e8, e9, e10, e11, e12⟩ := hS'
      go_simp
      try with_reducible rfl
    try simp only [List.getElem_toArray, List.getElem_cons_succ, List.getElem_cons_zero, Act.put, List.setIfInBounds_toArray, List.set_cons_zero, List.set_cons_succ]
    refine anyE_take 9 (v := ?_) rfl (by kernel_rfl) (by kernel_rfl) (by kernel_rfl) (by kernel_rfl) (fun _ _ _ h => h) hS (Or.inl ⟨by rfl, ?_⟩) ?_
    rotate_left
    · intro w' hS'
      obtain ⟨e0, e1, e2, e3, e4, e5, e6, e7, e8, e9, e10, e11, e12⟩ := hS'
      go_simp
      try with_reducible rfl
    try simp only [List.getElem_toArray, List.getElem_cons_succ, List.getElem_cons_zero, Act.put, List.setIfInBounds_toArray, List.set_cons_zero, List.set_cons_succ]
    refine anyE_take 10 (v := ?_) rfl (by kernel_rfl) (by kernel_rfl) (by kernel_rfl) (by kernel_rfl) (fun _ _ _ h => h) hS (Or.inl ⟨by rfl, ?_⟩) ?_
    rotate_left
    · intro w' hS'
      obtain ⟨e0, e1, e2, e3, e4, e5, e6, e7, e8, e9, e10, e11, e12⟩ := hS'
      go_simp
      try with_reducible rfl
    try simp only [List.getElem_toArray, List.getElem_cons_succ, List.getElem_cons_zero, Act.put, List.setIfInBounds_toArray, List.set_cons_zero, List.set_cons_succ]
    refine anyE_take 11 (v := ?_) rfl (by kernel_rfl) (by kernel_rfl) (by kernel_rfl) (by kernel_rfl) (fun _ _ _ h => h) hS (Or.inl ⟨by rfl, ?_⟩) ?_
    rotate_left
    · intro w' hS'
      obtain ⟨e0, e1, e2, e3, e4, e5, e6, e7, e8, e9, e10, e11, e12⟩ := hS'
      go_simp
      try with_reducible rfl
    try simp only [List.getElem_toArray, List.getElem_cons_succ, List.getElem_cons_zero, Act.put, List.setIfInBounds_toArray, List.set_cons_zero, List.set_cons_succ]
    refine anyE_ready [12] (by kernel_rfl) (by simp) (ReadyE.cons rfl (fun K' hK => ?_) ReadyE.nil)
    go_simp
    go_at_call 7
    refine (of_any x WX.drew _ _ ((unhide HMX).fx.old (unhide HD)) (sm_of x (unhide HNI))).mono ?_
    rintro ev V1 ⟨s12, rfl, hf12, hbc⟩
    obtain ⟨a12, c12, hs12⟩ := hf12.shape
    rw [unhide HXN] at hs12
    subst hs12
    dsimp only
    try go_simp
    refine hK _ _ (fun _ => R13.keep hS hbc) ?_
    replace hS := R13.keep hS hbc
    clear hK K'
    have HB1 := hide (bthen (unhide HD) hbc)
    have HF12 := hide (hf12.mono (S' := fun _ => True) (fun _ _ _ => trivial))
    clear hf12
    clear hbc
    try simp only [List.getElem_toArray, List.getElem_cons_succ, List.getElem_cons_zero, Act.put, List.setIfInBounds_toArray, List.set_cons_zero, List.set_cons_succ]
    refine anyE_ready [13] (by kernel_rfl) (by simp) (ReadyE.cons rfl (fun K' hK => ?_) ReadyE.nil)
    go_simp
    go_at_call 15
    refine (unhide HPP V1 _ _ (unhide HF12)).mono ?_
    rintro ev V2 ⟨s13, rfl, hf13, hbc⟩
    obtain ⟨a13, c13, hs13⟩ := hf13.shape
    rw [unhide HPN] at hs13
    subst hs13
    dsimp only
    try go_simp
    refine hK _ _ (fun _ => R13.keep hS hbc) ?_
    replace hS := R13.keep hS hbc
    clear hK K'
    have HB2 := hide (bthen (unhide HB1) hbc)
    have HF13 := hide (hf13.mono (S' := fun _ => True) (fun _ _ _ => trivial))
    clear hf13
    clear hbc
    try simp only [List.getElem_toArray, List.getElem_cons_succ, List.getElem_cons_zero, Act.put, List.setIfInBounds_toArray, List.set_cons_zero, List.set_cons_succ]
    refine anyE_ready [14] (by kernel_rfl) (by simp) (ReadyE.cons rfl (fun K' hK => ?_) ReadyE.nil)
    go_simp
    go_at_call 14
    refine (refSame_true px V2 _ _ _ _ ((unhide HFX).old (unhide HB2)) (unhide HF13)).mono ?_
    rintro ev V3 ⟨rfl, hbc⟩
    dsimp only
    try go_simp
    refine hK _ _ (fun _ => R13.keep hS hbc) ?_
    replace hS := R13.keep hS hbc
    clear hK K'
    have HB3 := hide (bthen (unhide HB2) hbc)
    clear hbc
    try simp only [List.getElem_toArray, List.getElem_cons_succ, List.getElem_cons_zero, Act.put, List.setIfInBounds_toArray, List.set_cons_zero, List.set_cons_succ]
    refine anyE_take 15 (v := ?_) rfl (by kernel_rfl) (by kernel_rfl) (by kernel_rfl) (by kernel_rfl) (fun _ _ _ h => h) hS (Or.inl ⟨by rfl, ?_⟩) ?_
    rotate_left
    · intro w' hS'
      obtain ⟨e0, e1, e2, e3, e4, e5, e6, e7, e8, e9, e10, e11, e12⟩ := hS'
      go_simp
      try with_reducible rfl
    try simp only [List.getElem_toArray, List.getElem_cons_succ, List.getElem_cons_zero, Act.put, List.setIfInBounds_toArray, List.set_cons_zero, List.set_cons_succ]
    refine anyE_take 16 (v := ?_) rfl (by kernel_rfl) (by kernel_rfl) (by kernel_rfl) (by kernel_rfl) (fun _ _ _ h => h) hS (Or.inl ⟨by rfl, ?_⟩) ?_
    rotate_left
    · intro w' hS'
      obtain ⟨e0, e1, e2, e3, e4, e5, e6, e7, e8, e9, e10, e11, e12⟩ := hS'
      go_simp
      try with_reducible rfl
    try simp only [List.getElem_toArray, List.getElem_cons_succ, List.getElem_cons_zero, Act.put, List.setIfInBounds_toArray, List.set_cons_zero, List.set_cons_succ]
    refine anyE_take 17 (v := ?_) rfl (by kernel_rfl) (by kernel_rfl) (by kernel_rfl) (by kernel_rfl) (fun _ _ _ h => h) hS (Or.inl ⟨by rfl, ?_⟩) ?_
    rotate_left
    · intro w' hS'
      obtain ⟨e0, e1, e2, e3, e4, e5, e6, e7, e8, e9, e10, e11, e12⟩ := hS'
      go_simp
      try with_reducible rfl
    try simp only [List.getElem_toArray, List.getElem_cons_succ, List.getElem_cons_zero, Act.put, List.setIfInBounds_toArray, List.set_cons_zero, List.set_cons_succ]
    refine anyE_take 18 (v := ?_) rfl (by kernel_rfl) (by kernel_rfl) (by kernel_rfl) (by kernel_rfl) (fun _ _ _ h => h) hS (Or.inl ⟨by rfl, ?_⟩) ?_
    rotate_left
    · intro w' hS'
      obtain ⟨e0, e1, e2, e3, e4, e5, e6, e7, e8, e9, e10, e11, e12⟩ := hS'
      go_simp
      try with_reducible rfl
    try simp only [List.getElem_toArray, List.getElem_cons_succ, List.getElem_cons_zero, Act.put, List.setIfInBounds_toArray, List.set_cons_zero, List.set_cons_succ]
    refine anyE_take 19 (v := ?_) rfl (by kernel_rfl) (by kernel_rfl) (by kernel_rfl) (by kernel_rfl) (fun _ _ _ h => h) hS (Or.inl ⟨by rfl, ?_⟩) ?_
    rotate_left
    · intro w' hS'
      obtain ⟨e0, e1, e2, e3, e4, e5, e6, e7, e8, e9, e10, e11, e12⟩ := hS'
      go_simp
      try with_reducible rfl
    try simp only [List.getElem_toArray, List.getElem_cons_succ, List.getElem_cons_zero, Act.put, List.setIfInBounds_toArray, List.set_cons_zero, List.set_cons_succ]
    refine anyE_take 20 (v := ?_) rfl (by kernel_rfl) (by kernel_rfl) (by kernel_rfl) (by kernel_rfl) (fun _ _ _ h => h) hS (Or.inl ⟨by rfl, ?_⟩) ?_
    rotate_left
    · intro w' hS'
      obtain ⟨e0, e1, e2, e3, e4, e5, e6, e7, e8, e9, e10, e11, e12⟩ := hS'
      go_simp
      try with_reducible rfl
    try simp only [List.getElem_toArray, List.getElem_cons_succ, List.getElem_cons_zero, Act.put, List.setIfInBounds_toArray, List.set_cons_zero, List.set_cons_succ]
    refine anyE_take 21 (v := ?_) rfl (by kernel_rfl) (by kernel_rfl) (by kernel_rfl) (by kernel_rfl) (fun _ _ _ h => h) hS (Or.inl ⟨by rfl, ?_⟩) ?_
    rotate_left
    · intro w' hS'
      obtain ⟨e0, e1, e2, e3, e4, e5, e6, e7, e8, e9, e10, e11, e12⟩ := hS'
      go_simp
      try with_reducible rfl
    try simp only [List.getElem_toArray, List.getElem_cons_succ, List.getElem_cons_zero, Act.put, List.setIfInBounds_toArray, List.set_cons_zero, List.set_cons_succ]
    refine anyE_take 22 (v := ?_) rfl (by kernel_rfl) (by kernel_rfl) (by kernel_rfl) (by kernel_rfl) (fun _ _ _ h => h) hS (Or.inl ⟨by rfl, ?_⟩) ?_
    rotate_left
    · intro w' hS'
      obtain ⟨e0, e1, e2, e3, e4, e5, e6, e7, e8, e9, e10, e11, e12⟩ := hS'
      go_simp
      try with_reducible rfl
    try simp only [List.getElem_toArray, List.getElem_cons_succ, List.getElem_cons_zero, Act.put, List.setIfInBounds_toArray, List.set_cons_zero, List.set_cons_succ]
    refine anyE_take 23 (v := ?_) rfl (by kernel_rfl) (by kernel_rfl) (by kernel_rfl) (by kernel_rfl) (fun _ _ _ h => h) hS (Or.inl ⟨by rfl, ?_⟩) ?_
    rotate_left
    · intro w' hS'
      obtain ⟨e0, e1, e2, e3, e4, e5, e6, e7, e8, e9, e10, e11, e12⟩ := hS'
      go_simp
      try with_reducible rfl
    try simp only [List.getElem_toArray, List.getElem_cons_succ, List.getElem_cons_zero, Act.put, List.setIfInBounds_toArray, List.set_cons_zero, List.set_cons_succ]
    refine anyE_take 24 (v := ?_) rfl (by kernel_rfl) (by kernel_rfl) (by kernel_rfl) (by kernel_rfl) (fun _ _ _ h => h) hS (Or.inl ⟨by rfl, ?_⟩) ?_
    rotate_left
    · intro w' hS'
      obtain ⟨e0, e1, e2, e3, e4, e5, e6, e7, e8, e9, e10, e11, e12⟩ := hS'
      go_simp
      try with_reducible rfl
    try simp only [List.getElem_toArray, List.getElem_cons_succ, List.getElem_cons_zero, Act.put, List.setIfInBounds_toArray, List.set_cons_zero, List.set_cons_succ]
    refine anyE_take 25 (v := ?_) rfl (by kernel_rfl) (by kernel_rfl) (by kernel_rfl) (by kernel_rfl) (fun _ _ _ h => h) hS (Or.inl ⟨by rfl, ?_⟩) ?_
    rotate_left
    · intro w' hS'
      obtain ⟨e0, e1, e2, e3, e4, e5, e6, e7, e8, e9, e10, e11, e12⟩ := hS'
      go_simp
      try with_reducible rfl
    try simp only [List.getElem_toArray, List.getElem_cons_succ, List.getElem_cons_zero, Act.put, List.setIfInBounds_toArray, List.set_cons_zero, List.set_cons_succ]
    refine anyE_take 26 (v := ?_) rfl (by kernel_rfl) (by kernel_rfl) (by kernel_rfl) (by kernel_rfl) (fun _ _ _ h => h) hS (Or.inl ⟨by rfl, ?_⟩) ?_
    rotate_left
    · intro w' hS'
      obtain ⟨e0, e1, e2, e3, e4, e5, e6, e7, e8, e9, e10, e11, e12⟩ := hS'
      go_simp
      try with_reducible rfl
    try simp only [List.getElem_toArray, List.getElem_cons_succ, List.getElem_cons_zero, Act.put, List.setIfInBounds_toArray, List.set_cons_zero, List.set_cons_succ]
    refine anyE_take 28 (v := ?_) rfl (by kernel_rfl) (by kernel_rfl) (by kernel_rfl) (by kernel_rfl) (fun _ _ _ h => h) hS (Or.inl ⟨by rfl, ?_⟩) ?_
    rotate_left
    · intro w' hS'
      obtain ⟨e0, e1, e2, e3, e4, e5, e6, e7, e8, e9, e10, e11, e12⟩ := hS'
      go_simp
      try with_reducible rfl
    try simp only [List.getElem_toArray, List.getElem_cons_succ, List.getElem_cons_zero, Act.put, List.setIfInBounds_toArray, List.set_cons_zero, List.set_cons_succ]
    refine anyE_ready [27] (by kernel_rfl) (by simp) (ReadyE.cons rfl (fun K' hK => ?_) ReadyE.nil)
    go_simp
    go_at_call 7
    refine (of_any px V3 _ _ ((unhide HFZ).old (unhide HB3)) (unhide HPSM)).mono ?_
    rintro ev V4 ⟨s27, rfl, hf27, hbc⟩
    obtain ⟨a27, c27, hs27⟩ := hf27.shape
    rw [unhide HPN] at hs27
    subst hs27
    dsimp only
    try go_simp
    refine hK _ _ (fun _ => R13.keep hS hbc) ?_
    replace hS := R13.keep hS hbc
    clear hK K'
    have HB4 := hide (bthen (unhide HB3) hbc)
    have HF27 := hide (hf27.mono (S' := fun _ => True) (fun _ _ _ => trivial))
    clear hf27
    clear hbc
    try simp only [List.getElem_toArray, List.getElem_cons_succ, List.getElem_cons_zero, Act.put, List.setIfInBounds_toArray, List.set_cons_zero, List.set_cons_succ]
    refine anyE_ready [29] (by kernel_rfl) (by simp) (ReadyE.cons rfl (fun K' hK => ?_) ReadyE.nil)
    go_simp
    go_at_call 14
    refine (refSame_true px V4 _ _ _ _ (unhide HF27) ((unhide HFX).old (unhide HB4))).mono ?_
    rintro ev V5 ⟨rfl, hbc⟩
    dsimp only
    try go_simp
    refine hK _ _ (fun _ => R13.keep hS hbc) ?_
    replace hS := R13.keep hS hbc
    clear hK K'
    have HB5 := hide (bthen (unhide HB4) hbc)
    clear hbc
    try simp only [List.getElem_toArray, List.getElem_cons_succ, List.getElem_cons_zero, Act.put, List.setIfInBounds_toArray, List.set_cons_zero, List.set_cons_succ]
    refine anyE_take 30 (v := ?_) rfl (by kernel_rfl) (by kernel_rfl) (by kernel_rfl) (by kernel_rfl) (fun _ _ _ h => h) hS (Or.inl ⟨by rfl, ?_⟩) ?_
    rotate_left
    · intro w' hS'
      obtain ⟨e0, e1, e2, e3, e4, e5, e6, e7, e8, e9, e10, e11, e12⟩ := hS'
      go_simp
      try with_reducible rfl
    try simp only [List.getElem_toArray, List.getElem_cons_succ, List.getElem_cons_zero, Act.put, List.setIfInBounds_toArray, List.set_cons_zero, List.set_cons_succ]
    refine anyE_take 31 (v := ?_) rfl (by kernel_rfl) (by kernel_rfl) (by kernel_rfl) (by kernel_rfl) (fun _ _ _ h => h) hS (Or.inl ⟨by rfl, ?_⟩) ?_
    rotate_left
    · intro w' hS'
      obtain ⟨e0, e1, e2, e3, e4, e5, e6, e7, e8, e9, e10, e11, e12⟩ := hS'
      go_simp
      try with_reducible rfl
    try simp only [List.getElem_toArray, List.getElem_cons_succ, List.getElem_cons_zero, Act.put, List.setIfInBounds_toArray, List.set_cons_zero, List.set_cons_succ]
    refine anyE_done (by kernel_rfl) ?_ _
    clear hS
    go_wp2_with fail
    go_ret
    exact ⟨rfl, bthen (unhide HMX).old (unhide HB5)⟩
  · have HRP : Hid (Calls Tryz.prog 11 #[.slice ua l.length uc] W7 fun e w' => ∃ (y : E) (n : Nat) (a : Option Addr) (m c : Nat) (ga : Option Addr) (gn gc : Nat), e = .returned (.tuple #[treeV y (.slice a m c), .int .i64 n, .agg #[.slice ga gn gc, .int .i64 4]]) ∧ Below W7.heap.size W7 w') := hide (by
      refine (refParse_any l _ W7 (by have := unhide HLL; omega) (unhide HU).1 (unhide HU).2).mono ?_
      rintro ev w8 ⟨x8, s8, sl, g, hR, he, hf, ht, hb, -⟩
      have hd := hR.det hE
      injection hd with hd1 hd2
      subst hd1 hd2
      obtain ⟨a, c, rfl⟩ := hf.shape
      obtain ⟨ga, gn, gc, rfl⟩ := told_shape ht
      rw [h4] at he
      exact ⟨_, _, a, _, c, ga, gn, gc, he, hb⟩)
    clear hE h4 HEE HPP HPSM
    go_wp2_with fail
    refine (unhide HRP).mono ?_
    rintro ev w8 ⟨y, n, a, m, c, ga, gn, gc, rfl, hb⟩
    have al1 := alloc_below w8 (.cells #[.int .i64 y.kind, .int .i64 y.n, .string ⟨y.name.toArray⟩, .slice a m c] ET)
    have al2 := alloc_below (w8.alloc (.cells #[.int .i64 y.kind, .int .i64 y.n, .string ⟨y.name.toArray⟩, .slice a m c] ET)) (.cells #[.slice ga gn gc, .int .i64 4] WrT)
    have hz1 : (w8.alloc (.cells #[.int .i64 y.kind, .int .i64 y.n, .string ⟨y.name.toArray⟩, .slice a m c] ET)).heap.size = w8.heap.size + 1 := by simp
    have t8 : ((w8.alloc (.cells #[.int .i64 y.kind, .int .i64 y.n, .string ⟨y.name.toArray⟩, .slice a m c] ET)).alloc (.cells #[.slice ga gn gc, .int .i64 4] WrT)).cell? ⟨w8.heap.size + 1, 1, none⟩ = some (.int .i64 4) := by rw [← hz1]; simp [go_sem]
    have HO := hide (bthen (unhide HM7).old (bthen hb (bthen al1 al2)))
    clear hb al1 al2 hz1 HM7 HU HRP t1
    go_upto_region 12 with fail
    generalize ((w8.alloc (.cells #[.int .i64 y.kind, .int .i64 y.n, .string ⟨y.name.toArray⟩, .slice a m c] ET)).alloc (.cells #[.slice ga gn gc, .int .i64 4] WrT)) = W8 at *
    go_wp2
    go_ret
    exact ⟨rfl, unhide HO⟩
end Go.Proofs.YtepnafnljfjeoaaGreatDoor.Line
