/- EvalAny, walked. -/
import Derived.Test.YtomnbidppkpfiaaDoorEvAnyM
namespace Go.Proofs.YtomnbidppkpfiaaDoor.Line
open Go.ChangeShapes Go.WideShapes Go.ChangeAt Go.RowKit
open Ex (E)
open Ev (Sy Res)
set_option linter.unusedVariables false

set_option maxHeartbeats 16000000 in
set_option maxRecDepth 100000 in
theorem evalAny_walk (x : E) (sx lv : Value) (l : List Int) (n : Nat) (w : World) (hn : n ≤ 255) (hbig : Big x) (hx : Forest w (fun _ => True) x.a sx) (hl : Ints w lv l) (hG : Glob w) :
    Calls Tryd.prog 3 #[treeV x sx, lv, .int .u8 n] w fun e w' => e = .returned (.bool true) ∧ Below w.heap.size w w' := by
  obtain ⟨m, hm⟩ : ∃ k : Nat, (n : Int) % 9 = k := Int.eq_ofNat_of_zero_le (by omega)
  have hm9 : m < 9 := by omega
  have al1 := alloc_below w (.cells #[.int .i64 x.kind, .int .i64 x.n, .string ⟨x.name.toArray⟩, sx] PET)
  have HB1 := hide (bx_new w x sx PET)
  have HX := hide (hx.old al1)
  have HL := hide (hl.below al1)
  have HG := hide (hG.below al1)
  have HGW := hide hG
  have AL := hide al1
  have HBG := hide hbig
  obtain ⟨xa, xc, rfl⟩ := hx.shape
  obtain ⟨la, lc, rfl⟩ := hl.shape
  clear hx hl hG al1 hbig
  generalize hxn : x.a.length = xn at *
  generalize hln : l.length = ln at *
  have HXN := hide hxn
  have HLN := hide hln
  clear hxn hln
  go_enter Tryd.func3, Tryd.ntmps3
  go_upto_region 1 with fail
  generalize (w.alloc (.cells #[.int .i64 x.kind, .int .i64 x.n, .string ⟨x.name.toArray⟩, .slice xa xn xc] PET)) = W1 at *
  have HK := hide (known9_any W1 (unhide HG))
  go_wp2_with (go_at_call 4; refine (unhide HK).mono ?_; rintro ev w0 ⟨rfl, hb0⟩; have HB0 := hide hb0; clear hb0)
  refine (table_any (1 + (m : Int)) w0 (by omega) (by omega)).mono ?_
  rintro ev w2 ⟨sv, rfl, hs, hb2⟩
  obtain ⟨sa, sc, rfl⟩ : ∃ a c, sv = .slice a 7 c := hs.shape
  obtain ⟨N, hN⟩ : ∃ N : Nat, N = m + 12 := ⟨_, rfl⟩
  have hc12 : (1 + (m : Int)) + 11 = (N : Int) := by omega
  rw [hc12]
  have HN := hide hN
  clear hN hc12
  have hb2' := bthen (unhide HB0) (bthen hb2 (alloc_below w2 (.cells #[.slice sa 7 sc, .int .i64 N] RTb)))
  have HS2 := hide (hs.below (alloc_below w2 (.cells #[.slice sa 7 sc, .int .i64 N] RTb)))
  have HB2 := hide hb2'
  have k0 : (w2.alloc (.cells #[.slice sa 7 sc, .int .i64 N] RTb)).cell? ⟨w2.heap.size, 0, none⟩ = some (.slice sa 7 sc) := by simp [go_sem]
  have k1 : (w2.alloc (.cells #[.slice sa 7 sc, .int .i64 N] RTb)).cell? ⟨w2.heap.size, 1, none⟩ = some (.int .i64 N) := by simp [go_sem]
  clear hs hb2 hb2' HK HB0
  go_upto_region 4 with fail
  generalize (w2.alloc (.cells #[.slice sa 7 sc, .int .i64 N] RTb)) = W2 at *
  generalize w2.heap.size = tb at *
  obtain ⟨a0, a1, a2, a3, -, -, -, -, hlt⟩ := unhide HB1
  have e0 := ((unhide HB2).cell (p := ⟨w.heap.size, 0, none⟩) hlt).trans a0
  have e1 := ((unhide HB2).cell (p := ⟨w.heap.size, 1, none⟩) hlt).trans a1
  have e2 := ((unhide HB2).cell (p := ⟨w.heap.size, 2, none⟩) hlt).trans a2
  have e3 := ((unhide HB2).cell (p := ⟨w.heap.size, 3, none⟩) hlt).trans a3
  clear a0 a1 a2 a3
  have HX2 := hide ((unhide HX).old (unhide HB2))
  have HOF := hide (of_any x W2 _ _ (unhide HX2) (unhide HBG))
  go_wp2_with fail
  refine (unhide HOF).mono ?_
  rintro ev w3 ⟨sy, rfl, hfy, hb3⟩
  obtain ⟨ya, yc, hsy⟩ := hfy.shape
  rw [unhide HXN] at hsy
  subst hsy
  have hb3' := bthen hb3 (alloc_below w3 (.cells #[.int .i64 x.kind, .int .i64 x.n, .string ⟨x.name.toArray⟩, .slice ya xn yc] ET))
  have hbx := bx_new w3 x (.slice ya xn yc) ET
  have HM : Hid (AM w w.heap.size tb w3.heap.size x (.slice xa xn xc) (.slice ya xn yc) (.slice sa 7 sc) (.slice la ln lc) l (Ev.tabN (1 + (m : Int))) N (w3.alloc (.cells #[.int .i64 x.kind, .int .i64 x.n, .string ⟨x.name.toArray⟩, .slice ya xn yc] ET))) := hide (by
    have s1 : S6 tb w.heap.size (.slice sa 7 sc) N x (.slice xa xn xc) W2 := ⟨k0, k1, e0, e1, e2, e3⟩
    have s1' := s1.keep hb3'
    exact ⟨s1', ⟨s1'.1, s1'.2.1, hbx.c0, hbx.c1, hbx.c2, hbx.c3⟩, (unhide HX2).old hb3', (hfy.old (alloc_below w3 _)).mono (fun _ _ _ => trivial), (unhide HS2).below hb3', ((unhide HL).below (unhide HB2)).below hb3', bthen (unhide AL) (bthen (unhide HB2) hb3')⟩)
  clear hfy hb3 hb3' hbx k0 k1 e0 e1 e2 e3 HX HX2 HB1 HL HS2 HB2 HOF hlt
  go_upto_region 5 with fail
  generalize (w3.alloc (.cells #[.int .i64 x.kind, .int .i64 x.n, .string ⟨x.name.toArray⟩, .slice ya xn yc] ET)) = W3 at *
  generalize w3.heap.size = xb at *
  obtain ⟨t0, t1, e0, e1, e2, e3⟩ := (unhide HM).s1
  have HFW := hide (few_any x W3 _ (unhide HM).fx)
  go_wp2_with fail
  refine (unhide HFW).mono ?_
  rintro ev w4 ⟨b, rfl, hbf, hbe⟩
  have HM4 := hide ((unhide HM).below hbe)
  clear t0 t1 e0 e1 e2 e3 HM HFW
  cases b with
  | false =>
    clear hbf hbe
    go_wp2
    go_ret
    exact ⟨rfl, (unhide HM4).old⟩
  | true =>
  obtain ⟨hsz, hni⟩ := hbf (by simp)
  have HSZ := hide hsz
  have HNI := hide hni
  clear hbf hbe hsz hni
  obtain ⟨t0, t1, x0, x1, x2, x3⟩ := (unhide HM4).s2
  have HRT := hide (right5_any x w4 _ (unhide HNI) (unhide HM4).fy)
  go_wp2_with fail
  refine (unhide HRT).mono ?_
  rintro ev w5 ⟨⟨b, rfl, hbf⟩, hbe⟩
  have HM5 := hide ((unhide HM4).below hbe)
  clear t0 t1 x0 x1 x2 x3 HRT HM4
  cases b with
  | false =>
    clear hbf hbe
    go_wp2
    go_ret
    exact ⟨rfl, (unhide HM5).old⟩
  | true =>
  have HRX := hide (hbf (by simp))
  clear hbf hbe
  obtain ⟨t0, t1, x0, x1, x2, x3⟩ := (unhide HM5).s2
  have HRN := hide (right9_any (Ev.tabN (1 + (m : Int))) x w5 _ _ N (unhide HNI) (unhide HM5).hs (unhide HM5).fy)
  go_wp2_with fail
  refine (unhide HRN).mono ?_
  rintro ev w6 ⟨⟨b, rfl, hbf⟩, hbe⟩
  have HM6 := hide ((unhide HM5).below hbe)
  clear t0 t1 x0 x1 x2 x3 HRN HM5
  cases b with
  | false =>
    clear hbf hbe
    go_wp2
    go_ret
    exact ⟨rfl, (unhide HM6).old⟩
  | true =>
  have HRW := hide (rw_of x (unhide HRX) (hbf (by simp)))
  clear hbf hbe HRX
  by_cases hl4 : 40 < ln
  · have hl4' : (40 : Int) < ln := by omega
    go_wp2
    go_ret
    exact ⟨rfl, (unhide HM6).old⟩
  have hl4' : ¬ (40 : Int) < ln := by omega
  obtain ⟨t0, t1, x0, x1, x2, x3⟩ := (unhide HM6).s1
  have HST := hide (store_any w6 (.slice sa 7 sc) N _ l (by have := unhide HN; omega) (unhide HM6).hl ⟨_, _, _, rfl⟩)
  go_wp2_with fail
  refine (unhide HST).mono ?_
  rintro ev w7 ⟨q, rfl, hq, hbe⟩
  have HM7 := hide (And.intro ((unhide HM6).below hbe) hq)
  clear t0 t1 x0 x1 x2 x3 HST HM6 hq hbe hl4'
  go_upto_region 8 with fail
  have HBW := hide (Below.refl w7.heap.size w7)
  have HCE : Hid (∀ (V : World) (a : Option Addr) (c : Nat), Below w7.heap.size w7 V → Syms V (.slice a 7 c) (Ev.tabN (1 + (m : Int))) → Calls Tryd.prog 11 #[.agg #[.slice a 7 c, .int .i64 N], (.slice (some ⟨q, 0, none⟩) N N), treeV x (.slice xa xn xc)] V fun e w' => ∃ f, e = .returned (.tuple #[.int .i64 (Ev.ev (Ev.tabN (1 + (m : Int))) (stoP N l) x).v, f]) ∧ Says V.heap.size w' f (Ev.ev (Ev.tabN (1 + (m : Int))) (stoP N l) x).word (Ev.ev (Ev.tabN (1 + (m : Int))) (stoP N l) x).at_ (Ev.ev (Ev.tabN (1 + (m : Int))) (stoP N l) x).err ∧ Below V.heap.size V w') := hide (fun V a c hb hs => eval_any V (.slice a 7 c) N (Ev.tabN (1 + (m : Int))) (.slice (some ⟨q, 0, none⟩) N N) (stoP N l) x _ hs (Ev.tabN_fine _ (by omega) (by omega)) ((unhide HM7).2.below hb) (by rw [stoP_len]; have := unhide HN; omega) ((unhide HM7).1.fx.old hb) (by have := unhide HSZ; omega))
  have HRE := hide (reval_any (T := Ev.tabN (1 + (m : Int))) (s := stoP N l) (N := N) (Ev.tabN_fine _ (by omega) (by omega)) (by have h := within_tabN m; rw [← unhide HN] at h; exact h) (stoP_len _ _) x (unhide HRW))
  have HCR : Hid (∀ (V : World) (q5 : Nat), Below w7.heap.size w7 V → Ints V (.slice (some ⟨q5, 0, none⟩) N N) (stoP N l) → Calls Tryd.prog 13 #[.agg #[.slice sa 7 sc, .int .i64 N], .slice (some ⟨q5, 0, none⟩) N N, treeV x (.slice ya xn yc)] V fun e w' => ∃ g, e = .returned (.tuple #[.int .i64 (Ev.ev (Ev.tabN (1 + (m : Int))) (stoP N l) x).v, g]) ∧ Told V.heap.size w' g (Ev.ev (Ev.tabN (1 + (m : Int))) (stoP N l) x).word (Ev.ev (Ev.tabN (1 + (m : Int))) (stoP N l) x).at_ (Ev.ev (Ev.tabN (1 + (m : Int))) (stoP N l) x).err ∧ Below V.heap.size V w') := hide (fun V q5 hb hi => unhide HRE V _ _ _ _ ((unhide HM7).1.hs.below hb) hi ((unhide HM7).1.fy.old hb))
  have HSTO0 : Hid (∀ (V : World), Below w7.heap.size w7 V → Calls Tryd.prog 10 #[.agg #[.slice sa 7 sc, .int .i64 N], .slice la ln lc] V fun e w' => ∃ q, e = .returned (.slice (some ⟨q, 0, none⟩) N N) ∧ Ints w' (.slice (some ⟨q, 0, none⟩) N N) (stoP N l) ∧ Below V.heap.size V w') := hide (fun V hb => store_any V (.slice sa 7 sc) N _ l (by have := unhide HN; omega) ((unhide HM7).1.hl.below hb) ⟨_, _, _, rfl⟩)
  have HCPE : Hid (∀ (V : World) (a : Option Addr) (c : Nat), Below w7.heap.size w7 V → Syms V (.slice a 7 c) (Ev.tabN (1 + (m : Int))) → Calls Tryd.prog 15 #[.agg #[.slice a 7 c, .int .i64 N], (.slice (some ⟨q, 0, none⟩) N N), treeV x (.slice xa xn xc)] V fun e w' => ∃ f, e = .returned (.tuple #[.int .i64 (placeP (Ev.tabN (1 + (m : Int))) (stoP N l) x).v, f]) ∧ Says V.heap.size w' f (placeP (Ev.tabN (1 + (m : Int))) (stoP N l) x).word (placeP (Ev.tabN (1 + (m : Int))) (stoP N l) x).at_ (placeP (Ev.tabN (1 + (m : Int))) (stoP N l) x).err ∧ Below V.heap.size V w') := hide (fun V a c hb hs => place_any V (.slice a 7 c) N (Ev.tabN (1 + (m : Int))) (.slice (some ⟨q, 0, none⟩) N N) (stoP N l) x _ hs (Ev.tabN_fine _ (by omega) (by omega)) ((unhide HM7).2.below hb) (by rw [stoP_len]; have := unhide HN; omega) ((unhide HM7).1.fx.old hb) (by have := unhide HSZ; omega))
  have HCPR0 : Hid (x.kind = 2 ∨ x.kind = 3 → ∀ (V : World) (q5 : Nat), Below w7.heap.size w7 V → Ints V (.slice (some ⟨q5, 0, none⟩) N N) (stoP N l) → Calls Tryd.prog 16 #[.agg #[.slice sa 7 sc, .int .i64 N], .slice (some ⟨q5, 0, none⟩) N N, treeV x (.slice ya xn yc)] V fun e w' => ∃ g, e = .returned (.tuple #[.int .i64 (placeP (Ev.tabN (1 + (m : Int))) (stoP N l) x).v, g]) ∧ Told V.heap.size w' g (placeP (Ev.tabN (1 + (m : Int))) (stoP N l) x).word (placeP (Ev.tabN (1 + (m : Int))) (stoP N l) x).at_ (placeP (Ev.tabN (1 + (m : Int))) (stoP N l) x).err ∧ Below V.heap.size V w') := hide (fun hk V q5 hb hi => rplace_of (T := Ev.tabN (1 + (m : Int))) (s := stoP N l) (N := N) (Ev.tabN_fine _ (by omega) (by omega)) (by have h := within_tabN m; rw [← unhide HN] at h; exact h) (stoP_len _ _) x (unhide HRW) hk V _ _ _ _ ((unhide HM7).1.hs.below hb) hi ((unhide HM7).1.fy.old hb))
  generalize hPL : placeP (Ev.tabN (1 + (m : Int))) (stoP N l) x = PL at *
  generalize hR : Ev.ev (Ev.tabN (1 + (m : Int))) (stoP N l) x = R at *
  go_cut [10, 11] from 51 to 58 (fun s1 s2 wx => s1 = .int .i64 R.v ∧ Hid ((AM w w.heap.size tb xb x (.slice xa xn xc) (.slice ya xn yc) (.slice sa 7 sc) (.slice la ln lc) l (Ev.tabN (1 + (m : Int))) N wx ∧ Ints wx (.slice (some ⟨q, 0, none⟩) N N) (stoP N l)) ∧ Says 0 wx s2 R.word R.at_ R.err) ∧ Hid (Below w7.heap.size w7 wx))
  case first =>
    have hd : Below w7.heap.size w7 w7.drew := below_drewN (Below.refl _ _) 1
    refine wp_regionE (S6 tb w.heap.size (.slice sa 7 sc) N x (.slice xa xn xc)) (fun j => decide (j < 10)) (by kernel_rfl) ((unhide HM7).1.s1.keep hd) (fun hS => ?_)
    refine anyE_take 0 (v := ?_) rfl (by kernel_rfl) (by kernel_rfl) (by kernel_rfl) (by kernel_rfl) (fun _ _ _ h => h) hS (Or.inl ⟨by rfl, ?_⟩) ?_
    rotate_left
    · intro w' hS'
      obtain ⟨e0, e1, e2, e3, e4, e5⟩ := hS'
      go_simp
      try with_reducible rfl
    try simp only [List.getElem_toArray, List.getElem_cons_zero, Act.put, List.setIfInBounds_toArray, List.set_cons_zero, List.set_cons_succ]
    refine anyE_take 2 (v := ?_) rfl (by kernel_rfl) (by kernel_rfl) (by kernel_rfl) (by kernel_rfl) (fun _ _ _ h => h) hS (Or.inl ⟨by rfl, ?_⟩) ?_
    rotate_left
    · intro w' hS'
      obtain ⟨e0, e1, e2, e3, e4, e5⟩ := hS'
      go_simp
      try with_reducible rfl
    try simp only [List.getElem_toArray, List.getElem_cons_succ, List.getElem_cons_zero, Act.put, List.setIfInBounds_toArray, List.set_cons_zero, List.set_cons_succ]
    refine anyE_take 3 (v := ?_) rfl (by kernel_rfl) (by kernel_rfl) (by kernel_rfl) (by kernel_rfl) (fun _ _ _ h => h) hS (Or.inl ⟨by rfl, ?_⟩) ?_
    rotate_left
    · intro w' hS'
      obtain ⟨e0, e1, e2, e3, e4, e5⟩ := hS'
      go_simp
      try with_reducible rfl
    try simp only [List.getElem_toArray, List.getElem_cons_succ, List.getElem_cons_zero, Act.put, List.setIfInBounds_toArray, List.set_cons_zero, List.set_cons_succ]
    refine anyE_ready [1] (by kernel_rfl) (by simp) (ReadyE.cons rfl (fun K' hK => ?_) ReadyE.nil)
    go_simp
    go_at_call 12
    refine (toTab_any _ (.slice sa 7 sc) N (Ev.tabN (1 + (m : Int))) ((unhide HM7).1.hs.below hd) (by simp [Ev.tabN])).mono ?_
    rintro ev w5 ⟨sv5, rfl, hs5, hb5⟩
    obtain ⟨sa5, sc5, rfl⟩ : ∃ a c, sv5 = .slice a 7 c := hs5.shape
    dsimp only
    try go_simp
    refine hK _ _ (fun _ => S6.keep hS hb5) ?_
    replace hS := S6.keep hS hb5
    clear hK K'
    try simp only [List.getElem_toArray, List.getElem_cons_succ, List.getElem_cons_zero, Act.put, List.setIfInBounds_toArray, List.set_cons_zero, List.set_cons_succ]
    have hb55 := bthen hd hb5
    refine anyE_ready [4] (by kernel_rfl) (by simp) (ReadyE.cons rfl (fun K' hK => ?_) ReadyE.nil)
    go_simp
    go_at_call 11
    refine (unhide HCE w5 sa5 sc5 (bthen (unhide HBW) hb55) hs5).mono ?_
    rintro ev w6 ⟨f, rfl, hsy, hb6⟩
    dsimp only
    try go_simp
    refine hK _ _ (fun _ => S6.keep hS hb6) ?_
    replace hS := S6.keep hS hb6
    clear hK K'
    try simp only [List.getElem_toArray, List.getElem_cons_succ, List.getElem_cons_zero, Act.put, List.setIfInBounds_toArray, List.set_cons_zero, List.set_cons_succ]
    refine anyE_take 5 (v := ?_) rfl (by kernel_rfl) (by kernel_rfl) (by kernel_rfl) (by kernel_rfl) (fun _ _ _ h => h) hS (Or.inl ⟨by rfl, ?_⟩) ?_
    rotate_left
    · intro w' hS'
      obtain ⟨e0, e1, e2, e3, e4, e5⟩ := hS'
      go_simp
      try with_reducible rfl
    try simp only [List.getElem_toArray, List.getElem_cons_succ, List.getElem_cons_zero, Act.put, List.setIfInBounds_toArray, List.set_cons_zero, List.set_cons_succ]
    refine anyE_take 6 (v := ?_) rfl (by kernel_rfl) (by kernel_rfl) (by kernel_rfl) (by kernel_rfl) (fun _ _ _ h => h) hS (Or.inl ⟨by rfl, ?_⟩) ?_
    rotate_left
    · intro w' hS'
      obtain ⟨e0, e1, e2, e3, e4, e5⟩ := hS'
      go_simp
      try with_reducible rfl
    try simp only [List.getElem_toArray, List.getElem_cons_succ, List.getElem_cons_zero, Act.put, List.setIfInBounds_toArray, List.set_cons_zero, List.set_cons_succ]
    refine anyE_take 7 (v := ?_) rfl (by kernel_rfl) (by kernel_rfl) (by kernel_rfl) (by kernel_rfl) (fun _ _ _ h => h) hS (Or.inl ⟨by rfl, ?_⟩) ?_
    rotate_left
    · intro w' hS'
      obtain ⟨e0, e1, e2, e3, e4, e5⟩ := hS'
      go_simp
      try with_reducible rfl
    try simp only [List.getElem_toArray, List.getElem_cons_succ, List.getElem_cons_zero, Act.put, List.setIfInBounds_toArray, List.set_cons_zero, List.set_cons_succ]
    refine anyE_take 8 (v := ?_) rfl (by kernel_rfl) (by kernel_rfl) (by kernel_rfl) (by kernel_rfl) (fun _ _ _ h => h) hS (Or.inl ⟨by rfl, ?_⟩) ?_
    rotate_left
    · intro w' hS'
      obtain ⟨e0, e1, e2, e3, e4, e5⟩ := hS'
      go_simp
      try with_reducible rfl
    try simp only [List.getElem_toArray, List.getElem_cons_succ, List.getElem_cons_zero, Act.put, List.setIfInBounds_toArray, List.set_cons_zero, List.set_cons_succ]
    refine anyE_take 9 (v := ?_) rfl (by kernel_rfl) (by kernel_rfl) (by kernel_rfl) (by kernel_rfl) (fun _ _ _ h => h) hS (Or.inl ⟨by rfl, ?_⟩) ?_
    rotate_left
    · intro w' hS'
      obtain ⟨e0, e1, e2, e3, e4, e5⟩ := hS'
      go_simp
      try with_reducible rfl
    try simp only [List.getElem_toArray, List.getElem_cons_succ, List.getElem_cons_zero, Act.put, List.setIfInBounds_toArray, List.set_cons_zero, List.set_cons_succ]
    refine anyE_done (by kernel_rfl) ?_ _
    clear hS
    go_wp2_with fail
    go_meet
    case rel => exact ⟨rfl, hide ⟨⟨(unhide HM7).1.below (bthen hb55 hb6), (unhide HM7).2.below (bthen hb55 hb6)⟩, says_mono hsy (Nat.zero_le _)⟩, hide (bthen (unhide HBW) (bthen hb55 hb6))⟩
  case rest =>
    obtain ⟨rfl, HM8, HB8⟩ := hcut
    clear HBW HM7 HCE
    have HBW := HB8
    clear HB8
    go_upto_region 9 with fail
    have hd : Below wc.heap.size wc wc.drew := below_drewN (Below.refl _ _) 1
    go_cut [12, 13] from 59 to 67 (fun s1 s2 wx => ∃ b ga gn gc, s1 = .int .i64 R.v ∧ s2 = .pointer (some ⟨b, 0, none⟩) ∧ wx.cell? ⟨b, 0, none⟩ = some (.slice ga gn gc) ∧ wx.cell? ⟨b, 1, none⟩ = some (.int .i64 R.err) ∧ Hid ((AM w w.heap.size tb xb x (.slice xa xn xc) (.slice ya xn yc) (.slice sa 7 sc) (.slice la ln lc) l (Ev.tabN (1 + (m : Int))) N wx ∧ Ints wx (.slice (some ⟨q, 0, none⟩) N N) (stoP N l)) ∧ Says 0 wx u11 R.word R.at_ R.err ∧ Told 0 wx (.agg #[.slice ga gn gc, .int .i64 R.err]) R.word R.at_ R.err) ∧ Hid (Below w7.heap.size w7 wx))
    case first =>
      refine wp_regionE (S6 tb xb (.slice sa 7 sc) N x (.slice ya xn yc)) (fun j => decide (j < 11)) (by kernel_rfl) ((unhide HM8).1.1.s2.keep hd) (fun hS => ?_)
      refine anyE_take 0 (v := ?_) rfl (by kernel_rfl) (by kernel_rfl) (by kernel_rfl) (by kernel_rfl) (fun _ _ _ h => h) hS (Or.inl ⟨by rfl, ?_⟩) ?_
      rotate_left
      · intro w' hS'
        obtain ⟨e0, e1, e2, e3, e4, e5⟩ := hS'
        go_simp
        try with_reducible rfl
      try simp only [List.getElem_toArray, List.getElem_cons_zero, Act.put, List.setIfInBounds_toArray, List.set_cons_zero, List.set_cons_succ]
      refine anyE_take 1 (v := ?_) rfl (by kernel_rfl) (by kernel_rfl) (by kernel_rfl) (by kernel_rfl) (fun _ _ _ h => h) hS (Or.inl ⟨by rfl, ?_⟩) ?_
      rotate_left
      · intro w' hS'
        obtain ⟨e0, e1, e2, e3, e4, e5⟩ := hS'
        go_simp
        try with_reducible rfl
      try simp only [List.getElem_toArray, List.getElem_cons_succ, List.getElem_cons_zero, Act.put, List.setIfInBounds_toArray, List.set_cons_zero, List.set_cons_succ]
      refine anyE_take 2 (v := ?_) rfl (by kernel_rfl) (by kernel_rfl) (by kernel_rfl) (by kernel_rfl) (fun _ _ _ h => h) hS (Or.inl ⟨by rfl, ?_⟩) ?_
      rotate_left
      · intro w' hS'
        obtain ⟨e0, e1, e2, e3, e4, e5⟩ := hS'
        go_simp
        try with_reducible rfl
      try simp only [List.getElem_toArray, List.getElem_cons_succ, List.getElem_cons_zero, Act.put, List.setIfInBounds_toArray, List.set_cons_zero, List.set_cons_succ]
      refine anyE_take 4 (v := ?_) rfl (by kernel_rfl) (by kernel_rfl) (by kernel_rfl) (by kernel_rfl) (fun _ _ _ h => h) hS (Or.inl ⟨by rfl, ?_⟩) ?_
      rotate_left
      · intro w' hS'
        obtain ⟨e0, e1, e2, e3, e4, e5⟩ := hS'
        go_simp
        try with_reducible rfl
      try simp only [List.getElem_toArray, List.getElem_cons_succ, List.getElem_cons_zero, Act.put, List.setIfInBounds_toArray, List.set_cons_zero, List.set_cons_succ]
      refine anyE_ready [3, 9] (by kernel_rfl) (by simp) (ReadyE.cons rfl (fun K' hK => ?_) (ReadyE.cons rfl (fun K' hK => ?_) ReadyE.nil))
      ·
        go_simp
        go_at_call 10
        refine (unhide HSTO0 _ (bthen (unhide HBW) hd)).mono ?_
        rintro ev w5 ⟨q5, rfl, hq5, hb5⟩
        dsimp only
        try go_simp
        refine hK _ _ (fun _ => S6.keep hS hb5) ?_
        replace hS := S6.keep hS hb5
        clear hK K'
        try simp only [List.getElem_toArray, List.getElem_cons_succ, List.getElem_cons_zero, Act.put, List.setIfInBounds_toArray, List.set_cons_zero, List.set_cons_succ]
        have hb55 := bthen hd hb5
        refine anyE_ready [5, 9] (by kernel_rfl) (by simp) (ReadyE.cons rfl (fun K' hK => ?_) (ReadyE.cons rfl (fun K' hK => ?_) ReadyE.nil))
        ·
          go_simp
          go_at_call 13
          refine (unhide HCR w5 q5 (bthen (unhide HBW) hb55) hq5).mono ?_
          rintro ev w6 ⟨g, rfl, htd, hb6⟩
          obtain ⟨ga, gn, gc, rfl⟩ := told_shape htd
          dsimp only
          try go_simp
          refine hK _ _ (fun _ => S6.keep hS hb6) ?_
          replace hS := S6.keep hS hb6
          clear hK K'
          try simp only [List.getElem_toArray, List.getElem_cons_succ, List.getElem_cons_zero, Act.put, List.setIfInBounds_toArray, List.set_cons_zero, List.set_cons_succ]
          refine anyE_take 6 (v := ?_) rfl (by kernel_rfl) (by kernel_rfl) (by kernel_rfl) (by kernel_rfl) (fun _ _ _ h => h) hS (Or.inl ⟨by rfl, ?_⟩) ?_
          rotate_left
          · intro w' hS'
            obtain ⟨e0, e1, e2, e3, e4, e5⟩ := hS'
            go_simp
            try with_reducible rfl
          try simp only [List.getElem_toArray, List.getElem_cons_succ, List.getElem_cons_zero, Act.put, List.setIfInBounds_toArray, List.set_cons_zero, List.set_cons_succ]
          refine anyE_take 7 (v := ?_) rfl (by kernel_rfl) (by kernel_rfl) (by kernel_rfl) (by kernel_rfl) (fun _ _ _ h => h) hS (Or.inl ⟨by rfl, ?_⟩) ?_
          rotate_left
          · intro w' hS'
            obtain ⟨e0, e1, e2, e3, e4, e5⟩ := hS'
            go_simp
            try with_reducible rfl
          try simp only [List.getElem_toArray, List.getElem_cons_succ, List.getElem_cons_zero, Act.put, List.setIfInBounds_toArray, List.set_cons_zero, List.set_cons_succ]
          refine anyE_take 8 (v := ?_) rfl (by kernel_rfl) (by kernel_rfl) (by kernel_rfl) (by kernel_rfl) (fun _ _ _ h => h) hS (Or.inl ⟨by rfl, ?_⟩) ?_
          rotate_left
          · intro w' hS'
            obtain ⟨e0, e1, e2, e3, e4, e5⟩ := hS'
            go_simp
            try with_reducible rfl
          try simp only [List.getElem_toArray, List.getElem_cons_succ, List.getElem_cons_zero, Act.put, List.setIfInBounds_toArray, List.set_cons_zero, List.set_cons_succ]
          refine anyE_ready [9] (by kernel_rfl) (by simp) (ReadyE.cons rfl (fun K' hK => ?_) ReadyE.nil)
          go_simp
          have hS0 := hS
          have hb7 := alloc_below w6 (.cells #[.slice none 0 0, .int .i64 0] WrT)
          refine hK _ _ (fun _ => S6.keep hS hb7) ?_
          replace hS := S6.keep hS hb7
          clear hK K'
          try simp only [List.getElem_toArray, List.getElem_cons_succ, List.getElem_cons_zero, Act.put, List.setIfInBounds_toArray, List.set_cons_zero, List.set_cons_succ]
          refine anyE_take 10 (v := ?_) rfl (by kernel_rfl) (by kernel_rfl) (by kernel_rfl) (by kernel_rfl) (fun _ _ _ h => h) hS (Or.inl ⟨by rfl, ?_⟩) ?_
          rotate_left
          · intro w' hS'
            obtain ⟨e0, e1, e2, e3, e4, e5⟩ := hS'
            go_simp
            try with_reducible rfl
          try simp only [List.getElem_toArray, List.getElem_cons_succ, List.getElem_cons_zero, Act.put, List.setIfInBounds_toArray, List.set_cons_zero, List.set_cons_succ]
          refine anyE_ready [11] (by kernel_rfl) (by simp) (ReadyE.cons rfl (fun K' hK => ?_) ReadyE.nil)
          go_simp
          have hb8 := alloc_below w6 (.cells #[.slice ga gn gc, .int .i64 R.err] WrT)
          refine hK _ _ (fun _ => S6.keep hS0 hb8) ?_
          clear hK K'
          try simp only [List.getElem_toArray, List.getElem_cons_succ, List.getElem_cons_zero, Act.put, List.setIfInBounds_toArray, List.set_cons_zero, List.set_cons_succ]
          refine anyE_done (by kernel_rfl) ?_ _
          clear hS hS0
          have hbF : Below wc.heap.size wc (w6.alloc (.cells #[.slice ga gn gc, .int .i64 R.err] WrT)) := bthen hb55 (bthen hb6 hb8)
          have htF : Told 0 (w6.alloc (.cells #[.slice ga gn gc, .int .i64 R.err] WrT)) (.agg #[.slice ga gn gc, .int .i64 R.err]) R.word R.at_ R.err := told_below (htd.below hb8) (Nat.zero_le _)
          have d0 : (w6.alloc (.cells #[.slice ga gn gc, .int .i64 R.err] WrT)).cell? ⟨w6.heap.size, 0, none⟩ = some (.slice ga gn gc) := by simp [go_sem]
          have d1 : (w6.alloc (.cells #[.slice ga gn gc, .int .i64 R.err] WrT)).cell? ⟨w6.heap.size, 1, none⟩ = some (.int .i64 R.err) := by simp [go_sem]
          have HFF := hide (And.intro hbF htF)
          clear hbF htF
          go_wp2_with fail
          go_meet
          case rel => exact ⟨w6.heap.size, ga, gn, gc, rfl, rfl, d0, d1, hide ⟨⟨(unhide HM8).1.1.below (unhide HFF).1, (unhide HM8).1.2.below (unhide HFF).1⟩, (unhide HM8).2.below (unhide HFF).1, (unhide HFF).2⟩, hide (bthen (unhide HBW) (unhide HFF).1)⟩
        ·
          go_simp
          have hb7 := alloc_below w5 (.cells #[.slice none 0 0, .int .i64 0] WrT)
          refine hK _ _ (fun _ => S6.keep hS hb7) ?_
          replace hS := S6.keep hS hb7
          clear hK K'
          try simp only [List.getElem_toArray, List.getElem_cons_succ, List.getElem_cons_zero, Act.put, List.setIfInBounds_toArray, List.set_cons_zero, List.set_cons_succ]
          refine anyE_ready [5] (by kernel_rfl) (by simp) (ReadyE.cons rfl (fun K' hK => ?_) ReadyE.nil)
          go_simp
          go_at_call 13
          refine (unhide HCR _ q5 (bthen (unhide HBW) (bthen hb55 hb7)) (hq5.below hb7)).mono ?_
          rintro ev w6 ⟨g, rfl, htd, hb6⟩
          obtain ⟨ga, gn, gc, rfl⟩ := told_shape htd
          dsimp only
          try go_simp
          refine hK _ _ (fun _ => S6.keep hS hb6) ?_
          replace hS := S6.keep hS hb6
          clear hK K'
          try simp only [List.getElem_toArray, List.getElem_cons_succ, List.getElem_cons_zero, Act.put, List.setIfInBounds_toArray, List.set_cons_zero, List.set_cons_succ]
          have p0 : w6.cell? ⟨w5.heap.size, 0, none⟩ = some (.slice none 0 0) := (hb6.cell (p := ⟨w5.heap.size, 0, none⟩) (by simp)).trans (wr_al0 w5)
          have p1 : w6.cell? ⟨w5.heap.size, 1, none⟩ = some (.int .i64 0) := (hb6.cell (p := ⟨w5.heap.size, 1, none⟩) (by simp)).trans (wr_al1 w5)
          have pf : ∀ o, w6.frozen? ⟨w5.heap.size, o, none⟩ = false := fun o => (hb6.frozen (p := ⟨w5.heap.size, o, none⟩) (by simp)).trans (wr_alf w5 o)
          have hbW := bthen hb55 (bthen hb7 hb6)
          have hbl : w5.heap.size < (w5.alloc (.cells #[.slice none 0 0, .int .i64 0] WrT)).heap.size := by simp
          have hs55 := hb55.size
          refine anyE_take 6 (v := ?_) rfl (by kernel_rfl) (by kernel_rfl) (by kernel_rfl) (by kernel_rfl) (fun _ _ _ h => h) hS (Or.inl ⟨by rfl, ?_⟩) ?_
          rotate_left
          · intro w' hS'
            obtain ⟨e0, e1, e2, e3, e4, e5⟩ := hS'
            go_simp
            try with_reducible rfl
          try simp only [List.getElem_toArray, List.getElem_cons_succ, List.getElem_cons_zero, Act.put, List.setIfInBounds_toArray, List.set_cons_zero, List.set_cons_succ]
          refine anyE_take 7 (v := ?_) rfl (by kernel_rfl) (by kernel_rfl) (by kernel_rfl) (by kernel_rfl) (fun _ _ _ h => h) hS (Or.inl ⟨by rfl, ?_⟩) ?_
          rotate_left
          · intro w' hS'
            obtain ⟨e0, e1, e2, e3, e4, e5⟩ := hS'
            go_simp
            try with_reducible rfl
          try simp only [List.getElem_toArray, List.getElem_cons_succ, List.getElem_cons_zero, Act.put, List.setIfInBounds_toArray, List.set_cons_zero, List.set_cons_succ]
          refine anyE_take 8 (v := ?_) rfl (by kernel_rfl) (by kernel_rfl) (by kernel_rfl) (by kernel_rfl) (fun _ _ _ h => h) hS (Or.inl ⟨by rfl, ?_⟩) ?_
          rotate_left
          · intro w' hS'
            obtain ⟨e0, e1, e2, e3, e4, e5⟩ := hS'
            go_simp
            try with_reducible rfl
          try simp only [List.getElem_toArray, List.getElem_cons_succ, List.getElem_cons_zero, Act.put, List.setIfInBounds_toArray, List.set_cons_zero, List.set_cons_succ]
          refine anyE_take 10 (v := ?_) rfl (by kernel_rfl) (by kernel_rfl) (by kernel_rfl) (by kernel_rfl) (fun _ _ _ h => h) hS (Or.inl ⟨by rfl, ?_⟩) ?_
          rotate_left
          · intro w' hS'
            obtain ⟨e0, e1, e2, e3, e4, e5⟩ := hS'
            go_simp
            try with_reducible rfl
          try simp only [List.getElem_toArray, List.getElem_cons_succ, List.getElem_cons_zero, Act.put, List.setIfInBounds_toArray, List.set_cons_zero, List.set_cons_succ]
          refine anyE_ready [11] (by kernel_rfl) (by simp) (ReadyE.cons rfl (fun K' hK => ?_) ReadyE.nil)
          go_simp
          have hbF0 : Below wc.heap.size wc ((w6.setCell ⟨w5.heap.size, 0, none⟩ (.slice ga gn gc)).setCell ⟨w5.heap.size, 1, none⟩ (.int .i64 R.err)) := (hbW.setCell (p := ⟨w5.heap.size, 0, none⟩) (hs55) _).setCell (p := ⟨w5.heap.size, 1, none⟩) (hs55) _
          refine hK _ _ (fun h => by exact absurd h (by decide)) ?_
          clear hK K'
          try simp only [List.getElem_toArray, List.getElem_cons_succ, List.getElem_cons_zero, Act.put, List.setIfInBounds_toArray, List.set_cons_zero, List.set_cons_succ]
          have hS0 := hS
          refine anyE_done (by kernel_rfl) ?_ _
          clear hS hS0
          have hbF : Below wc.heap.size wc ((w6.setCell ⟨w5.heap.size, 0, none⟩ (.slice ga gn gc)).setCell ⟨w5.heap.size, 1, none⟩ (.int .i64 R.err)) := hbF0
          have htF : Told 0 ((w6.setCell ⟨w5.heap.size, 0, none⟩ (.slice ga gn gc)).setCell ⟨w5.heap.size, 1, none⟩ (.int .i64 R.err)) (.agg #[.slice ga gn gc, .int .i64 R.err]) R.word R.at_ R.err := told_below (told_set (told_set htd ⟨w5.heap.size, 0, none⟩ hbl _) ⟨w5.heap.size, 1, none⟩ hbl _) (Nat.zero_le _)
          have d0 : ((w6.setCell ⟨w5.heap.size, 0, none⟩ (.slice ga gn gc)).setCell ⟨w5.heap.size, 1, none⟩ (.int .i64 R.err)).cell? ⟨w5.heap.size, 0, none⟩ = some (.slice ga gn gc) := by simp [go_sem, p0]
          have d1 : ((w6.setCell ⟨w5.heap.size, 0, none⟩ (.slice ga gn gc)).setCell ⟨w5.heap.size, 1, none⟩ (.int .i64 R.err)).cell? ⟨w5.heap.size, 1, none⟩ = some (.int .i64 R.err) := by simp [go_sem, p1]
          have HFF := hide (And.intro hbF htF)
          clear hbF htF
          go_wp2_with fail
          go_meet
          case rel => exact ⟨w5.heap.size, ga, gn, gc, rfl, rfl, d0, d1, hide ⟨⟨(unhide HM8).1.1.below (unhide HFF).1, (unhide HM8).1.2.below (unhide HFF).1⟩, (unhide HM8).2.below (unhide HFF).1, (unhide HFF).2⟩, hide (bthen (unhide HBW) (unhide HFF).1)⟩
      ·
        go_simp
        have hb7 := alloc_below wc.drew (.cells #[.slice none 0 0, .int .i64 0] WrT)
        refine hK _ _ (fun _ => S6.keep hS hb7) ?_
        replace hS := S6.keep hS hb7
        clear hK K'
        try simp only [List.getElem_toArray, List.getElem_cons_succ, List.getElem_cons_zero, Act.put, List.setIfInBounds_toArray, List.set_cons_zero, List.set_cons_succ]
        refine anyE_ready [3] (by kernel_rfl) (by simp) (ReadyE.cons rfl (fun K' hK => ?_) ReadyE.nil)
        go_simp
        go_at_call 10
        refine (unhide HSTO0 _ (bthen (unhide HBW) (bthen hd hb7))).mono ?_
        rintro ev w5 ⟨q5, rfl, hq5, hb5⟩
        dsimp only
        try go_simp
        refine hK _ _ (fun _ => S6.keep hS hb5) ?_
        replace hS := S6.keep hS hb5
        clear hK K'
        try simp only [List.getElem_toArray, List.getElem_cons_succ, List.getElem_cons_zero, Act.put, List.setIfInBounds_toArray, List.set_cons_zero, List.set_cons_succ]
        refine anyE_ready [5] (by kernel_rfl) (by simp) (ReadyE.cons rfl (fun K' hK => ?_) ReadyE.nil)
        go_simp
        go_at_call 13
        refine (unhide HCR w5 q5 (bthen (unhide HBW) (bthen (bthen hd hb7) hb5)) hq5).mono ?_
        rintro ev w6 ⟨g, rfl, htd, hb6⟩
        obtain ⟨ga, gn, gc, rfl⟩ := told_shape htd
        dsimp only
        try go_simp
        refine hK _ _ (fun _ => S6.keep hS hb6) ?_
        replace hS := S6.keep hS hb6
        clear hK K'
        try simp only [List.getElem_toArray, List.getElem_cons_succ, List.getElem_cons_zero, Act.put, List.setIfInBounds_toArray, List.set_cons_zero, List.set_cons_succ]
        have p0 : w6.cell? ⟨wc.heap.size, 0, none⟩ = some (.slice none 0 0) := ((bthen hb5 hb6).cell (p := ⟨wc.heap.size, 0, none⟩) (by simp)).trans (wr_al0 wc.drew)
        have p1 : w6.cell? ⟨wc.heap.size, 1, none⟩ = some (.int .i64 0) := ((bthen hb5 hb6).cell (p := ⟨wc.heap.size, 1, none⟩) (by simp)).trans (wr_al1 wc.drew)
        have pf : ∀ o, w6.frozen? ⟨wc.heap.size, o, none⟩ = false := fun o => ((bthen hb5 hb6).frozen (p := ⟨wc.heap.size, o, none⟩) (by simp)).trans (wr_alf wc.drew o)
        have hbW := bthen (bthen hd hb7) (bthen hb5 hb6)
        have hs5 := hb5.size
        have hbl : wc.heap.size < w5.heap.size := Nat.lt_of_lt_of_le (by simp) hs5
        refine anyE_take 6 (v := ?_) rfl (by kernel_rfl) (by kernel_rfl) (by kernel_rfl) (by kernel_rfl) (fun _ _ _ h => h) hS (Or.inl ⟨by rfl, ?_⟩) ?_
        rotate_left
        · intro w' hS'
          obtain ⟨e0, e1, e2, e3, e4, e5⟩ := hS'
          go_simp
          try with_reducible rfl
        try simp only [List.getElem_toArray, List.getElem_cons_succ, List.getElem_cons_zero, Act.put, List.setIfInBounds_toArray, List.set_cons_zero, List.set_cons_succ]
        refine anyE_take 7 (v := ?_) rfl (by kernel_rfl) (by kernel_rfl) (by kernel_rfl) (by kernel_rfl) (fun _ _ _ h => h) hS (Or.inl ⟨by rfl, ?_⟩) ?_
        rotate_left
        · intro w' hS'
          obtain ⟨e0, e1, e2, e3, e4, e5⟩ := hS'
          go_simp
          try with_reducible rfl
        try simp only [List.getElem_toArray, List.getElem_cons_succ, List.getElem_cons_zero, Act.put, List.setIfInBounds_toArray, List.set_cons_zero, List.set_cons_succ]
        refine anyE_take 8 (v := ?_) rfl (by kernel_rfl) (by kernel_rfl) (by kernel_rfl) (by kernel_rfl) (fun _ _ _ h => h) hS (Or.inl ⟨by rfl, ?_⟩) ?_
        rotate_left
        · intro w' hS'
          obtain ⟨e0, e1, e2, e3, e4, e5⟩ := hS'
          go_simp
          try with_reducible rfl
        try simp only [List.getElem_toArray, List.getElem_cons_succ, List.getElem_cons_zero, Act.put, List.setIfInBounds_toArray, List.set_cons_zero, List.set_cons_succ]
        refine anyE_take 10 (v := ?_) rfl (by kernel_rfl) (by kernel_rfl) (by kernel_rfl) (by kernel_rfl) (fun _ _ _ h => h) hS (Or.inl ⟨by rfl, ?_⟩) ?_
        rotate_left
        · intro w' hS'
          obtain ⟨e0, e1, e2, e3, e4, e5⟩ := hS'
          go_simp
          try with_reducible rfl
        try simp only [List.getElem_toArray, List.getElem_cons_succ, List.getElem_cons_zero, Act.put, List.setIfInBounds_toArray, List.set_cons_zero, List.set_cons_succ]
        refine anyE_ready [11] (by kernel_rfl) (by simp) (ReadyE.cons rfl (fun K' hK => ?_) ReadyE.nil)
        go_simp
        have hbF0 : Below wc.heap.size wc ((w6.setCell ⟨wc.heap.size, 0, none⟩ (.slice ga gn gc)).setCell ⟨wc.heap.size, 1, none⟩ (.int .i64 R.err)) := (hbW.setCell (p := ⟨wc.heap.size, 0, none⟩) (Nat.le_refl _) _).setCell (p := ⟨wc.heap.size, 1, none⟩) (Nat.le_refl _) _
        refine hK _ _ (fun h => by exact absurd h (by decide)) ?_
        clear hK K'
        try simp only [List.getElem_toArray, List.getElem_cons_succ, List.getElem_cons_zero, Act.put, List.setIfInBounds_toArray, List.set_cons_zero, List.set_cons_succ]
        have hS0 := hS
        refine anyE_done (by kernel_rfl) ?_ _
        clear hS hS0
        have hbF : Below wc.heap.size wc ((w6.setCell ⟨wc.heap.size, 0, none⟩ (.slice ga gn gc)).setCell ⟨wc.heap.size, 1, none⟩ (.int .i64 R.err)) := hbF0
        have htF : Told 0 ((w6.setCell ⟨wc.heap.size, 0, none⟩ (.slice ga gn gc)).setCell ⟨wc.heap.size, 1, none⟩ (.int .i64 R.err)) (.agg #[.slice ga gn gc, .int .i64 R.err]) R.word R.at_ R.err := told_below (told_set (told_set htd ⟨wc.heap.size, 0, none⟩ hbl _) ⟨wc.heap.size, 1, none⟩ hbl _) (Nat.zero_le _)
        have d0 : ((w6.setCell ⟨wc.heap.size, 0, none⟩ (.slice ga gn gc)).setCell ⟨wc.heap.size, 1, none⟩ (.int .i64 R.err)).cell? ⟨wc.heap.size, 0, none⟩ = some (.slice ga gn gc) := by simp [go_sem, p0]
        have d1 : ((w6.setCell ⟨wc.heap.size, 0, none⟩ (.slice ga gn gc)).setCell ⟨wc.heap.size, 1, none⟩ (.int .i64 R.err)).cell? ⟨wc.heap.size, 1, none⟩ = some (.int .i64 R.err) := by simp [go_sem, p1]
        have HFF := hide (And.intro hbF htF)
        clear hbF htF
        go_wp2_with fail
        go_meet
        case rel => exact ⟨wc.heap.size, ga, gn, gc, rfl, rfl, d0, d1, hide ⟨⟨(unhide HM8).1.1.below (unhide HFF).1, (unhide HM8).1.2.below (unhide HFF).1⟩, (unhide HM8).2.below (unhide HFF).1, (unhide HFF).2⟩, hide (bthen (unhide HBW) (unhide HFF).1)⟩
    case rest =>
      clear HBW HM8 HCR
      obtain ⟨b, ga, gn, gc, rfl, rfl, g0, g1, HM9, HB9⟩ := hcut
      have HBW := HB9
      clear HB9
      have HTL := hide (tells_any wc u11 (.agg #[.slice ga gn gc, .int .i64 R.err]) R.word R.at_ R.err ((unhide HGW).below (unhide HM9).1.1.old) (unhide HM9).2.1 (unhide HM9).2.2)
      go_wp2_with fail
      refine (unhide HTL).mono ?_
      rintro ev w8 ⟨rfl, hb8⟩
      have HMZ := hide (And.intro ((unhide HM9).1.1.below hb8) ((unhide HM9).1.2.below hb8))
      have HBW2 := hide (bthen (unhide HBW) hb8)
      clear g0 g1 HM9 HBW HTL hb8
      have HBW := HBW2
      clear HBW2
      obtain ⟨-, -, e0, -, -, -⟩ := (unhide HMZ).1.s1
      by_cases k2 : x.kind = 2
      · rw [k2] at e0
        have HCPR := hide (unhide HCPR0 (.inl k2))
        clear k2 HCPR0
        go_upto_region 13 with fail
        clear e0
        go_cut [14, 15] from 85 to 92 (fun s1 s2 wx => s1 = .int .i64 PL.v ∧ Hid ((AM w w.heap.size tb xb x (.slice xa xn xc) (.slice ya xn yc) (.slice sa 7 sc) (.slice la ln lc) l (Ev.tabN (1 + (m : Int))) N wx ∧ Ints wx (.slice (some ⟨q, 0, none⟩) N N) (stoP N l)) ∧ Says 0 wx s2 PL.word PL.at_ PL.err) ∧ Hid (Below w7.heap.size w7 wx))
        case first =>
          have hd : Below w8.heap.size w8 w8.drew := below_drewN (Below.refl _ _) 1
          refine wp_regionE (S6 tb w.heap.size (.slice sa 7 sc) N x (.slice xa xn xc)) (fun j => decide (j < 10)) (by kernel_rfl) ((unhide HMZ).1.s1.keep hd) (fun hS => ?_)
          refine anyE_take 0 (v := ?_) rfl (by kernel_rfl) (by kernel_rfl) (by kernel_rfl) (by kernel_rfl) (fun _ _ _ h => h) hS (Or.inl ⟨by rfl, ?_⟩) ?_
          rotate_left
          · intro w' hS'
            obtain ⟨e0, e1, e2, e3, e4, e5⟩ := hS'
            go_simp
            try with_reducible rfl
          try simp only [List.getElem_toArray, List.getElem_cons_zero, Act.put, List.setIfInBounds_toArray, List.set_cons_zero, List.set_cons_succ]
          refine anyE_take 2 (v := ?_) rfl (by kernel_rfl) (by kernel_rfl) (by kernel_rfl) (by kernel_rfl) (fun _ _ _ h => h) hS (Or.inl ⟨by rfl, ?_⟩) ?_
          rotate_left
          · intro w' hS'
            obtain ⟨e0, e1, e2, e3, e4, e5⟩ := hS'
            go_simp
            try with_reducible rfl
          try simp only [List.getElem_toArray, List.getElem_cons_succ, List.getElem_cons_zero, Act.put, List.setIfInBounds_toArray, List.set_cons_zero, List.set_cons_succ]
          refine anyE_take 3 (v := ?_) rfl (by kernel_rfl) (by kernel_rfl) (by kernel_rfl) (by kernel_rfl) (fun _ _ _ h => h) hS (Or.inl ⟨by rfl, ?_⟩) ?_
          rotate_left
          · intro w' hS'
            obtain ⟨e0, e1, e2, e3, e4, e5⟩ := hS'
            go_simp
            try with_reducible rfl
          try simp only [List.getElem_toArray, List.getElem_cons_succ, List.getElem_cons_zero, Act.put, List.setIfInBounds_toArray, List.set_cons_zero, List.set_cons_succ]
          refine anyE_ready [1] (by kernel_rfl) (by simp) (ReadyE.cons rfl (fun K' hK => ?_) ReadyE.nil)
          go_simp
          go_at_call 12
          refine (toTab_any _ (.slice sa 7 sc) N (Ev.tabN (1 + (m : Int))) ((unhide HMZ).1.hs.below hd) (by simp [Ev.tabN])).mono ?_
          rintro ev w5 ⟨sv5, rfl, hs5, hb5⟩
          obtain ⟨sa5, sc5, rfl⟩ : ∃ a c, sv5 = .slice a 7 c := hs5.shape
          dsimp only
          try go_simp
          refine hK _ _ (fun _ => S6.keep hS hb5) ?_
          replace hS := S6.keep hS hb5
          clear hK K'
          try simp only [List.getElem_toArray, List.getElem_cons_succ, List.getElem_cons_zero, Act.put, List.setIfInBounds_toArray, List.set_cons_zero, List.set_cons_succ]
          have hb55 := bthen hd hb5
          refine anyE_ready [4] (by kernel_rfl) (by simp) (ReadyE.cons rfl (fun K' hK => ?_) ReadyE.nil)
          go_simp
          go_at_call 15
          refine (unhide HCPE w5 sa5 sc5 (bthen (unhide HBW) hb55) hs5).mono ?_
          rintro ev w6 ⟨f, rfl, hsy, hb6⟩
          dsimp only
          try go_simp
          refine hK _ _ (fun _ => S6.keep hS hb6) ?_
          replace hS := S6.keep hS hb6
          clear hK K'
          try simp only [List.getElem_toArray, List.getElem_cons_succ, List.getElem_cons_zero, Act.put, List.setIfInBounds_toArray, List.set_cons_zero, List.set_cons_succ]
          refine anyE_take 5 (v := ?_) rfl (by kernel_rfl) (by kernel_rfl) (by kernel_rfl) (by kernel_rfl) (fun _ _ _ h => h) hS (Or.inl ⟨by rfl, ?_⟩) ?_
          rotate_left
          · intro w' hS'
            obtain ⟨e0, e1, e2, e3, e4, e5⟩ := hS'
            go_simp
            try with_reducible rfl
          try simp only [List.getElem_toArray, List.getElem_cons_succ, List.getElem_cons_zero, Act.put, List.setIfInBounds_toArray, List.set_cons_zero, List.set_cons_succ]
          refine anyE_take 6 (v := ?_) rfl (by kernel_rfl) (by kernel_rfl) (by kernel_rfl) (by kernel_rfl) (fun _ _ _ h => h) hS (Or.inl ⟨by rfl, ?_⟩) ?_
          rotate_left
          · intro w' hS'
            obtain ⟨e0, e1, e2, e3, e4, e5⟩ := hS'
            go_simp
            try with_reducible rfl
          try simp only [List.getElem_toArray, List.getElem_cons_succ, List.getElem_cons_zero, Act.put, List.setIfInBounds_toArray, List.set_cons_zero, List.set_cons_succ]
          refine anyE_take 7 (v := ?_) rfl (by kernel_rfl) (by kernel_rfl) (by kernel_rfl) (by kernel_rfl) (fun _ _ _ h => h) hS (Or.inl ⟨by rfl, ?_⟩) ?_
          rotate_left
          · intro w' hS'
            obtain ⟨e0, e1, e2, e3, e4, e5⟩ := hS'
            go_simp
            try with_reducible rfl
          try simp only [List.getElem_toArray, List.getElem_cons_succ, List.getElem_cons_zero, Act.put, List.setIfInBounds_toArray, List.set_cons_zero, List.set_cons_succ]
          refine anyE_take 8 (v := ?_) rfl (by kernel_rfl) (by kernel_rfl) (by kernel_rfl) (by kernel_rfl) (fun _ _ _ h => h) hS (Or.inl ⟨by rfl, ?_⟩) ?_
          rotate_left
          · intro w' hS'
            obtain ⟨e0, e1, e2, e3, e4, e5⟩ := hS'
            go_simp
            try with_reducible rfl
          try simp only [List.getElem_toArray, List.getElem_cons_succ, List.getElem_cons_zero, Act.put, List.setIfInBounds_toArray, List.set_cons_zero, List.set_cons_succ]
          refine anyE_take 9 (v := ?_) rfl (by kernel_rfl) (by kernel_rfl) (by kernel_rfl) (by kernel_rfl) (fun _ _ _ h => h) hS (Or.inl ⟨by rfl, ?_⟩) ?_
          rotate_left
          · intro w' hS'
            obtain ⟨e0, e1, e2, e3, e4, e5⟩ := hS'
            go_simp
            try with_reducible rfl
          try simp only [List.getElem_toArray, List.getElem_cons_succ, List.getElem_cons_zero, Act.put, List.setIfInBounds_toArray, List.set_cons_zero, List.set_cons_succ]
          refine anyE_done (by kernel_rfl) ?_ _
          clear hS
          go_wp2_with fail
          go_meet
          case rel => exact ⟨rfl, hide ⟨⟨(unhide HMZ).1.below (bthen hb55 hb6), (unhide HMZ).2.below (bthen hb55 hb6)⟩, says_mono hsy (Nat.zero_le _)⟩, hide (bthen (unhide HBW) (bthen hb55 hb6))⟩
        case rest =>
          obtain ⟨rfl, HM8, HB8⟩ := hcut
          clear HBW HMZ HCPE
          have HBW := HB8
          clear HB8
          go_upto_region 14 with fail
          have hd : Below wc.heap.size wc wc.drew := below_drewN (Below.refl _ _) 1
          go_cut [16, 17] from 93 to 101 (fun s1 s2 wx => ∃ b ga gn gc, s1 = .int .i64 PL.v ∧ s2 = .pointer (some ⟨b, 0, none⟩) ∧ wx.cell? ⟨b, 0, none⟩ = some (.slice ga gn gc) ∧ wx.cell? ⟨b, 1, none⟩ = some (.int .i64 PL.err) ∧ Hid ((AM w w.heap.size tb xb x (.slice xa xn xc) (.slice ya xn yc) (.slice sa 7 sc) (.slice la ln lc) l (Ev.tabN (1 + (m : Int))) N wx ∧ Ints wx (.slice (some ⟨q, 0, none⟩) N N) (stoP N l)) ∧ Says 0 wx u15 PL.word PL.at_ PL.err ∧ Told 0 wx (.agg #[.slice ga gn gc, .int .i64 PL.err]) PL.word PL.at_ PL.err) ∧ Hid (Below w7.heap.size w7 wx))
          case first =>
            refine wp_regionE (S6 tb xb (.slice sa 7 sc) N x (.slice ya xn yc)) (fun j => decide (j < 11)) (by kernel_rfl) ((unhide HM8).1.1.s2.keep hd) (fun hS => ?_)
            refine anyE_take 0 (v := ?_) rfl (by kernel_rfl) (by kernel_rfl) (by kernel_rfl) (by kernel_rfl) (fun _ _ _ h => h) hS (Or.inl ⟨by rfl, ?_⟩) ?_
            rotate_left
            · intro w' hS'
              obtain ⟨e0, e1, e2, e3, e4, e5⟩ := hS'
              go_simp
              try with_reducible rfl
            try simp only [List.getElem_toArray, List.getElem_cons_zero, Act.put, List.setIfInBounds_toArray, List.set_cons_zero, List.set_cons_succ]
            refine anyE_take 1 (v := ?_) rfl (by kernel_rfl) (by kernel_rfl) (by kernel_rfl) (by kernel_rfl) (fun _ _ _ h => h) hS (Or.inl ⟨by rfl, ?_⟩) ?_
            rotate_left
            · intro w' hS'
              obtain ⟨e0, e1, e2, e3, e4, e5⟩ := hS'
              go_simp
              try with_reducible rfl
            try simp only [List.getElem_toArray, List.getElem_cons_succ, List.getElem_cons_zero, Act.put, List.setIfInBounds_toArray, List.set_cons_zero, List.set_cons_succ]
            refine anyE_take 2 (v := ?_) rfl (by kernel_rfl) (by kernel_rfl) (by kernel_rfl) (by kernel_rfl) (fun _ _ _ h => h) hS (Or.inl ⟨by rfl, ?_⟩) ?_
            rotate_left
            · intro w' hS'
              obtain ⟨e0, e1, e2, e3, e4, e5⟩ := hS'
              go_simp
              try with_reducible rfl
            try simp only [List.getElem_toArray, List.getElem_cons_succ, List.getElem_cons_zero, Act.put, List.setIfInBounds_toArray, List.set_cons_zero, List.set_cons_succ]
            refine anyE_take 4 (v := ?_) rfl (by kernel_rfl) (by kernel_rfl) (by kernel_rfl) (by kernel_rfl) (fun _ _ _ h => h) hS (Or.inl ⟨by rfl, ?_⟩) ?_
            rotate_left
            · intro w' hS'
              obtain ⟨e0, e1, e2, e3, e4, e5⟩ := hS'
              go_simp
              try with_reducible rfl
            try simp only [List.getElem_toArray, List.getElem_cons_succ, List.getElem_cons_zero, Act.put, List.setIfInBounds_toArray, List.set_cons_zero, List.set_cons_succ]
            refine anyE_ready [3, 9] (by kernel_rfl) (by simp) (ReadyE.cons rfl (fun K' hK => ?_) (ReadyE.cons rfl (fun K' hK => ?_) ReadyE.nil))
            ·
              go_simp
              go_at_call 10
              refine (unhide HSTO0 _ (bthen (unhide HBW) hd)).mono ?_
              rintro ev w5 ⟨q5, rfl, hq5, hb5⟩
              dsimp only
              try go_simp
              refine hK _ _ (fun _ => S6.keep hS hb5) ?_
              replace hS := S6.keep hS hb5
              clear hK K'
              try simp only [List.getElem_toArray, List.getElem_cons_succ, List.getElem_cons_zero, Act.put, List.setIfInBounds_toArray, List.set_cons_zero, List.set_cons_succ]
              have hb55 := bthen hd hb5
              refine anyE_ready [5, 9] (by kernel_rfl) (by simp) (ReadyE.cons rfl (fun K' hK => ?_) (ReadyE.cons rfl (fun K' hK => ?_) ReadyE.nil))
              ·
                go_simp
                go_at_call 16
                refine (unhide HCPR w5 q5 (bthen (unhide HBW) hb55) hq5).mono ?_
                rintro ev w6 ⟨g, rfl, htd, hb6⟩
                obtain ⟨ga, gn, gc, rfl⟩ := told_shape htd
                dsimp only
                try go_simp
                refine hK _ _ (fun _ => S6.keep hS hb6) ?_
                replace hS := S6.keep hS hb6
                clear hK K'
                try simp only [List.getElem_toArray, List.getElem_cons_succ, List.getElem_cons_zero, Act.put, List.setIfInBounds_toArray, List.set_cons_zero, List.set_cons_succ]
                refine anyE_take 6 (v := ?_) rfl (by kernel_rfl) (by kernel_rfl) (by kernel_rfl) (by kernel_rfl) (fun _ _ _ h => h) hS (Or.inl ⟨by rfl, ?_⟩) ?_
                rotate_left
                · intro w' hS'
                  obtain ⟨e0, e1, e2, e3, e4, e5⟩ := hS'
                  go_simp
                  try with_reducible rfl
                try simp only [List.getElem_toArray, List.getElem_cons_succ, List.getElem_cons_zero, Act.put, List.setIfInBounds_toArray, List.set_cons_zero, List.set_cons_succ]
                refine anyE_take 7 (v := ?_) rfl (by kernel_rfl) (by kernel_rfl) (by kernel_rfl) (by kernel_rfl) (fun _ _ _ h => h) hS (Or.inl ⟨by rfl, ?_⟩) ?_
                rotate_left
                · intro w' hS'
                  obtain ⟨e0, e1, e2, e3, e4, e5⟩ := hS'
                  go_simp
                  try with_reducible rfl
                try simp only [List.getElem_toArray, List.getElem_cons_succ, List.getElem_cons_zero, Act.put, List.setIfInBounds_toArray, List.set_cons_zero, List.set_cons_succ]
                refine anyE_take 8 (v := ?_) rfl (by kernel_rfl) (by kernel_rfl) (by kernel_rfl) (by kernel_rfl) (fun _ _ _ h => h) hS (Or.inl ⟨by rfl, ?_⟩) ?_
                rotate_left
                · intro w' hS'
                  obtain ⟨e0, e1, e2, e3, e4, e5⟩ := hS'
                  go_simp
                  try with_reducible rfl
                try simp only [List.getElem_toArray, List.getElem_cons_succ, List.getElem_cons_zero, Act.put, List.setIfInBounds_toArray, List.set_cons_zero, List.set_cons_succ]
                refine anyE_ready [9] (by kernel_rfl) (by simp) (ReadyE.cons rfl (fun K' hK => ?_) ReadyE.nil)
                go_simp
                have hS0 := hS
                have hb7 := alloc_below w6 (.cells #[.slice none 0 0, .int .i64 0] WrT)
                refine hK _ _ (fun _ => S6.keep hS hb7) ?_
                replace hS := S6.keep hS hb7
                clear hK K'
                try simp only [List.getElem_toArray, List.getElem_cons_succ, List.getElem_cons_zero, Act.put, List.setIfInBounds_toArray, List.set_cons_zero, List.set_cons_succ]
                refine anyE_take 10 (v := ?_) rfl (by kernel_rfl) (by kernel_rfl) (by kernel_rfl) (by kernel_rfl) (fun _ _ _ h => h) hS (Or.inl ⟨by rfl, ?_⟩) ?_
                rotate_left
                · intro w' hS'
                  obtain ⟨e0, e1, e2, e3, e4, e5⟩ := hS'
                  go_simp
                  try with_reducible rfl
                try simp only [List.getElem_toArray, List.getElem_cons_succ, List.getElem_cons_zero, Act.put, List.setIfInBounds_toArray, List.set_cons_zero, List.set_cons_succ]
                refine anyE_ready [11] (by kernel_rfl) (by simp) (ReadyE.cons rfl (fun K' hK => ?_) ReadyE.nil)
                go_simp
                have hb8 := alloc_below w6 (.cells #[.slice ga gn gc, .int .i64 PL.err] WrT)
                refine hK _ _ (fun _ => S6.keep hS0 hb8) ?_
                clear hK K'
                try simp only [List.getElem_toArray, List.getElem_cons_succ, List.getElem_cons_zero, Act.put, List.setIfInBounds_toArray, List.set_cons_zero, List.set_cons_succ]
                refine anyE_done (by kernel_rfl) ?_ _
                clear hS hS0
                have hbF : Below wc.heap.size wc (w6.alloc (.cells #[.slice ga gn gc, .int .i64 PL.err] WrT)) := bthen hb55 (bthen hb6 hb8)
                have htF : Told 0 (w6.alloc (.cells #[.slice ga gn gc, .int .i64 PL.err] WrT)) (.agg #[.slice ga gn gc, .int .i64 PL.err]) PL.word PL.at_ PL.err := told_below (htd.below hb8) (Nat.zero_le _)
                have d0 : (w6.alloc (.cells #[.slice ga gn gc, .int .i64 PL.err] WrT)).cell? ⟨w6.heap.size, 0, none⟩ = some (.slice ga gn gc) := by simp [go_sem]
                have d1 : (w6.alloc (.cells #[.slice ga gn gc, .int .i64 PL.err] WrT)).cell? ⟨w6.heap.size, 1, none⟩ = some (.int .i64 PL.err) := by simp [go_sem]
                have HFF := hide (And.intro hbF htF)
                clear hbF htF
                go_wp2_with fail
                go_meet
                case rel => exact ⟨w6.heap.size, ga, gn, gc, rfl, rfl, d0, d1, hide ⟨⟨(unhide HM8).1.1.below (unhide HFF).1, (unhide HM8).1.2.below (unhide HFF).1⟩, (unhide HM8).2.below (unhide HFF).1, (unhide HFF).2⟩, hide (bthen (unhide HBW) (unhide HFF).1)⟩
              ·
                go_simp
                have hb7 := alloc_below w5 (.cells #[.slice none 0 0, .int .i64 0] WrT)
                refine hK _ _ (fun _ => S6.keep hS hb7) ?_
                replace hS := S6.keep hS hb7
                clear hK K'
                try simp only [List.getElem_toArray, List.getElem_cons_succ, List.getElem_cons_zero, Act.put, List.setIfInBounds_toArray, List.set_cons_zero, List.set_cons_succ]
                refine anyE_ready [5] (by kernel_rfl) (by simp) (ReadyE.cons rfl (fun K' hK => ?_) ReadyE.nil)
                go_simp
                go_at_call 16
                refine (unhide HCPR _ q5 (bthen (unhide HBW) (bthen hb55 hb7)) (hq5.below hb7)).mono ?_
                rintro ev w6 ⟨g, rfl, htd, hb6⟩
                obtain ⟨ga, gn, gc, rfl⟩ := told_shape htd
                dsimp only
                try go_simp
                refine hK _ _ (fun _ => S6.keep hS hb6) ?_
                replace hS := S6.keep hS hb6
                clear hK K'
                try simp only [List.getElem_toArray, List.getElem_cons_succ, List.getElem_cons_zero, Act.put, List.setIfInBounds_toArray, List.set_cons_zero, List.set_cons_succ]
                have p0 : w6.cell? ⟨w5.heap.size, 0, none⟩ = some (.slice none 0 0) := (hb6.cell (p := ⟨w5.heap.size, 0, none⟩) (by simp)).trans (wr_al0 w5)
                have p1 : w6.cell? ⟨w5.heap.size, 1, none⟩ = some (.int .i64 0) := (hb6.cell (p := ⟨w5.heap.size, 1, none⟩) (by simp)).trans (wr_al1 w5)
                have pf : ∀ o, w6.frozen? ⟨w5.heap.size, o, none⟩ = false := fun o => (hb6.frozen (p := ⟨w5.heap.size, o, none⟩) (by simp)).trans (wr_alf w5 o)
                have hbW := bthen hb55 (bthen hb7 hb6)
                have hbl : w5.heap.size < (w5.alloc (.cells #[.slice none 0 0, .int .i64 0] WrT)).heap.size := by simp
                have hs55 := hb55.size
                refine anyE_take 6 (v := ?_) rfl (by kernel_rfl) (by kernel_rfl) (by kernel_rfl) (by kernel_rfl) (fun _ _ _ h => h) hS (Or.inl ⟨by rfl, ?_⟩) ?_
                rotate_left
                · intro w' hS'
                  obtain ⟨e0, e1, e2, e3, e4, e5⟩ := hS'
                  go_simp
                  try with_reducible rfl
                try simp only [List.getElem_toArray, List.getElem_cons_succ, List.getElem_cons_zero, Act.put, List.setIfInBounds_toArray, List.set_cons_zero, List.set_cons_succ]
                refine anyE_take 7 (v := ?_) rfl (by kernel_rfl) (by kernel_rfl) (by kernel_rfl) (by kernel_rfl) (fun _ _ _ h => h) hS (Or.inl ⟨by rfl, ?_⟩) ?_
                rotate_left
                · intro w' hS'
                  obtain ⟨e0, e1, e2, e3, e4, e5⟩ := hS'
                  go_simp
                  try with_reducible rfl
                try simp only [List.getElem_toArray, List.getElem_cons_succ, List.getElem_cons_zero, Act.put, List.setIfInBounds_toArray, List.set_cons_zero, List.set_cons_succ]
                refine anyE_take 8 (v := ?_) rfl (by kernel_rfl) (by kernel_rfl) (by kernel_rfl) (by kernel_rfl) (fun _ _ _ h => h) hS (Or.inl ⟨by rfl, ?_⟩) ?_
                rotate_left
                · intro w' hS'
                  obtain ⟨e0, e1, e2, e3, e4, e5⟩ := hS'
                  go_simp
                  try with_reducible rfl
                try simp only [List.getElem_toArray, List.getElem_cons_succ, List.getElem_cons_zero, Act.put, List.setIfInBounds_toArray, List.set_cons_zero, List.set_cons_succ]
                refine anyE_take 10 (v := ?_) rfl (by kernel_rfl) (by kernel_rfl) (by kernel_rfl) (by kernel_rfl) (fun _ _ _ h => h) hS (Or.inl ⟨by rfl, ?_⟩) ?_
                rotate_left
                · intro w' hS'
                  obtain ⟨e0, e1, e2, e3, e4, e5⟩ := hS'
                  go_simp
                  try with_reducible rfl
                try simp only [List.getElem_toArray, List.getElem_cons_succ, List.getElem_cons_zero, Act.put, List.setIfInBounds_toArray, List.set_cons_zero, List.set_cons_succ]
                refine anyE_ready [11] (by kernel_rfl) (by simp) (ReadyE.cons rfl (fun K' hK => ?_) ReadyE.nil)
                go_simp
                have hbF0 : Below wc.heap.size wc ((w6.setCell ⟨w5.heap.size, 0, none⟩ (.slice ga gn gc)).setCell ⟨w5.heap.size, 1, none⟩ (.int .i64 PL.err)) := (hbW.setCell (p := ⟨w5.heap.size, 0, none⟩) (hs55) _).setCell (p := ⟨w5.heap.size, 1, none⟩) (hs55) _
                refine hK _ _ (fun h => by exact absurd h (by decide)) ?_
                clear hK K'
                try simp only [List.getElem_toArray, List.getElem_cons_succ, List.getElem_cons_zero, Act.put, List.setIfInBounds_toArray, List.set_cons_zero, List.set_cons_succ]
                have hS0 := hS
                refine anyE_done (by kernel_rfl) ?_ _
                clear hS hS0
                have hbF : Below wc.heap.size wc ((w6.setCell ⟨w5.heap.size, 0, none⟩ (.slice ga gn gc)).setCell ⟨w5.heap.size, 1, none⟩ (.int .i64 PL.err)) := hbF0
                have htF : Told 0 ((w6.setCell ⟨w5.heap.size, 0, none⟩ (.slice ga gn gc)).setCell ⟨w5.heap.size, 1, none⟩ (.int .i64 PL.err)) (.agg #[.slice ga gn gc, .int .i64 PL.err]) PL.word PL.at_ PL.err := told_below (told_set (told_set htd ⟨w5.heap.size, 0, none⟩ hbl _) ⟨w5.heap.size, 1, none⟩ hbl _) (Nat.zero_le _)
                have d0 : ((w6.setCell ⟨w5.heap.size, 0, none⟩ (.slice ga gn gc)).setCell ⟨w5.heap.size, 1, none⟩ (.int .i64 PL.err)).cell? ⟨w5.heap.size, 0, none⟩ = some (.slice ga gn gc) := by simp [go_sem, p0]
                have d1 : ((w6.setCell ⟨w5.heap.size, 0, none⟩ (.slice ga gn gc)).setCell ⟨w5.heap.size, 1, none⟩ (.int .i64 PL.err)).cell? ⟨w5.heap.size, 1, none⟩ = some (.int .i64 PL.err) := by simp [go_sem, p1]
                have HFF := hide (And.intro hbF htF)
                clear hbF htF
                go_wp2_with fail
                go_meet
                case rel => exact ⟨w5.heap.size, ga, gn, gc, rfl, rfl, d0, d1, hide ⟨⟨(unhide HM8).1.1.below (unhide HFF).1, (unhide HM8).1.2.below (unhide HFF).1⟩, (unhide HM8).2.below (unhide HFF).1, (unhide HFF).2⟩, hide (bthen (unhide HBW) (unhide HFF).1)⟩
            ·
              go_simp
              have hb7 := alloc_below wc.drew (.cells #[.slice none 0 0, .int .i64 0] WrT)
              refine hK _ _ (fun _ => S6.keep hS hb7) ?_
              replace hS := S6.keep hS hb7
              clear hK K'
              try simp only [List.getElem_toArray, List.getElem_cons_succ, List.getElem_cons_zero, Act.put, List.setIfInBounds_toArray, List.set_cons_zero, List.set_cons_succ]
              refine anyE_ready [3] (by kernel_rfl) (by simp) (ReadyE.cons rfl (fun K' hK => ?_) ReadyE.nil)
              go_simp
              go_at_call 10
              refine (unhide HSTO0 _ (bthen (unhide HBW) (bthen hd hb7))).mono ?_
              rintro ev w5 ⟨q5, rfl, hq5, hb5⟩
              dsimp only
              try go_simp
              refine hK _ _ (fun _ => S6.keep hS hb5) ?_
              replace hS := S6.keep hS hb5
              clear hK K'
              try simp only [List.getElem_toArray, List.getElem_cons_succ, List.getElem_cons_zero, Act.put, List.setIfInBounds_toArray, List.set_cons_zero, List.set_cons_succ]
              refine anyE_ready [5] (by kernel_rfl) (by simp) (ReadyE.cons rfl (fun K' hK => ?_) ReadyE.nil)
              go_simp
              go_at_call 16
              refine (unhide HCPR w5 q5 (bthen (unhide HBW) (bthen (bthen hd hb7) hb5)) hq5).mono ?_
              rintro ev w6 ⟨g, rfl, htd, hb6⟩
              obtain ⟨ga, gn, gc, rfl⟩ := told_shape htd
              dsimp only
              try go_simp
              refine hK _ _ (fun _ => S6.keep hS hb6) ?_
              replace hS := S6.keep hS hb6
              clear hK K'
              try simp only [List.getElem_toArray, List.getElem_cons_succ, List.getElem_cons_zero, Act.put, List.setIfInBounds_toArray, List.set_cons_zero, List.set_cons_succ]
              have p0 : w6.cell? ⟨wc.heap.size, 0, none⟩ = some (.slice none 0 0) := ((bthen hb5 hb6).cell (p := ⟨wc.heap.size, 0, none⟩) (by simp)).trans (wr_al0 wc.drew)
              have p1 : w6.cell? ⟨wc.heap.size, 1, none⟩ = some (.int .i64 0) := ((bthen hb5 hb6).cell (p := ⟨wc.heap.size, 1, none⟩) (by simp)).trans (wr_al1 wc.drew)
              have pf : ∀ o, w6.frozen? ⟨wc.heap.size, o, none⟩ = false := fun o => ((bthen hb5 hb6).frozen (p := ⟨wc.heap.size, o, none⟩) (by simp)).trans (wr_alf wc.drew o)
              have hbW := bthen (bthen hd hb7) (bthen hb5 hb6)
              have hs5 := hb5.size
              have hbl : wc.heap.size < w5.heap.size := Nat.lt_of_lt_of_le (by simp) hs5
              refine anyE_take 6 (v := ?_) rfl (by kernel_rfl) (by kernel_rfl) (by kernel_rfl) (by kernel_rfl) (fun _ _ _ h => h) hS (Or.inl ⟨by rfl, ?_⟩) ?_
              rotate_left
              · intro w' hS'
                obtain ⟨e0, e1, e2, e3, e4, e5⟩ := hS'
                go_simp
                try with_reducible rfl
              try simp only [List.getElem_toArray, List.getElem_cons_succ, List.getElem_cons_zero, Act.put, List.setIfInBounds_toArray, List.set_cons_zero, List.set_cons_succ]
              refine anyE_take 7 (v := ?_) rfl (by kernel_rfl) (by kernel_rfl) (by kernel_rfl) (by kernel_rfl) (fun _ _ _ h => h) hS (Or.inl ⟨by rfl, ?_⟩) ?_
              rotate_left
              · intro w' hS'
                obtain ⟨e0, e1, e2, e3, e4, e5⟩ := hS'
                go_simp
                try with_reducible rfl
              try simp only [List.getElem_toArray, List.getElem_cons_succ, List.getElem_cons_zero, Act.put, List.setIfInBounds_toArray, List.set_cons_zero, List.set_cons_succ]
              refine anyE_take 8 (v := ?_) rfl (by kernel_rfl) (by kernel_rfl) (by kernel_rfl) (by kernel_rfl) (fun _ _ _ h => h) hS (Or.inl ⟨by rfl, ?_⟩) ?_
              rotate_left
              · intro w' hS'
                obtain ⟨e0, e1, e2, e3, e4, e5⟩ := hS'
                go_simp
                try with_reducible rfl
              try simp only [List.getElem_toArray, List.getElem_cons_succ, List.getElem_cons_zero, Act.put, List.setIfInBounds_toArray, List.set_cons_zero, List.set_cons_succ]
              refine anyE_take 10 (v := ?_) rfl (by kernel_rfl) (by kernel_rfl) (by kernel_rfl) (by kernel_rfl) (fun _ _ _ h => h) hS (Or.inl ⟨by rfl, ?_⟩) ?_
              rotate_left
              · intro w' hS'
                obtain ⟨e0, e1, e2, e3, e4, e5⟩ := hS'
                go_simp
                try with_reducible rfl
              try simp only [List.getElem_toArray, List.getElem_cons_succ, List.getElem_cons_zero, Act.put, List.setIfInBounds_toArray, List.set_cons_zero, List.set_cons_succ]
              refine anyE_ready [11] (by kernel_rfl) (by simp) (ReadyE.cons rfl (fun K' hK => ?_) ReadyE.nil)
              go_simp
              have hbF0 : Below wc.heap.size wc ((w6.setCell ⟨wc.heap.size, 0, none⟩ (.slice ga gn gc)).setCell ⟨wc.heap.size, 1, none⟩ (.int .i64 PL.err)) := (hbW.setCell (p := ⟨wc.heap.size, 0, none⟩) (Nat.le_refl _) _).setCell (p := ⟨wc.heap.size, 1, none⟩) (Nat.le_refl _) _
              refine hK _ _ (fun h => by exact absurd h (by decide)) ?_
              clear hK K'
              try simp only [List.getElem_toArray, List.getElem_cons_succ, List.getElem_cons_zero, Act.put, List.setIfInBounds_toArray, List.set_cons_zero, List.set_cons_succ]
              have hS0 := hS
              refine anyE_done (by kernel_rfl) ?_ _
              clear hS hS0
              have hbF : Below wc.heap.size wc ((w6.setCell ⟨wc.heap.size, 0, none⟩ (.slice ga gn gc)).setCell ⟨wc.heap.size, 1, none⟩ (.int .i64 PL.err)) := hbF0
              have htF : Told 0 ((w6.setCell ⟨wc.heap.size, 0, none⟩ (.slice ga gn gc)).setCell ⟨wc.heap.size, 1, none⟩ (.int .i64 PL.err)) (.agg #[.slice ga gn gc, .int .i64 PL.err]) PL.word PL.at_ PL.err := told_below (told_set (told_set htd ⟨wc.heap.size, 0, none⟩ hbl _) ⟨wc.heap.size, 1, none⟩ hbl _) (Nat.zero_le _)
              have d0 : ((w6.setCell ⟨wc.heap.size, 0, none⟩ (.slice ga gn gc)).setCell ⟨wc.heap.size, 1, none⟩ (.int .i64 PL.err)).cell? ⟨wc.heap.size, 0, none⟩ = some (.slice ga gn gc) := by simp [go_sem, p0]
              have d1 : ((w6.setCell ⟨wc.heap.size, 0, none⟩ (.slice ga gn gc)).setCell ⟨wc.heap.size, 1, none⟩ (.int .i64 PL.err)).cell? ⟨wc.heap.size, 1, none⟩ = some (.int .i64 PL.err) := by simp [go_sem, p1]
              have HFF := hide (And.intro hbF htF)
              clear hbF htF
              go_wp2_with fail
              go_meet
              case rel => exact ⟨wc.heap.size, ga, gn, gc, rfl, rfl, d0, d1, hide ⟨⟨(unhide HM8).1.1.below (unhide HFF).1, (unhide HM8).1.2.below (unhide HFF).1⟩, (unhide HM8).2.below (unhide HFF).1, (unhide HFF).2⟩, hide (bthen (unhide HBW) (unhide HFF).1)⟩
          case rest =>
            clear HBW HM8 HCPR
            obtain ⟨b, ga, gn, gc, rfl, rfl, g0, g1, HM9, HB9⟩ := hcut
            have HBW := HB9
            clear HB9
            have HTL := hide (tells_any wc u15 (.agg #[.slice ga gn gc, .int .i64 PL.err]) PL.word PL.at_ PL.err ((unhide HGW).below (unhide HM9).1.1.old) (unhide HM9).2.1 (unhide HM9).2.2)
            go_wp2_with fail
            refine (unhide HTL).mono ?_
            rintro ev w9 ⟨rfl, hb8⟩
            have HMY := hide (And.intro ((unhide HM9).1.1.below hb8) ((unhide HM9).1.2.below hb8))
            have HBW2 := hide (bthen (unhide HBW) hb8)
            clear g0 g1 HM9 HBW HTL hb8
            have HBW := HBW2
            clear HBW2
            go_wp2_with fail
            go_loopw [18] (fun qi wr => ∃ (i : Nat), i ≤ N ∧ qi = .int .i64 i ∧ Hid (Below w9.heap.size w9 wr)) (fun qi _ => N - (intOf qi).toNat)
            case atStart => exact ⟨0, Nat.zero_le _, rfl, hide (Below.refl _ _)⟩
            case round =>
              obtain ⟨i, hi, rfl, HI⟩ := hrel
              by_cases hin : i < N
              · have hin' : (i : Int) < N := by omega
                have hv := sto_at ((unhide HMY).2.below (unhide HI)) hin
                have hN20 : N ≤ 20 := by have := unhide HN; omega
                by_cases hil : i < ln
                · have hil' : (i : Int) < ln := by omega
                  obtain ⟨lb, lo, lc2, hlv, -, -, hlc⟩ := ((unhide HMY).1.hl.below (unhide HI)).at (by rw [unhide HLN]; omega)
                  injection hlv with hl1 hl2 hl3
                  subst hl1
                  have hll : i < l.length := by rw [unhide HLN]; exact hil
                  have hlx := hlc i hll
                  have hgd : l[i] = l.getD i 0 := by rw [List.getD_eq_getElem?_getD, List.getElem?_eq_getElem hll]; rfl
                  rw [hgd] at hlx
                  clear hlc hl2 hl3 hgd
                  generalize l.getD i 0 = v at *
                  go_wp2
                  go_roundw
                  case rel => exact ⟨i + 1, by omega, by go_num, HI⟩
                  case measure => simp [intOf]; omega
                · have hil' : ¬ (i : Int) < ln := by omega
                  have hg0 : l.getD i 0 = 0 := by rw [List.getD_eq_getElem?_getD, List.getElem?_eq_none (by rw [unhide HLN]; omega)]; rfl
                  rw [hg0] at hv
                  clear hg0
                  go_wp2
                  go_roundw
                  case rel => exact ⟨i + 1, by omega, by go_num, HI⟩
                  case measure => simp [intOf]; omega
              · have hin' : ¬ (i : Int) < N := by omega
                go_wp2
                go_ret
                exact ⟨rfl, bthen (unhide HMY).1.old (unhide HI)⟩
      by_cases k3 : x.kind = 3
      · rw [k3] at e0
        have HCPR := hide (unhide HCPR0 (.inr k3))
        clear k2 k3 HCPR0
        go_upto_region 13 with fail
        clear e0
        go_cut [14, 15] from 85 to 92 (fun s1 s2 wx => s1 = .int .i64 PL.v ∧ Hid ((AM w w.heap.size tb xb x (.slice xa xn xc) (.slice ya xn yc) (.slice sa 7 sc) (.slice la ln lc) l (Ev.tabN (1 + (m : Int))) N wx ∧ Ints wx (.slice (some ⟨q, 0, none⟩) N N) (stoP N l)) ∧ Says 0 wx s2 PL.word PL.at_ PL.err) ∧ Hid (Below w7.heap.size w7 wx))
        case first =>
          have hd : Below w8.heap.size w8 w8.drew := below_drewN (Below.refl _ _) 1
          refine wp_regionE (S6 tb w.heap.size (.slice sa 7 sc) N x (.slice xa xn xc)) (fun j => decide (j < 10)) (by kernel_rfl) ((unhide HMZ).1.s1.keep hd) (fun hS => ?_)
          refine anyE_take 0 (v := ?_) rfl (by kernel_rfl) (by kernel_rfl) (by kernel_rfl) (by kernel_rfl) (fun _ _ _ h => h) hS (Or.inl ⟨by rfl, ?_⟩) ?_
          rotate_left
          · intro w' hS'
            obtain ⟨e0, e1, e2, e3, e4, e5⟩ := hS'
            go_simp
            try with_reducible rfl
          try simp only [List.getElem_toArray, List.getElem_cons_zero, Act.put, List.setIfInBounds_toArray, List.set_cons_zero, List.set_cons_succ]
          refine anyE_take 2 (v := ?_) rfl (by kernel_rfl) (by kernel_rfl) (by kernel_rfl) (by kernel_rfl) (fun _ _ _ h => h) hS (Or.inl ⟨by rfl, ?_⟩) ?_
          rotate_left
          · intro w' hS'
            obtain ⟨e0, e1, e2, e3, e4, e5⟩ := hS'
            go_simp
            try with_reducible rfl
          try simp only [List.getElem_toArray, List.getElem_cons_succ, List.getElem_cons_zero, Act.put, List.setIfInBounds_toArray, List.set_cons_zero, List.set_cons_succ]
          refine anyE_take 3 (v := ?_) rfl (by kernel_rfl) (by kernel_rfl) (by kernel_rfl) (by kernel_rfl) (fun _ _ _ h => h) hS (Or.inl ⟨by rfl, ?_⟩) ?_
          rotate_left
          · intro w' hS'
            obtain ⟨e0, e1, e2, e3, e4, e5⟩ := hS'
            go_simp
            try with_reducible rfl
          try simp only [List.getElem_toArray, List.getElem_cons_succ, List.getElem_cons_zero, Act.put, List.setIfInBounds_toArray, List.set_cons_zero, List.set_cons_succ]
          refine anyE_ready [1] (by kernel_rfl) (by simp) (ReadyE.cons rfl (fun K' hK => ?_) ReadyE.nil)
          go_simp
          go_at_call 12
          refine (toTab_any _ (.slice sa 7 sc) N (Ev.tabN (1 + (m : Int))) ((unhide HMZ).1.hs.below hd) (by simp [Ev.tabN])).mono ?_
          rintro ev w5 ⟨sv5, rfl, hs5, hb5⟩
          obtain ⟨sa5, sc5, rfl⟩ : ∃ a c, sv5 = .slice a 7 c := hs5.shape
          dsimp only
          try go_simp
          refine hK _ _ (fun _ => S6.keep hS hb5) ?_
          replace hS := S6.keep hS hb5
          clear hK K'
          try simp only [List.getElem_toArray, List.getElem_cons_succ, List.getElem_cons_zero, Act.put, List.setIfInBounds_toArray, List.set_cons_zero, List.set_cons_succ]
          have hb55 := bthen hd hb5
          refine anyE_ready [4] (by kernel_rfl) (by simp) (ReadyE.cons rfl (fun K' hK => ?_) ReadyE.nil)
          go_simp
          go_at_call 15
          refine (unhide HCPE w5 sa5 sc5 (bthen (unhide HBW) hb55) hs5).mono ?_
          rintro ev w6 ⟨f, rfl, hsy, hb6⟩
          dsimp only
          try go_simp
          refine hK _ _ (fun _ => S6.keep hS hb6) ?_
          replace hS := S6.keep hS hb6
          clear hK K'
          try simp only [List.getElem_toArray, List.getElem_cons_succ, List.getElem_cons_zero, Act.put, List.setIfInBounds_toArray, List.set_cons_zero, List.set_cons_succ]
          refine anyE_take 5 (v := ?_) rfl (by kernel_rfl) (by kernel_rfl) (by kernel_rfl) (by kernel_rfl) (fun _ _ _ h => h) hS (Or.inl ⟨by rfl, ?_⟩) ?_
          rotate_left
          · intro w' hS'
            obtain ⟨e0, e1, e2, e3, e4, e5⟩ := hS'
            go_simp
            try with_reducible rfl
          try simp only [List.getElem_toArray, List.getElem_cons_succ, List.getElem_cons_zero, Act.put, List.setIfInBounds_toArray, List.set_cons_zero, List.set_cons_succ]
          refine anyE_take 6 (v := ?_) rfl (by kernel_rfl) (by kernel_rfl) (by kernel_rfl) (by kernel_rfl) (fun _ _ _ h => h) hS (Or.inl ⟨by rfl, ?_⟩) ?_
          rotate_left
          · intro w' hS'
            obtain ⟨e0, e1, e2, e3, e4, e5⟩ := hS'
            go_simp
            try with_reducible rfl
          try simp only [List.getElem_toArray, List.getElem_cons_succ, List.getElem_cons_zero, Act.put, List.setIfInBounds_toArray, List.set_cons_zero, List.set_cons_succ]
          refine anyE_take 7 (v := ?_) rfl (by kernel_rfl) (by kernel_rfl) (by kernel_rfl) (by kernel_rfl) (fun _ _ _ h => h) hS (Or.inl ⟨by rfl, ?_⟩) ?_
          rotate_left
          · intro w' hS'
            obtain ⟨e0, e1, e2, e3, e4, e5⟩ := hS'
            go_simp
            try with_reducible rfl
          try simp only [List.getElem_toArray, List.getElem_cons_succ, List.getElem_cons_zero, Act.put, List.setIfInBounds_toArray, List.set_cons_zero, List.set_cons_succ]
          refine anyE_take 8 (v := ?_) rfl (by kernel_rfl) (by kernel_rfl) (by kernel_rfl) (by kernel_rfl) (fun _ _ _ h => h) hS (Or.inl ⟨by rfl, ?_⟩) ?_
          rotate_left
          · intro w' hS'
            obtain ⟨e0, e1, e2, e3, e4, e5⟩ := hS'
            go_simp
            try with_reducible rfl
          try simp only [List.getElem_toArray, List.getElem_cons_succ, List.getElem_cons_zero, Act.put, List.setIfInBounds_toArray, List.set_cons_zero, List.set_cons_succ]
          refine anyE_take 9 (v := ?_) rfl (by kernel_rfl) (by kernel_rfl) (by kernel_rfl) (by kernel_rfl) (fun _ _ _ h => h) hS (Or.inl ⟨by rfl, ?_⟩) ?_
          rotate_left
          · intro w' hS'
            obtain ⟨e0, e1, e2, e3, e4, e5⟩ := hS'
            go_simp
            try with_reducible rfl
          try simp only [List.getElem_toArray, List.getElem_cons_succ, List.getElem_cons_zero, Act.put, List.setIfInBounds_toArray, List.set_cons_zero, List.set_cons_succ]
          refine anyE_done (by kernel_rfl) ?_ _
          clear hS
          go_wp2_with fail
          go_meet
          case rel => exact ⟨rfl, hide ⟨⟨(unhide HMZ).1.below (bthen hb55 hb6), (unhide HMZ).2.below (bthen hb55 hb6)⟩, says_mono hsy (Nat.zero_le _)⟩, hide (bthen (unhide HBW) (bthen hb55 hb6))⟩
        case rest =>
          obtain ⟨rfl, HM8, HB8⟩ := hcut
          clear HBW HMZ HCPE
          have HBW := HB8
          clear HB8
          go_upto_region 14 with fail
          have hd : Below wc.heap.size wc wc.drew := below_drewN (Below.refl _ _) 1
          go_cut [16, 17] from 93 to 101 (fun s1 s2 wx => ∃ b ga gn gc, s1 = .int .i64 PL.v ∧ s2 = .pointer (some ⟨b, 0, none⟩) ∧ wx.cell? ⟨b, 0, none⟩ = some (.slice ga gn gc) ∧ wx.cell? ⟨b, 1, none⟩ = some (.int .i64 PL.err) ∧ Hid ((AM w w.heap.size tb xb x (.slice xa xn xc) (.slice ya xn yc) (.slice sa 7 sc) (.slice la ln lc) l (Ev.tabN (1 + (m : Int))) N wx ∧ Ints wx (.slice (some ⟨q, 0, none⟩) N N) (stoP N l)) ∧ Says 0 wx u15 PL.word PL.at_ PL.err ∧ Told 0 wx (.agg #[.slice ga gn gc, .int .i64 PL.err]) PL.word PL.at_ PL.err) ∧ Hid (Below w7.heap.size w7 wx))
          case first =>
            refine wp_regionE (S6 tb xb (.slice sa 7 sc) N x (.slice ya xn yc)) (fun j => decide (j < 11)) (by kernel_rfl) ((unhide HM8).1.1.s2.keep hd) (fun hS => ?_)
            refine anyE_take 0 (v := ?_) rfl (by kernel_rfl) (by kernel_rfl) (by kernel_rfl) (by kernel_rfl) (fun _ _ _ h => h) hS (Or.inl ⟨by rfl, ?_⟩) ?_
            rotate_left
            · intro w' hS'
              obtain ⟨e0, e1, e2, e3, e4, e5⟩ := hS'
              go_simp
              try with_reducible rfl
            try simp only [List.getElem_toArray, List.getElem_cons_zero, Act.put, List.setIfInBounds_toArray, List.set_cons_zero, List.set_cons_succ]
            refine anyE_take 1 (v := ?_) rfl (by kernel_rfl) (by kernel_rfl) (by kernel_rfl) (by kernel_rfl) (fun _ _ _ h => h) hS (Or.inl ⟨by rfl, ?_⟩) ?_
            rotate_left
            · intro w' hS'
              obtain ⟨e0, e1, e2, e3, e4, e5⟩ := hS'
              go_simp
              try with_reducible rfl
            try simp only [List.getElem_toArray, List.getElem_cons_succ, List.getElem_cons_zero, Act.put, List.setIfInBounds_toArray, List.set_cons_zero, List.set_cons_succ]
            refine anyE_take 2 (v := ?_) rfl (by kernel_rfl) (by kernel_rfl) (by kernel_rfl) (by kernel_rfl) (fun _ _ _ h => h) hS (Or.inl ⟨by rfl, ?_⟩) ?_
            rotate_left
            · intro w' hS'
              obtain ⟨e0, e1, e2, e3, e4, e5⟩ := hS'
              go_simp
              try with_reducible rfl
            try simp only [List.getElem_toArray, List.getElem_cons_succ, List.getElem_cons_zero, Act.put, List.setIfInBounds_toArray, List.set_cons_zero, List.set_cons_succ]
            refine anyE_take 4 (v := ?_) rfl (by kernel_rfl) (by kernel_rfl) (by kernel_rfl) (by kernel_rfl) (fun _ _ _ h => h) hS (Or.inl ⟨by rfl, ?_⟩) ?_
            rotate_left
            · intro w' hS'
              obtain ⟨e0, e1, e2, e3, e4, e5⟩ := hS'
              go_simp
              try with_reducible rfl
            try simp only [List.getElem_toArray, List.getElem_cons_succ, List.getElem_cons_zero, Act.put, List.setIfInBounds_toArray, List.set_cons_zero, List.set_cons_succ]
            refine anyE_ready [3, 9] (by kernel_rfl) (by simp) (ReadyE.cons rfl (fun K' hK => ?_) (ReadyE.cons rfl (fun K' hK => ?_) ReadyE.nil))
            ·
              go_simp
              go_at_call 10
              refine (unhide HSTO0 _ (bthen (unhide HBW) hd)).mono ?_
              rintro ev w5 ⟨q5, rfl, hq5, hb5⟩
              dsimp only
              try go_simp
              refine hK _ _ (fun _ => S6.keep hS hb5) ?_
              replace hS := S6.keep hS hb5
              clear hK K'
              try simp only [List.getElem_toArray, List.getElem_cons_succ, List.getElem_cons_zero, Act.put, List.setIfInBounds_toArray, List.set_cons_zero, List.set_cons_succ]
              have hb55 := bthen hd hb5
              refine anyE_ready [5, 9] (by kernel_rfl) (by simp) (ReadyE.cons rfl (fun K' hK => ?_) (ReadyE.cons rfl (fun K' hK => ?_) ReadyE.nil))
              ·
                go_simp
                go_at_call 16
                refine (unhide HCPR w5 q5 (bthen (unhide HBW) hb55) hq5).mono ?_
                rintro ev w6 ⟨g, rfl, htd, hb6⟩
                obtain ⟨ga, gn, gc, rfl⟩ := told_shape htd
                dsimp only
                try go_simp
                refine hK _ _ (fun _ => S6.keep hS hb6) ?_
                replace hS := S6.keep hS hb6
                clear hK K'
                try simp only [List.getElem_toArray, List.getElem_cons_succ, List.getElem_cons_zero, Act.put, List.setIfInBounds_toArray, List.set_cons_zero, List.set_cons_succ]
                refine anyE_take 6 (v := ?_) rfl (by kernel_rfl) (by kernel_rfl) (by kernel_rfl) (by kernel_rfl) (fun _ _ _ h => h) hS (Or.inl ⟨by rfl, ?_⟩) ?_
                rotate_left
                · intro w' hS'
                  obtain ⟨e0, e1, e2, e3, e4, e5⟩ := hS'
                  go_simp
                  try with_reducible rfl
                try simp only [List.getElem_toArray, List.getElem_cons_succ, List.getElem_cons_zero, Act.put, List.setIfInBounds_toArray, List.set_cons_zero, List.set_cons_succ]
                refine anyE_take 7 (v := ?_) rfl (by kernel_rfl) (by kernel_rfl) (by kernel_rfl) (by kernel_rfl) (fun _ _ _ h => h) hS (Or.inl ⟨by rfl, ?_⟩) ?_
                rotate_left
                · intro w' hS'
                  obtain ⟨e0, e1, e2, e3, e4, e5⟩ := hS'
                  go_simp
                  try with_reducible rfl
                try simp only [List.getElem_toArray, List.getElem_cons_succ, List.getElem_cons_zero, Act.put, List.setIfInBounds_toArray, List.set_cons_zero, List.set_cons_succ]
                refine anyE_take 8 (v := ?_) rfl (by kernel_rfl) (by kernel_rfl) (by kernel_rfl) (by kernel_rfl) (fun _ _ _ h => h) hS (Or.inl ⟨by rfl, ?_⟩) ?_
                rotate_left
                · intro w' hS'
                  obtain ⟨e0, e1, e2, e3, e4, e5⟩ := hS'
                  go_simp
                  try with_reducible rfl
                try simp only [List.getElem_toArray, List.getElem_cons_succ, List.getElem_cons_zero, Act.put, List.setIfInBounds_toArray, List.set_cons_zero, List.set_cons_succ]
                refine anyE_ready [9] (by kernel_rfl) (by simp) (ReadyE.cons rfl (fun K' hK => ?_) ReadyE.nil)
                go_simp
                have hS0 := hS
                have hb7 := alloc_below w6 (.cells #[.slice none 0 0, .int .i64 0] WrT)
                refine hK _ _ (fun _ => S6.keep hS hb7) ?_
                replace hS := S6.keep hS hb7
                clear hK K'
                try simp only [List.getElem_toArray, List.getElem_cons_succ, List.getElem_cons_zero, Act.put, List.setIfInBounds_toArray, List.set_cons_zero, List.set_cons_succ]
                refine anyE_take 10 (v := ?_) rfl (by kernel_rfl) (by kernel_rfl) (by kernel_rfl) (by kernel_rfl) (fun _ _ _ h => h) hS (Or.inl ⟨by rfl, ?_⟩) ?_
                rotate_left
                · intro w' hS'
                  obtain ⟨e0, e1, e2, e3, e4, e5⟩ := hS'
                  go_simp
                  try with_reducible rfl
                try simp only [List.getElem_toArray, List.getElem_cons_succ, List.getElem_cons_zero, Act.put, List.setIfInBounds_toArray, List.set_cons_zero, List.set_cons_succ]
                refine anyE_ready [11] (by kernel_rfl) (by simp) (ReadyE.cons rfl (fun K' hK => ?_) ReadyE.nil)
                go_simp
                have hb8 := alloc_below w6 (.cells #[.slice ga gn gc, .int .i64 PL.err] WrT)
                refine hK _ _ (fun _ => S6.keep hS0 hb8) ?_
                clear hK K'
                try simp only [List.getElem_toArray, List.getElem_cons_succ, List.getElem_cons_zero, Act.put, List.setIfInBounds_toArray, List.set_cons_zero, List.set_cons_succ]
                refine anyE_done (by kernel_rfl) ?_ _
                clear hS hS0
                have hbF : Below wc.heap.size wc (w6.alloc (.cells #[.slice ga gn gc, .int .i64 PL.err] WrT)) := bthen hb55 (bthen hb6 hb8)
                have htF : Told 0 (w6.alloc (.cells #[.slice ga gn gc, .int .i64 PL.err] WrT)) (.agg #[.slice ga gn gc, .int .i64 PL.err]) PL.word PL.at_ PL.err := told_below (htd.below hb8) (Nat.zero_le _)
                have d0 : (w6.alloc (.cells #[.slice ga gn gc, .int .i64 PL.err] WrT)).cell? ⟨w6.heap.size, 0, none⟩ = some (.slice ga gn gc) := by simp [go_sem]
                have d1 : (w6.alloc (.cells #[.slice ga gn gc, .int .i64 PL.err] WrT)).cell? ⟨w6.heap.size, 1, none⟩ = some (.int .i64 PL.err) := by simp [go_sem]
                have HFF := hide (And.intro hbF htF)
                clear hbF htF
                go_wp2_with fail
                go_meet
                case rel => exact ⟨w6.heap.size, ga, gn, gc, rfl, rfl, d0, d1, hide ⟨⟨(unhide HM8).1.1.below (unhide HFF).1, (unhide HM8).1.2.below (unhide HFF).1⟩, (unhide HM8).2.below (unhide HFF).1, (unhide HFF).2⟩, hide (bthen (unhide HBW) (unhide HFF).1)⟩
              ·
                go_simp
                have hb7 := alloc_below w5 (.cells #[.slice none 0 0, .int .i64 0] WrT)
                refine hK _ _ (fun _ => S6.keep hS hb7) ?_
                replace hS := S6.keep hS hb7
                clear hK K'
                try simp only [List.getElem_toArray, List.getElem_cons_succ, List.getElem_cons_zero, Act.put, List.setIfInBounds_toArray, List.set_cons_zero, List.set_cons_succ]
                refine anyE_ready [5] (by kernel_rfl) (by simp) (ReadyE.cons rfl (fun K' hK => ?_) ReadyE.nil)
                go_simp
                go_at_call 16
                refine (unhide HCPR _ q5 (bthen (unhide HBW) (bthen hb55 hb7)) (hq5.below hb7)).mono ?_
                rintro ev w6 ⟨g, rfl, htd, hb6⟩
                obtain ⟨ga, gn, gc, rfl⟩ := told_shape htd
                dsimp only
                try go_simp
                refine hK _ _ (fun _ => S6.keep hS hb6) ?_
                replace hS := S6.keep hS hb6
                clear hK K'
                try simp only [List.getElem_toArray, List.getElem_cons_succ, List.getElem_cons_zero, Act.put, List.setIfInBounds_toArray, List.set_cons_zero, List.set_cons_succ]
                have p0 : w6.cell? ⟨w5.heap.size, 0, none⟩ = some (.slice none 0 0) := (hb6.cell (p := ⟨w5.heap.size, 0, none⟩) (by simp)).trans (wr_al0 w5)
                have p1 : w6.cell? ⟨w5.heap.size, 1, none⟩ = some (.int .i64 0) := (hb6.cell (p := ⟨w5.heap.size, 1, none⟩) (by simp)).trans (wr_al1 w5)
                have pf : ∀ o, w6.frozen? ⟨w5.heap.size, o, none⟩ = false := fun o => (hb6.frozen (p := ⟨w5.heap.size, o, none⟩) (by simp)).trans (wr_alf w5 o)
                have hbW := bthen hb55 (bthen hb7 hb6)
                have hbl : w5.heap.size < (w5.alloc (.cells #[.slice none 0 0, .int .i64 0] WrT)).heap.size := by simp
                have hs55 := hb55.size
                refine anyE_take 6 (v := ?_) rfl (by kernel_rfl) (by kernel_rfl) (by kernel_rfl) (by kernel_rfl) (fun _ _ _ h => h) hS (Or.inl ⟨by rfl, ?_⟩) ?_
                rotate_left
                · intro w' hS'
                  obtain ⟨e0, e1, e2, e3, e4, e5⟩ := hS'
                  go_simp
                  try with_reducible rfl
                try simp only [List.getElem_toArray, List.getElem_cons_succ, List.getElem_cons_zero, Act.put, List.setIfInBounds_toArray, List.set_cons_zero, List.set_cons_succ]
                refine anyE_take 7 (v := ?_) rfl (by kernel_rfl) (by kernel_rfl) (by kernel_rfl) (by kernel_rfl) (fun _ _ _ h => h) hS (Or.inl ⟨by rfl, ?_⟩) ?_
                rotate_left
                · intro w' hS'
                  obtain ⟨e0, e1, e2, e3, e4, e5⟩ := hS'
                  go_simp
                  try with_reducible rfl
                try simp only [List.getElem_toArray, List.getElem_cons_succ, List.getElem_cons_zero, Act.put, List.setIfInBounds_toArray, List.set_cons_zero, List.set_cons_succ]
                refine anyE_take 8 (v := ?_) rfl (by kernel_rfl) (by kernel_rfl) (by kernel_rfl) (by kernel_rfl) (fun _ _ _ h => h) hS (Or.inl ⟨by rfl, ?_⟩) ?_
                rotate_left
                · intro w' hS'
                  obtain ⟨e0, e1, e2, e3, e4, e5⟩ := hS'
                  go_simp
                  try with_reducible rfl
                try simp only [List.getElem_toArray, List.getElem_cons_succ, List.getElem_cons_zero, Act.put, List.setIfInBounds_toArray, List.set_cons_zero, List.set_cons_succ]
                refine anyE_take 10 (v := ?_) rfl (by kernel_rfl) (by kernel_rfl) (by kernel_rfl) (by kernel_rfl) (fun _ _ _ h => h) hS (Or.inl ⟨by rfl, ?_⟩) ?_
                rotate_left
                · intro w' hS'
                  obtain ⟨e0, e1, e2, e3, e4, e5⟩ := hS'
                  go_simp
                  try with_reducible rfl
                try simp only [List.getElem_toArray, List.getElem_cons_succ, List.getElem_cons_zero, Act.put, List.setIfInBounds_toArray, List.set_cons_zero, List.set_cons_succ]
                refine anyE_ready [11] (by kernel_rfl) (by simp) (ReadyE.cons rfl (fun K' hK => ?_) ReadyE.nil)
                go_simp
                have hbF0 : Below wc.heap.size wc ((w6.setCell ⟨w5.heap.size, 0, none⟩ (.slice ga gn gc)).setCell ⟨w5.heap.size, 1, none⟩ (.int .i64 PL.err)) := (hbW.setCell (p := ⟨w5.heap.size, 0, none⟩) (hs55) _).setCell (p := ⟨w5.heap.size, 1, none⟩) (hs55) _
                refine hK _ _ (fun h => by exact absurd h (by decide)) ?_
                clear hK K'
                try simp only [List.getElem_toArray, List.getElem_cons_succ, List.getElem_cons_zero, Act.put, List.setIfInBounds_toArray, List.set_cons_zero, List.set_cons_succ]
                have hS0 := hS
                refine anyE_done (by kernel_rfl) ?_ _
                clear hS hS0
                have hbF : Below wc.heap.size wc ((w6.setCell ⟨w5.heap.size, 0, none⟩ (.slice ga gn gc)).setCell ⟨w5.heap.size, 1, none⟩ (.int .i64 PL.err)) := hbF0
                have htF : Told 0 ((w6.setCell ⟨w5.heap.size, 0, none⟩ (.slice ga gn gc)).setCell ⟨w5.heap.size, 1, none⟩ (.int .i64 PL.err)) (.agg #[.slice ga gn gc, .int .i64 PL.err]) PL.word PL.at_ PL.err := told_below (told_set (told_set htd ⟨w5.heap.size, 0, none⟩ hbl _) ⟨w5.heap.size, 1, none⟩ hbl _) (Nat.zero_le _)
                have d0 : ((w6.setCell ⟨w5.heap.size, 0, none⟩ (.slice ga gn gc)).setCell ⟨w5.heap.size, 1, none⟩ (.int .i64 PL.err)).cell? ⟨w5.heap.size, 0, none⟩ = some (.slice ga gn gc) := by simp [go_sem, p0]
                have d1 : ((w6.setCell ⟨w5.heap.size, 0, none⟩ (.slice ga gn gc)).setCell ⟨w5.heap.size, 1, none⟩ (.int .i64 PL.err)).cell? ⟨w5.heap.size, 1, none⟩ = some (.int .i64 PL.err) := by simp [go_sem, p1]
                have HFF := hide (And.intro hbF htF)
                clear hbF htF
                go_wp2_with fail
                go_meet
                case rel => exact ⟨w5.heap.size, ga, gn, gc, rfl, rfl, d0, d1, hide ⟨⟨(unhide HM8).1.1.below (unhide HFF).1, (unhide HM8).1.2.below (unhide HFF).1⟩, (unhide HM8).2.below (unhide HFF).1, (unhide HFF).2⟩, hide (bthen (unhide HBW) (unhide HFF).1)⟩
            ·
              go_simp
              have hb7 := alloc_below wc.drew (.cells #[.slice none 0 0, .int .i64 0] WrT)
              refine hK _ _ (fun _ => S6.keep hS hb7) ?_
              replace hS := S6.keep hS hb7
              clear hK K'
              try simp only [List.getElem_toArray, List.getElem_cons_succ, List.getElem_cons_zero, Act.put, List.setIfInBounds_toArray, List.set_cons_zero, List.set_cons_succ]
              refine anyE_ready [3] (by kernel_rfl) (by simp) (ReadyE.cons rfl (fun K' hK => ?_) ReadyE.nil)
              go_simp
              go_at_call 10
              refine (unhide HSTO0 _ (bthen (unhide HBW) (bthen hd hb7))).mono ?_
              rintro ev w5 ⟨q5, rfl, hq5, hb5⟩
              dsimp only
              try go_simp
              refine hK _ _ (fun _ => S6.keep hS hb5) ?_
              replace hS := S6.keep hS hb5
              clear hK K'
              try simp only [List.getElem_toArray, List.getElem_cons_succ, List.getElem_cons_zero, Act.put, List.setIfInBounds_toArray, List.set_cons_zero, List.set_cons_succ]
              refine anyE_ready [5] (by kernel_rfl) (by simp) (ReadyE.cons rfl (fun K' hK => ?_) ReadyE.nil)
              go_simp
              go_at_call 16
              refine (unhide HCPR w5 q5 (bthen (unhide HBW) (bthen (bthen hd hb7) hb5)) hq5).mono ?_
              rintro ev w6 ⟨g, rfl, htd, hb6⟩
              obtain ⟨ga, gn, gc, rfl⟩ := told_shape htd
              dsimp only
              try go_simp
              refine hK _ _ (fun _ => S6.keep hS hb6) ?_
              replace hS := S6.keep hS hb6
              clear hK K'
              try simp only [List.getElem_toArray, List.getElem_cons_succ, List.getElem_cons_zero, Act.put, List.setIfInBounds_toArray, List.set_cons_zero, List.set_cons_succ]
              have p0 : w6.cell? ⟨wc.heap.size, 0, none⟩ = some (.slice none 0 0) := ((bthen hb5 hb6).cell (p := ⟨wc.heap.size, 0, none⟩) (by simp)).trans (wr_al0 wc.drew)
              have p1 : w6.cell? ⟨wc.heap.size, 1, none⟩ = some (.int .i64 0) := ((bthen hb5 hb6).cell (p := ⟨wc.heap.size, 1, none⟩) (by simp)).trans (wr_al1 wc.drew)
              have pf : ∀ o, w6.frozen? ⟨wc.heap.size, o, none⟩ = false := fun o => ((bthen hb5 hb6).frozen (p := ⟨wc.heap.size, o, none⟩) (by simp)).trans (wr_alf wc.drew o)
              have hbW := bthen (bthen hd hb7) (bthen hb5 hb6)
              have hs5 := hb5.size
              have hbl : wc.heap.size < w5.heap.size := Nat.lt_of_lt_of_le (by simp) hs5
              refine anyE_take 6 (v := ?_) rfl (by kernel_rfl) (by kernel_rfl) (by kernel_rfl) (by kernel_rfl) (fun _ _ _ h => h) hS (Or.inl ⟨by rfl, ?_⟩) ?_
              rotate_left
              · intro w' hS'
                obtain ⟨e0, e1, e2, e3, e4, e5⟩ := hS'
                go_simp
                try with_reducible rfl
              try simp only [List.getElem_toArray, List.getElem_cons_succ, List.getElem_cons_zero, Act.put, List.setIfInBounds_toArray, List.set_cons_zero, List.set_cons_succ]
              refine anyE_take 7 (v := ?_) rfl (by kernel_rfl) (by kernel_rfl) (by kernel_rfl) (by kernel_rfl) (fun _ _ _ h => h) hS (Or.inl ⟨by rfl, ?_⟩) ?_
              rotate_left
              · intro w' hS'
                obtain ⟨e0, e1, e2, e3, e4, e5⟩ := hS'
                go_simp
                try with_reducible rfl
              try simp only [List.getElem_toArray, List.getElem_cons_succ, List.getElem_cons_zero, Act.put, List.setIfInBounds_toArray, List.set_cons_zero, List.set_cons_succ]
              refine anyE_take 8 (v := ?_) rfl (by kernel_rfl) (by kernel_rfl) (by kernel_rfl) (by kernel_rfl) (fun _ _ _ h => h) hS (Or.inl ⟨by rfl, ?_⟩) ?_
              rotate_left
              · intro w' hS'
                obtain ⟨e0, e1, e2, e3, e4, e5⟩ := hS'
                go_simp
                try with_reducible rfl
              try simp only [List.getElem_toArray, List.getElem_cons_succ, List.getElem_cons_zero, Act.put, List.setIfInBounds_toArray, List.set_cons_zero, List.set_cons_succ]
              refine anyE_take 10 (v := ?_) rfl (by kernel_rfl) (by kernel_rfl) (by kernel_rfl) (by kernel_rfl) (fun _ _ _ h => h) hS (Or.inl ⟨by rfl, ?_⟩) ?_
              rotate_left
              · intro w' hS'
                obtain ⟨e0, e1, e2, e3, e4, e5⟩ := hS'
                go_simp
                try with_reducible rfl
              try simp only [List.getElem_toArray, List.getElem_cons_succ, List.getElem_cons_zero, Act.put, List.setIfInBounds_toArray, List.set_cons_zero, List.set_cons_succ]
              refine anyE_ready [11] (by kernel_rfl) (by simp) (ReadyE.cons rfl (fun K' hK => ?_) ReadyE.nil)
              go_simp
              have hbF0 : Below wc.heap.size wc ((w6.setCell ⟨wc.heap.size, 0, none⟩ (.slice ga gn gc)).setCell ⟨wc.heap.size, 1, none⟩ (.int .i64 PL.err)) := (hbW.setCell (p := ⟨wc.heap.size, 0, none⟩) (Nat.le_refl _) _).setCell (p := ⟨wc.heap.size, 1, none⟩) (Nat.le_refl _) _
              refine hK _ _ (fun h => by exact absurd h (by decide)) ?_
              clear hK K'
              try simp only [List.getElem_toArray, List.getElem_cons_succ, List.getElem_cons_zero, Act.put, List.setIfInBounds_toArray, List.set_cons_zero, List.set_cons_succ]
              have hS0 := hS
              refine anyE_done (by kernel_rfl) ?_ _
              clear hS hS0
              have hbF : Below wc.heap.size wc ((w6.setCell ⟨wc.heap.size, 0, none⟩ (.slice ga gn gc)).setCell ⟨wc.heap.size, 1, none⟩ (.int .i64 PL.err)) := hbF0
              have htF : Told 0 ((w6.setCell ⟨wc.heap.size, 0, none⟩ (.slice ga gn gc)).setCell ⟨wc.heap.size, 1, none⟩ (.int .i64 PL.err)) (.agg #[.slice ga gn gc, .int .i64 PL.err]) PL.word PL.at_ PL.err := told_below (told_set (told_set htd ⟨wc.heap.size, 0, none⟩ hbl _) ⟨wc.heap.size, 1, none⟩ hbl _) (Nat.zero_le _)
              have d0 : ((w6.setCell ⟨wc.heap.size, 0, none⟩ (.slice ga gn gc)).setCell ⟨wc.heap.size, 1, none⟩ (.int .i64 PL.err)).cell? ⟨wc.heap.size, 0, none⟩ = some (.slice ga gn gc) := by simp [go_sem, p0]
              have d1 : ((w6.setCell ⟨wc.heap.size, 0, none⟩ (.slice ga gn gc)).setCell ⟨wc.heap.size, 1, none⟩ (.int .i64 PL.err)).cell? ⟨wc.heap.size, 1, none⟩ = some (.int .i64 PL.err) := by simp [go_sem, p1]
              have HFF := hide (And.intro hbF htF)
              clear hbF htF
              go_wp2_with fail
              go_meet
              case rel => exact ⟨wc.heap.size, ga, gn, gc, rfl, rfl, d0, d1, hide ⟨⟨(unhide HM8).1.1.below (unhide HFF).1, (unhide HM8).1.2.below (unhide HFF).1⟩, (unhide HM8).2.below (unhide HFF).1, (unhide HFF).2⟩, hide (bthen (unhide HBW) (unhide HFF).1)⟩
          case rest =>
            clear HBW HM8 HCPR
            obtain ⟨b, ga, gn, gc, rfl, rfl, g0, g1, HM9, HB9⟩ := hcut
            have HBW := HB9
            clear HB9
            have HTL := hide (tells_any wc u15 (.agg #[.slice ga gn gc, .int .i64 PL.err]) PL.word PL.at_ PL.err ((unhide HGW).below (unhide HM9).1.1.old) (unhide HM9).2.1 (unhide HM9).2.2)
            go_wp2_with fail
            refine (unhide HTL).mono ?_
            rintro ev w9 ⟨rfl, hb8⟩
            have HMY := hide (And.intro ((unhide HM9).1.1.below hb8) ((unhide HM9).1.2.below hb8))
            have HBW2 := hide (bthen (unhide HBW) hb8)
            clear g0 g1 HM9 HBW HTL hb8
            have HBW := HBW2
            clear HBW2
            go_wp2_with fail
            go_loopw [18] (fun qi wr => ∃ (i : Nat), i ≤ N ∧ qi = .int .i64 i ∧ Hid (Below w9.heap.size w9 wr)) (fun qi _ => N - (intOf qi).toNat)
            case atStart => exact ⟨0, Nat.zero_le _, rfl, hide (Below.refl _ _)⟩
            case round =>
              obtain ⟨i, hi, rfl, HI⟩ := hrel
              by_cases hin : i < N
              · have hin' : (i : Int) < N := by omega
                have hv := sto_at ((unhide HMY).2.below (unhide HI)) hin
                have hN20 : N ≤ 20 := by have := unhide HN; omega
                by_cases hil : i < ln
                · have hil' : (i : Int) < ln := by omega
                  obtain ⟨lb, lo, lc2, hlv, -, -, hlc⟩ := ((unhide HMY).1.hl.below (unhide HI)).at (by rw [unhide HLN]; omega)
                  injection hlv with hl1 hl2 hl3
                  subst hl1
                  have hll : i < l.length := by rw [unhide HLN]; exact hil
                  have hlx := hlc i hll
                  have hgd : l[i] = l.getD i 0 := by rw [List.getD_eq_getElem?_getD, List.getElem?_eq_getElem hll]; rfl
                  rw [hgd] at hlx
                  clear hlc hl2 hl3 hgd
                  generalize l.getD i 0 = v at *
                  go_wp2
                  go_roundw
                  case rel => exact ⟨i + 1, by omega, by go_num, HI⟩
                  case measure => simp [intOf]; omega
                · have hil' : ¬ (i : Int) < ln := by omega
                  have hg0 : l.getD i 0 = 0 := by rw [List.getD_eq_getElem?_getD, List.getElem?_eq_none (by rw [unhide HLN]; omega)]; rfl
                  rw [hg0] at hv
                  clear hg0
                  go_wp2
                  go_roundw
                  case rel => exact ⟨i + 1, by omega, by go_num, HI⟩
                  case measure => simp [intOf]; omega
              · have hin' : ¬ (i : Int) < N := by omega
                go_wp2
                go_ret
                exact ⟨rfl, bthen (unhide HMY).1.old (unhide HI)⟩
      have m2 : (x.kind == 2) = false := by simp [k2]
      have m3 : (x.kind == 3) = false := by simp [k3]
      go_wp2_with fail
      go_loopw [18] (fun qi wr => ∃ (i : Nat), i ≤ N ∧ qi = .int .i64 i ∧ Hid (Below w8.heap.size w8 wr)) (fun qi _ => N - (intOf qi).toNat)
      case atStart => exact ⟨0, Nat.zero_le _, rfl, hide (Below.refl _ _)⟩
      case round =>
        obtain ⟨i, hi, rfl, HI⟩ := hrel
        by_cases hin : i < N
        · have hin' : (i : Int) < N := by omega
          have hv := sto_at ((unhide HMZ).2.below (unhide HI)) hin
          have hN20 : N ≤ 20 := by have := unhide HN; omega
          by_cases hil : i < ln
          · have hil' : (i : Int) < ln := by omega
            obtain ⟨lb, lo, lc2, hlv, -, -, hlc⟩ := ((unhide HMZ).1.hl.below (unhide HI)).at (by rw [unhide HLN]; omega)
            injection hlv with hl1 hl2 hl3
            subst hl1
            have hll : i < l.length := by rw [unhide HLN]; exact hil
            have hlx := hlc i hll
            have hgd : l[i] = l.getD i 0 := by rw [List.getD_eq_getElem?_getD, List.getElem?_eq_getElem hll]; rfl
            rw [hgd] at hlx
            clear hlc hl2 hl3 hgd
            generalize l.getD i 0 = v at *
            go_wp2
            go_roundw
            case rel => exact ⟨i + 1, by omega, by go_num, HI⟩
            case measure => simp [intOf]; omega
          · have hil' : ¬ (i : Int) < ln := by omega
            have hg0 : l.getD i 0 = 0 := by rw [List.getD_eq_getElem?_getD, List.getElem?_eq_none (by rw [unhide HLN]; omega)]; rfl
            rw [hg0] at hv
            clear hg0
            go_wp2
            go_roundw
            case rel => exact ⟨i + 1, by omega, by go_num, HI⟩
            case measure => simp [intOf]; omega
        · have hin' : ¬ (i : Int) < N := by omega
          go_wp2
          go_ret
          exact ⟨rfl, bthen (unhide HMZ).1.old (unhide HI)⟩
end Go.Proofs.YtomnbidppkpfiaaDoor.Line
