/- The contract of the reference's Eval. -/
import Derived.Test.YtomnbidppkpfiaaDoorEvRPlace
namespace Go.Proofs.YtomnbidppkpfiaaDoor.Line
open Go.ChangeShapes Go.WideShapes Go.ChangeAt Go.RowKit
open Ex (E)
open Ev (Sy Res)
set_option linter.unusedVariables false

/-- what the reference's Place answers at a tree -/
def RPlaceOk (T : List Sy) (s : List Int) (x : E) : Prop := ∀ (w : World) (sv : Value) (c : Int) (stv sx : Value), Syms w sv T → Ints w stv s → Forest w (fun _ => True) x.a sx → Calls Tryd.prog 16 #[.agg #[sv, .int .i64 c], stv, treeV x sx] w fun e w' => ∃ g, e = .returned (.tuple #[.int .i64 (placeP T s x).v, g]) ∧ Told w.heap.size w' g (placeP T s x).word (placeP T s x).at_ (placeP T s x).err ∧ Below w.heap.size w w'
theorem bad_of (r : Res) (h : r.v = 0) : r = .bad r.word r.at_ r.err := by
  cases r; simp only at h; subst h; rfl
theorem ev_place {T : List Sy} {s : List Int} {N : Nat} {x : E} {y : Sy} (hT : Ev.Fine T) (hw : Ev.Within T N) (hs : s.length = N) (hf : Ev.find T x.name = some y) (hd : y.dims.length = x.a.length) (hk : x.kind = 2 ∨ x.kind = 3) (hp : Ev.parts x = x.a) :
    ((placeP T s x).err ≠ 0 → Ev.ev T s x = .bad (placeP T s x).word (placeP T s x).at_ (placeP T s x).err) ∧ ((placeP T s x).err = 0 → ∃ (k : Nat) (v : Int), (placeP T s x).v = k ∧ k < s.length ∧ s[k]? = some v ∧ Ev.ev T s x = .ok v) := by
  unfold placeP
  rw [Ev.ev_eq, hp]
  cases h : Ev.evs T s x.a with
  | inl r =>
    refine ⟨fun _ => bad_of r (evs_zero T s _ _ h), fun h0 => absurd h0 (evs_bad T s _ _ h)⟩
  | inr l =>
    have hv : Ev.valP T s x l = Ev.heldP T s x.name l := by
      unfold Ev.valP
      rw [if_neg (by omega), if_pos hk]
    show ((Ev.cellP T x.name l).err ≠ 0 → Ev.valP T s x l = _) ∧ ((Ev.cellP T x.name l).err = 0 → ∃ (k : Nat) (v : Int), (Ev.cellP T x.name l).v = k ∧ k < s.length ∧ s[k]? = some v ∧ Ev.valP T s x l = .ok v)
    rw [hv]
    refine ⟨fun h0 => Ev.held_bad h0, fun h0 => ?_⟩
    obtain ⟨k, h1, h2, h3⟩ := Ev.held_in hT hw hs hf ((Ev.evs_len T s _ _ h).trans hd.symm) h0
    exact ⟨k, s[k], h1, h2, List.getElem?_eq_getElem h2, h3⟩
/-- the boxes of Eval -/
structure EM (w W : World) (sv : Value) (c : Int) (x : E) (sx : Value) : Prop where
  t0 : W.cell? ⟨w.heap.size, 0, none⟩ = some sv
  t1 : W.cell? ⟨w.heap.size, 1, none⟩ = some (.int .i64 c)
  e0 : W.cell? ⟨w.heap.size + 1, 0, none⟩ = some (.int .i64 x.kind)
  e1 : W.cell? ⟨w.heap.size + 1, 1, none⟩ = some (.int .i64 x.n)
  e2 : W.cell? ⟨w.heap.size + 1, 2, none⟩ = some (.string ⟨x.name.toArray⟩)
  e3 : W.cell? ⟨w.heap.size + 1, 3, none⟩ = some sx
  r0 : W.cell? ⟨w.heap.size + 2, 0, none⟩ = some (.slice none 0 0)
  r1 : W.cell? ⟨w.heap.size + 2, 1, none⟩ = some (.int .i64 0)
  f0 : W.frozen? ⟨w.heap.size + 2, 0, none⟩ = false
  f1 : W.frozen? ⟨w.heap.size + 2, 1, none⟩ = false
  old : Below w.heap.size w W
  sz : w.heap.size + 3 ≤ W.heap.size
theorem EM.below {w W W' : World} {sv : Value} {c : Int} {x : E} {sx : Value} (h : EM w W sv c x sx) (hb : Below W.heap.size W W') : EM w W' sv c x sx := by
  have hs := h.sz
  have hc : ∀ {b o : Nat} {v : Value}, W.cell? ⟨b, o, none⟩ = some v → W'.cell? ⟨b, o, none⟩ = some v := fun {b o v} h => (hb.cell (p := ⟨b, o, none⟩) (cell_lt h)).trans h
  have hf : ∀ o, W'.frozen? ⟨w.heap.size + 2, o, none⟩ = W.frozen? ⟨w.heap.size + 2, o, none⟩ := fun o => hb.frozen (p := ⟨w.heap.size + 2, o, none⟩) (show w.heap.size + 2 < _ by omega)
  exact ⟨hc h.t0, hc h.t1, hc h.e0, hc h.e1, hc h.e2, hc h.e3, hc h.r0, hc h.r1, (hf 0).trans h.f0, (hf 1).trans h.f1, bthen h.old hb, by have := hb.size; omega⟩
theorem EM.start (w : World) (sv : Value) (c : Int) (x : E) (sx : Value) : EM w (((w.alloc (.cells #[sv, .int .i64 c] RTb)).alloc (.cells #[.int .i64 x.kind, .int .i64 x.n, .string ⟨x.name.toArray⟩, sx] ET)).alloc (.cells #[.slice none 0 0, .int .i64 0] WrT)) sv c x sx :=
  ⟨by simp [go_sem], by simp [go_sem], by simp [go_sem], by simp [go_sem], by simp [go_sem], by simp [go_sem], by simp [go_sem], by simp [go_sem], by simp [go_sem], by simp [go_sem], bthen (alloc_below _ _) (bthen (alloc_below _ _) (alloc_below _ _)), by simp⟩
theorem EM.ret {w W : World} {sv : Value} {c : Int} {x : E} {sx : Value} (h : EM w W sv c x sx) (u v : Value) : Below w.heap.size w ((W.setCell ⟨w.heap.size + 2, 0, none⟩ u).setCell ⟨w.heap.size + 2, 1, none⟩ v) :=
  (h.old.setCell (p := ⟨w.heap.size + 2, 0, none⟩) (show w.heap.size ≤ w.heap.size + 2 by omega) _).setCell (p := ⟨w.heap.size + 2, 1, none⟩) (show w.heap.size ≤ w.heap.size + 2 by omega) _
theorem ret_told {w W : World} {g : Value} {word : List UInt8} {k err : Nat} (h : Told (w.heap.size + 3) W g word k err) (u v : Value) : Told w.heap.size ((W.setCell ⟨w.heap.size + 2, 0, none⟩ u).setCell ⟨w.heap.size + 2, 1, none⟩ v) g word k err :=
  told_below (told_set (told_set h ⟨w.heap.size + 2, 0, none⟩ (show w.heap.size + 2 < w.heap.size + 3 by omega) _) ⟨w.heap.size + 2, 1, none⟩ (show w.heap.size + 2 < w.heap.size + 3 by omega) _) (by omega)
set_option maxHeartbeats 8000000 in
set_option maxRecDepth 100000 in
theorem reval_num (T : List Sy) (s : List Int) (x : E) (hk : x.kind = 1) : REvalOk T s x := by
  intro w sv c stv sx hs hst hx
  have HM := hide (EM.start w sv c x sx)
  have hev : Ev.ev T s x = .ok x.n := by
    have hp : Ev.parts x = [] := if_neg (by omega)
    rw [Ev.ev_eq, hp, Ev.evs]
    exact if_pos hk
  have HE := hide hev
  generalize Ev.ev T s x = R at *
  obtain ⟨sa, sc, rfl⟩ := hs.shape
  obtain ⟨ta, tc, rfl⟩ := hst.shape
  obtain ⟨xa, xc, rfl⟩ := hx.shape
  have HK := hide hk
  clear hs hst hx hev hk
  generalize T.length = tn at *
  generalize s.length = sn at *
  generalize x.a.length = xn at *
  go_enter Tryd.func13, Tryd.ntmps13
  go_upto_region 1 with fail
  generalize (((w.alloc (.cells #[.slice sa tn sc, .int .i64 c] RTb)).alloc (.cells #[.int .i64 x.kind, .int .i64 x.n, .string ⟨x.name.toArray⟩, .slice xa xn xc] ET)).alloc (.cells #[.slice none 0 0, .int .i64 0] WrT)) = W at *
  have e0 : W.cell? ⟨w.heap.size + 1, 0, none⟩ = some (.int .i64 1) := by rw [(unhide HM).e0, unhide HK]
  have e1 := (unhide HM).e1
  have r0 := (unhide HM).r0
  have r1 := (unhide HM).r1
  have f0 := (unhide HM).f0
  have f1 := (unhide HM).f1
  go_wp2_with fail
  refine bodyPost_ret (v := .tuple #[.int .i64 x.n, .agg #[.slice none 0 0, .int .i64 0]]) (by simp [results, Tryd.results13, go_sem, r0, r1]) rfl ⟨_, by rw [unhide HE]; rfl, by rw [unhide HE]; exact .inl ⟨rfl, rfl⟩, (unhide HM).ret _ _⟩
set_option maxHeartbeats 8000000 in
set_option maxRecDepth 100000 in
theorem reval_cell (T : List Sy) (s : List Int) (N : Nat) (hT : Ev.Fine T) (hw : Ev.Within T N) (hs : s.length = N) (x : E) (y : Sy) (hf : Ev.find T x.name = some y) (hd : y.dims.length = x.a.length) (hk : x.kind = 2 ∨ x.kind = 3) (hp : Ev.parts x = x.a) (hpl : RPlaceOk T s x) : REvalOk T s x := by
  intro w sv c stv sx hsy hst hx
  obtain ⟨hb, hg⟩ := ev_place hT hw hs hf hd hk hp
  have HM := hide (EM.start w sv c x sx)
  have b3 := (EM.start w sv c x sx).old
  have HPL := hide (hpl (((w.alloc (.cells #[sv, .int .i64 c] RTb)).alloc (.cells #[.int .i64 x.kind, .int .i64 x.n, .string ⟨x.name.toArray⟩, sx] ET)).alloc (.cells #[.slice none 0 0, .int .i64 0] WrT)) sv c stv sx (hsy.below b3) (hst.below b3) (hx.old b3))
  have HST := hide (hst.below b3)
  obtain ⟨sa, sc, rfl⟩ := hsy.shape
  obtain ⟨ta, tc, rfl⟩ := hst.shape
  obtain ⟨xa, xc, rfl⟩ := hx.shape
  have HB := hide hb
  have HG := hide hg
  clear hsy hst hx hb hg b3 hpl hs hd
  generalize Ev.ev T s x = R at *
  generalize placeP T s x = Q at *
  generalize T.length = tn at *
  generalize hsn : s.length = sn at *
  generalize x.a.length = xn at *
  go_enter Tryd.func13, Tryd.ntmps13
  go_upto_region 1 with fail
  generalize (((w.alloc (.cells #[.slice sa tn sc, .int .i64 c] RTb)).alloc (.cells #[.int .i64 x.kind, .int .i64 x.n, .string ⟨x.name.toArray⟩, .slice xa xn xc] ET)).alloc (.cells #[.slice none 0 0, .int .i64 0] WrT)) = W at *
  have HK := hide hk
  have HF := hide hf
  have HP := hide hp
  clear hk hf hp
  have e1 := (unhide HM).e1
  have e2 := (unhide HM).e2
  have e3 := (unhide HM).e3
  have t0 := (unhide HM).t0
  have t1 := (unhide HM).t1
  have e0' := (unhide HM).e0
  rcases unhide HK with hk | hk
  · have e0 : W.cell? ⟨w.heap.size + 1, 0, none⟩ = some (.int .i64 2) := by rw [e0', hk]
    have hpl2 := unhide HPL
    unfold treeV at hpl2
    rw [hk] at hpl2
    have HPL2 := hide hpl2
    clear hk e0' hpl2 HPL
    go_wp2_with fail
    refine (unhide HPL2).mono ?_
    rintro ev w5 ⟨g, rfl, htd, hb5⟩
    obtain ⟨ga, gn, gc, rfl⟩ := told_shape htd
    have HTD := hide htd
    have HB5 := hide hb5
    clear htd hb5
    go_upto_region 7 with fail
    have d0 : (w5.alloc (.cells #[.slice ga gn gc, .int .i64 Q.err] WrT)).cell? ⟨w5.heap.size, 0, none⟩ = some (.slice ga gn gc) := by simp [go_sem]
    have d1 : (w5.alloc (.cells #[.slice ga gn gc, .int .i64 Q.err] WrT)).cell? ⟨w5.heap.size, 1, none⟩ = some (.int .i64 Q.err) := by simp [go_sem]
    have HB6 := hide (bthen (unhide HB5) (alloc_below w5 (.cells #[.slice ga gn gc, .int .i64 Q.err] WrT)))
    have HT6 := hide (told_below (B' := w.heap.size + 3) ((unhide HTD).below (alloc_below w5 (.cells #[.slice ga gn gc, .int .i64 Q.err] WrT))) (unhide HM).sz)
    have HM6 := hide ((unhide HM).below (unhide HB6))
    have HS6 := hide ((unhide HST).below (unhide HB6))
    generalize (w5.alloc (.cells #[.slice ga gn gc, .int .i64 Q.err] WrT)) = W6 at *
    generalize w5.heap.size = bx at *
    clear e0 e1 e2 e3 t0 t1 HB5 HTD HPL2 HST
    have r0 := (unhide HM6).r0
    have r1 := (unhide HM6).r1
    have f0 := (unhide HM6).f0
    have f1 := (unhide HM6).f1
    by_cases herr : Q.err = 0
    · have d1' : W6.cell? ⟨bx, 1, none⟩ = some (.int .i64 0) := by rw [d1, herr]; rfl
      obtain ⟨k, v, hqv, hkl, hkv, hR⟩ := unhide HG herr
      obtain ⟨hkl', hkv'⟩ := List.getElem?_eq_some_iff.1 hkv
      obtain ⟨b, off, cap, hv, -, -, hcl⟩ := (unhide HS6).at (by omega)
      rw [hsn] at hv
      injection hv with hv1 hv2 hv3
      subst hv1 hv3
      have ck : W6.cell? ⟨b, off + k, none⟩ = some (.int .i64 v) := by rw [hcl k hkl', hkv']
      have hkn : (k : Int) < sn := by omega
      have HRR := hide hR
      clear hcl hkv hkv' hR d1 HB HG
      go_wp2_with fail
      refine bodyPost_ret (v := .tuple #[.int .i64 v, .agg #[.slice none 0 0, .int .i64 0]]) (by simp [results, Tryd.results13, go_sem, r0, r1]) rfl ⟨_, by rw [unhide HRR]; rfl, by rw [unhide HRR]; exact .inl ⟨rfl, rfl⟩, (unhide HM6).ret _ _⟩
    · have hne : ¬ ((Q.err : Nat) : Int) = 0 := by omega
      have HRR := hide (unhide HB herr)
      clear HB HG
      go_wp2_with fail
      go_region
      go_wp2_with fail
      refine bodyPost_ret (v := .tuple #[.int .i64 0, .agg #[.slice ga gn gc, .int .i64 Q.err]]) (by simp [results, Tryd.results13, go_sem, r0, r1]) rfl ⟨_, by rw [unhide HRR]; rfl, ?_, ?_⟩
      · rw [unhide HRR]
        exact ret_told ((unhide HT6).below (below_drewN (Below.refl _ _) 1)) _ _
      · exact ((unhide HM6).below (below_drewN (Below.refl _ _) 1)).ret _ _
  · have e0 : W.cell? ⟨w.heap.size + 1, 0, none⟩ = some (.int .i64 3) := by rw [e0', hk]
    have hpl2 := unhide HPL
    unfold treeV at hpl2
    rw [hk] at hpl2
    have HPL2 := hide hpl2
    clear hk e0' hpl2 HPL
    go_wp2_with fail
    refine (unhide HPL2).mono ?_
    rintro ev w5 ⟨g, rfl, htd, hb5⟩
    obtain ⟨ga, gn, gc, rfl⟩ := told_shape htd
    have HTD := hide htd
    have HB5 := hide hb5
    clear htd hb5
    go_upto_region 7 with fail
    have d0 : (w5.alloc (.cells #[.slice ga gn gc, .int .i64 Q.err] WrT)).cell? ⟨w5.heap.size, 0, none⟩ = some (.slice ga gn gc) := by simp [go_sem]
    have d1 : (w5.alloc (.cells #[.slice ga gn gc, .int .i64 Q.err] WrT)).cell? ⟨w5.heap.size, 1, none⟩ = some (.int .i64 Q.err) := by simp [go_sem]
    have HB6 := hide (bthen (unhide HB5) (alloc_below w5 (.cells #[.slice ga gn gc, .int .i64 Q.err] WrT)))
    have HT6 := hide (told_below (B' := w.heap.size + 3) ((unhide HTD).below (alloc_below w5 (.cells #[.slice ga gn gc, .int .i64 Q.err] WrT))) (unhide HM).sz)
    have HM6 := hide ((unhide HM).below (unhide HB6))
    have HS6 := hide ((unhide HST).below (unhide HB6))
    generalize (w5.alloc (.cells #[.slice ga gn gc, .int .i64 Q.err] WrT)) = W6 at *
    generalize w5.heap.size = bx at *
    clear e0 e1 e2 e3 t0 t1 HB5 HTD HPL2 HST
    have r0 := (unhide HM6).r0
    have r1 := (unhide HM6).r1
    have f0 := (unhide HM6).f0
    have f1 := (unhide HM6).f1
    by_cases herr : Q.err = 0
    · have d1' : W6.cell? ⟨bx, 1, none⟩ = some (.int .i64 0) := by rw [d1, herr]; rfl
      obtain ⟨k, v, hqv, hkl, hkv, hR⟩ := unhide HG herr
      obtain ⟨hkl', hkv'⟩ := List.getElem?_eq_some_iff.1 hkv
      obtain ⟨b, off, cap, hv, -, -, hcl⟩ := (unhide HS6).at (by omega)
      rw [hsn] at hv
      injection hv with hv1 hv2 hv3
      subst hv1 hv3
      have ck : W6.cell? ⟨b, off + k, none⟩ = some (.int .i64 v) := by rw [hcl k hkl', hkv']
      have hkn : (k : Int) < sn := by omega
      have HRR := hide hR
      clear hcl hkv hkv' hR d1 HB HG
      go_wp2_with fail
      refine bodyPost_ret (v := .tuple #[.int .i64 v, .agg #[.slice none 0 0, .int .i64 0]]) (by simp [results, Tryd.results13, go_sem, r0, r1]) rfl ⟨_, by rw [unhide HRR]; rfl, by rw [unhide HRR]; exact .inl ⟨rfl, rfl⟩, (unhide HM6).ret _ _⟩
    · have hne : ¬ ((Q.err : Nat) : Int) = 0 := by omega
      have HRR := hide (unhide HB herr)
      clear HB HG
      go_wp2_with fail
      go_region
      go_wp2_with fail
      refine bodyPost_ret (v := .tuple #[.int .i64 0, .agg #[.slice ga gn gc, .int .i64 Q.err]]) (by simp [results, Tryd.results13, go_sem, r0, r1]) rfl ⟨_, by rw [unhide HRR]; rfl, ?_, ?_⟩
      · rw [unhide HRR]
        exact ret_told ((unhide HT6).below (below_drewN (Below.refl _ _) 1)) _ _
      · exact ((unhide HM6).below (below_drewN (Below.refl _ _) 1)).ret _ _
/-- neg, two -/
theorem ev_neg (T : List Sy) (s : List Int) (x z : E) (hk : x.kind = 4) (ha : x.a = [z]) : ((Ev.ev T s z).err = 0 → Ev.ev T s x = .ok (wrap64 (-(Ev.ev T s z).v))) ∧ ((Ev.ev T s z).err ≠ 0 → Ev.ev T s x = Ev.ev T s z) := by
  have hp : Ev.parts x = [z] := by unfold Ev.parts; rw [if_pos (by omega), ha]
  rw [Ev.ev_eq T s x, hp]
  refine ⟨fun h => ?_, fun h => ?_⟩
  · rw [Ev.evs, if_neg (by omega), Ev.evs]
    show Ev.valP T s x [(Ev.ev T s z).v] = _
    unfold Ev.valP
    rw [if_neg (by omega), if_neg (by omega), if_pos hk]
    rfl
  · rw [Ev.evs, if_pos h]
set_option maxHeartbeats 8000000 in
set_option maxRecDepth 100000 in
theorem reval_neg (T : List Sy) (s : List Int) (x z : E) (hk : x.kind = 4) (ha : x.a = [z]) (hq : REvalOk T s z) : REvalOk T s x := by
  intro w sv c stv sx hs hst hx
  obtain ⟨hg, hb⟩ := ev_neg T s x z hk ha
  have hx1 : x.a.length = 1 := by rw [ha]; rfl
  have HM := hide (EM.start w sv c x sx)
  have HAL := hide (And.intro hs hst)
  have hz0 : x.a[0]'(by omega) = z := by simp [ha]
  have HF := hide (hx.old (EM.start w sv c x sx).old)
  obtain ⟨xb, xo, xc, sl, hv, hc1, hc2, hcl, hfs⟩ := (unhide HF).at (by omega)
  subst hv
  obtain ⟨c0, c1, c2, c3⟩ := hcl 0 (by omega)
  rw [hz0] at c0 c1 c2
  have hf0 := hfs 0 (by omega)
  rw [hz0] at hf0
  rw [Nat.zero_mul, Nat.add_zero] at c0 c1 c2 c3
  have HFI := hide hf0
  have HG := hide hg
  have HB := hide hb
  have HK := hide hk
  have HQ0 : Hid (∀ (w : World) (sv : Value) (c : Int) (stv sx : Value), Syms w sv T → Ints w stv s → Forest w (fun _ => True) z.a sx → Calls Tryd.prog 13 #[.agg #[sv, .int .i64 c], stv, treeV z sx] w fun e w' => ∃ g, e = .returned (.tuple #[.int .i64 (Ev.ev T s z).v, g]) ∧ Told w.heap.size w' g (Ev.ev T s z).word (Ev.ev T s z).at_ (Ev.ev T s z).err ∧ Below w.heap.size w w') := hide hq
  have HQ := HQ0
  have HEZ := hide (Ev.ev_zero T s z)
  obtain ⟨sa, sc, rfl⟩ := hs.shape
  obtain ⟨ta, tc, rfl⟩ := hst.shape
  clear hs hst hx hb hg hq hk hz0 HF hcl hfs hf0 HQ0 ha
  generalize Ev.ev T s x = R at *
  generalize Ev.ev T s z = V at *
  generalize T.length = tn at *
  generalize s.length = sn at *
  generalize x.a.length = xn at *
  generalize sl 0 = zv at *
  have hlt : 0 < xn := by omega
  have hlt2 : (0 : Int) < xn := by omega
  clear hx1
  go_enter Tryd.func13, Tryd.ntmps13
  go_upto_region 1 with fail
  generalize (((w.alloc (.cells #[.slice sa tn sc, .int .i64 c] RTb)).alloc (.cells #[.int .i64 x.kind, .int .i64 x.n, .string ⟨x.name.toArray⟩, .slice (some ⟨xb, xo, none⟩) xn xc] ET)).alloc (.cells #[.slice none 0 0, .int .i64 0] WrT)) = wr at *
  have e0 : wr.cell? ⟨w.heap.size + 1, 0, none⟩ = some (.int .i64 4) := by rw [(unhide HM).e0, unhide HK]
  go_upto_region 10 with fail
  clear e0
  have HMr := HM
  have hwr := (unhide HMr).sz
  have HCA1 := hide (unhide HQ (wr.drewN 1) (.slice sa tn sc) c (.slice ta sn tc) zv ((unhide HAL).1.below (below_drewN (unhide HMr).old 1)) ((unhide HAL).2.below (below_drewN (unhide HMr).old 1)) ((unhide HFI).old (below_drewN (Below.refl _ _) 1)))
  have HCB1 := hide (unhide HQ ((wr.drewN 1).alloc (.cells #[.slice none 0 0, .int .i64 0] WrT)) (.slice sa tn sc) c (.slice ta sn tc) zv ((unhide HAL).1.below (bthen (below_drewN (unhide HMr).old 1) (alloc_below _ _))) ((unhide HAL).2.below (bthen (below_drewN (unhide HMr).old 1) (alloc_below _ _))) ((unhide HFI).old (bthen (below_drewN (Below.refl _ _) 1) (alloc_below _ _))))
  refine wp_regionE (S7 w (.slice sa tn sc) c (.slice (some ⟨xb, xo, none⟩) xn xc) xb (xo) z zv) (fun j => decide (j < 12)) (by kernel_rfl) ⟨(unhide HMr).t0, (unhide HMr).t1, (unhide HMr).e3, c0, c1, c2, c3⟩ (fun hS => ?_)
  clear c0 c1 c2 c3
  refine anyE_take 0 (v := ?_) rfl (by kernel_rfl) (by kernel_rfl) (by kernel_rfl) (by kernel_rfl) (fun _ _ _ h => h) hS (Or.inl ⟨by rfl, ?_⟩) ?_
  rotate_left
  · intro w' hS'
    obtain ⟨e0, e1, e2, e4, e5, e6, e7⟩ := hS'
    go_simp
    try with_reducible rfl
  try simp only [List.getElem_toArray, List.getElem_cons_zero, Act.put, List.setIfInBounds_toArray, List.set_cons_zero, List.set_cons_succ]
  refine anyE_take 1 (v := ?_) rfl (by kernel_rfl) (by kernel_rfl) (by kernel_rfl) (by kernel_rfl) (fun _ _ _ h => h) hS (Or.inl ⟨by rfl, ?_⟩) ?_
  rotate_left
  · intro w' hS'
    obtain ⟨e0, e1, e2, e4, e5, e6, e7⟩ := hS'
    go_simp
    try with_reducible rfl
  try simp only [List.getElem_toArray, List.getElem_cons_succ, List.getElem_cons_zero, Act.put, List.setIfInBounds_toArray, List.set_cons_zero, List.set_cons_succ]
  refine anyE_take 2 (v := ?_) rfl (by kernel_rfl) (by kernel_rfl) (by kernel_rfl) (by kernel_rfl) (fun _ _ _ h => h) hS (Or.inl ⟨by rfl, ?_⟩) ?_
  rotate_left
  · intro w' hS'
    obtain ⟨e0, e1, e2, e4, e5, e6, e7⟩ := hS'
    go_simp
    try with_reducible rfl
  try simp only [List.getElem_toArray, List.getElem_cons_succ, List.getElem_cons_zero, Act.put, List.setIfInBounds_toArray, List.set_cons_zero, List.set_cons_succ]
  refine anyE_take 3 (v := ?_) rfl (by kernel_rfl) (by kernel_rfl) (by kernel_rfl) (by kernel_rfl) (fun _ _ _ h => h) hS (Or.inl ⟨by rfl, ?_⟩) ?_
  rotate_left
  · intro w' hS'
    obtain ⟨e0, e1, e2, e4, e5, e6, e7⟩ := hS'
    go_simp
    try with_reducible rfl
  try simp only [List.getElem_toArray, List.getElem_cons_succ, List.getElem_cons_zero, Act.put, List.setIfInBounds_toArray, List.set_cons_zero, List.set_cons_succ]
  refine anyE_take 4 (v := ?_) rfl (by kernel_rfl) (by kernel_rfl) (by kernel_rfl) (by kernel_rfl) (fun _ _ _ h => h) hS (Or.inl ⟨by rfl, ?_⟩) ?_
  rotate_left
  · intro w' hS'
    obtain ⟨e0, e1, e2, e4, e5, e6, e7⟩ := hS'
    go_simp
    try with_reducible rfl
  try simp only [List.getElem_toArray, List.getElem_cons_succ, List.getElem_cons_zero, Act.put, List.setIfInBounds_toArray, List.set_cons_zero, List.set_cons_succ]
  refine anyE_take 5 (v := ?_) rfl (by kernel_rfl) (by kernel_rfl) (by kernel_rfl) (by kernel_rfl) (fun _ _ _ h => h) hS (Or.inl ⟨by rfl, ?_⟩) ?_
  rotate_left
  · intro w' hS'
    obtain ⟨e0, e1, e2, e4, e5, e6, e7⟩ := hS'
    go_simp
    try with_reducible rfl
  try simp only [List.getElem_toArray, List.getElem_cons_succ, List.getElem_cons_zero, Act.put, List.setIfInBounds_toArray, List.set_cons_zero, List.set_cons_succ]
  refine anyE_ready [6, 10] (by kernel_rfl) (by simp) (ReadyE.cons rfl (fun K' hK => ?_) (ReadyE.cons rfl (fun K' hK => ?_) ReadyE.nil))
  · clear HCB1
    go_simp
    refine (unhide HCA1).mono ?_
    rintro ev w5 ⟨g, rfl, htd, hb5⟩
    obtain ⟨ga, gn, gc, rfl⟩ := told_shape htd
    dsimp only
    refine hK _ w5 (fun _ => S7.keep hS hb5) ?_
    replace hS := S7.keep hS hb5
    clear hK K' HCA1
    try simp only [List.getElem_toArray, List.getElem_cons_succ, List.getElem_cons_zero, Act.put, List.setIfInBounds_toArray, List.set_cons_zero, List.set_cons_succ]
    have HB5 := hide hb5
    have HTD := hide htd
    clear hb5 htd
    refine anyE_take 7 (v := ?_) rfl (by kernel_rfl) (by kernel_rfl) (by kernel_rfl) (by kernel_rfl) (fun _ _ _ h => h) hS (Or.inl ⟨by rfl, ?_⟩) ?_
    rotate_left
    · intro w' hS'
      obtain ⟨e0, e1, e2, e4, e5, e6, e7⟩ := hS'
      go_simp
      try with_reducible rfl
    try simp only [List.getElem_toArray, List.getElem_cons_succ, List.getElem_cons_zero, Act.put, List.setIfInBounds_toArray, List.set_cons_zero, List.set_cons_succ]
    refine anyE_take 8 (v := ?_) rfl (by kernel_rfl) (by kernel_rfl) (by kernel_rfl) (by kernel_rfl) (fun _ _ _ h => h) hS (Or.inl ⟨by rfl, ?_⟩) ?_
    rotate_left
    · intro w' hS'
      obtain ⟨e0, e1, e2, e4, e5, e6, e7⟩ := hS'
      go_simp
      try with_reducible rfl
    try simp only [List.getElem_toArray, List.getElem_cons_succ, List.getElem_cons_zero, Act.put, List.setIfInBounds_toArray, List.set_cons_zero, List.set_cons_succ]
    refine anyE_take 9 (v := ?_) rfl (by kernel_rfl) (by kernel_rfl) (by kernel_rfl) (by kernel_rfl) (fun _ _ _ h => h) hS (Or.inl ⟨by rfl, ?_⟩) ?_
    rotate_left
    · intro w' hS'
      obtain ⟨e0, e1, e2, e4, e5, e6, e7⟩ := hS'
      go_simp
      try with_reducible rfl
    try simp only [List.getElem_toArray, List.getElem_cons_succ, List.getElem_cons_zero, Act.put, List.setIfInBounds_toArray, List.set_cons_zero, List.set_cons_succ]
    refine anyE_ready [10] (by kernel_rfl) (by simp) (ReadyE.cons rfl (fun K' hK => ?_) ReadyE.nil)
    go_simp
    have hS0 := hS
    have hb5 := alloc_below w5 (.cells #[.slice none 0 0, .int .i64 0] WrT)
    refine hK _ _ (fun _ => S7.keep hS hb5) ?_
    replace hS := S7.keep hS hb5
    clear hK K' hb5
    try simp only [List.getElem_toArray, List.getElem_cons_succ, List.getElem_cons_zero, Act.put, List.setIfInBounds_toArray, List.set_cons_zero, List.set_cons_succ]
    refine anyE_take 11 (v := ?_) rfl (by kernel_rfl) (by kernel_rfl) (by kernel_rfl) (by kernel_rfl) (fun _ _ _ h => h) hS (Or.inl ⟨by rfl, ?_⟩) ?_
    rotate_left
    · intro w' hS'
      obtain ⟨e0, e1, e2, e4, e5, e6, e7⟩ := hS'
      go_simp
      try with_reducible rfl
    try simp only [List.getElem_toArray, List.getElem_cons_succ, List.getElem_cons_zero, Act.put, List.setIfInBounds_toArray, List.set_cons_zero, List.set_cons_succ]
    refine anyE_ready [12] (by kernel_rfl) (by simp) (ReadyE.cons rfl (fun K' hK => ?_) ReadyE.nil)
    go_simp
    have hB6 := alloc_below w5 (.cells #[.slice ga gn gc, .int .i64 V.err] WrT)
    refine hK _ _ (fun _ => S7.keep hS0 hB6) ?_
    clear hK K'
    try simp only [List.getElem_toArray, List.getElem_cons_succ, List.getElem_cons_zero, Act.put, List.setIfInBounds_toArray, List.set_cons_zero, List.set_cons_succ]
    refine anyE_done (by kernel_rfl) ?_ _
    have HB6 := hide (bthen (below_drewN (Below.refl _ _) 1 : Below wr.heap.size wr (wr.drewN 1)) (bthen (unhide HB5) hB6))
    have HT6 := hide (told_below (B' := w.heap.size + 3) ((unhide HTD).below hB6) (by show _ ≤ wr.heap.size; omega))
    have d0 : (w5.alloc (.cells #[.slice ga gn gc, .int .i64 V.err] WrT)).cell? ⟨w5.heap.size, 0, none⟩ = some (.slice ga gn gc) := by simp [go_sem]
    have d1 : (w5.alloc (.cells #[.slice ga gn gc, .int .i64 V.err] WrT)).cell? ⟨w5.heap.size, 1, none⟩ = some (.int .i64 V.err) := by simp [go_sem]
    clear hB6 HB5 HTD hS hS0
    generalize (w5.alloc (.cells #[.slice ga gn gc, .int .i64 V.err] WrT)) = W6 at *
    have HM6 := hide ((unhide HMr).below (unhide HB6))
    clear HMr HB6
    generalize w5.heap.size = bx at *
    have r0 := (unhide HM6).r0
    have r1 := (unhide HM6).r1
    have f0 := (unhide HM6).f0
    have f1 := (unhide HM6).f1
    have e0 : W6.cell? ⟨w.heap.size + 1, 0, none⟩ = some (.int .i64 4) := by rw [(unhide HM6).e0, unhide HK]
    by_cases herr : V.err = 0
    · have d1' : W6.cell? ⟨bx, 1, none⟩ = some (.int .i64 0) := by rw [d1, herr]; rfl
      have HRR := hide (unhide HG herr)
      clear d0 d1 HG HB
      go_wp2_with fail
      refine bodyPost_ret (v := .tuple #[.int .i64 (wrap64 (-V.v)), .agg #[.slice none 0 0, .int .i64 0]]) (by simp [results, Tryd.results13, go_sem, r0, r1]) rfl ⟨_, by rw [unhide HRR]; rfl, by rw [unhide HRR]; exact .inl ⟨rfl, rfl⟩, (unhide HM6).ret _ _⟩
    · have hne : ¬ ((V.err : Nat) : Int) = 0 := by omega
      have HRR := hide (unhide HB herr)
      have hv0 := unhide HEZ herr
      clear HG HB
      go_wp2_with fail
      go_region
      go_wp2_with fail
      refine bodyPost_ret (v := .tuple #[.int .i64 0, .agg #[.slice ga gn gc, .int .i64 V.err]]) (by simp [results, Tryd.results13, go_sem, r0, r1]) rfl ⟨_, by rw [unhide HRR, hv0], ?_, ?_⟩
      · rw [unhide HRR]
        exact ret_told ((unhide HT6).below (below_drewN (Below.refl _ _) 1)) _ _
      · exact ((unhide HM6).below (below_drewN (Below.refl _ _) 1)).ret _ _
  · clear HCA1
    go_simp
    have hS0 := hS
    have hb5 := alloc_below wr.drew (.cells #[.slice none 0 0, .int .i64 0] WrT)
    refine hK _ _ (fun _ => S7.keep hS hb5) ?_
    replace hS := S7.keep hS hb5
    clear hK K' hb5
    try simp only [List.getElem_toArray, List.getElem_cons_succ, List.getElem_cons_zero, Act.put, List.setIfInBounds_toArray, List.set_cons_zero, List.set_cons_succ]
    refine anyE_ready [6] (by kernel_rfl) (by simp) (ReadyE.cons rfl (fun K' hK => ?_) ReadyE.nil)
    go_simp
    refine (unhide HCB1).mono ?_
    rintro ev w5 ⟨g, rfl, htd, hb5⟩
    obtain ⟨ga, gn, gc, rfl⟩ := told_shape htd
    dsimp only
    refine hK _ w5 (fun _ => S7.keep hS hb5) ?_
    replace hS := S7.keep hS hb5
    clear hK K' HCB1
    try simp only [List.getElem_toArray, List.getElem_cons_succ, List.getElem_cons_zero, Act.put, List.setIfInBounds_toArray, List.set_cons_zero, List.set_cons_succ]
    have p0 : w5.cell? ⟨wr.heap.size, 0, none⟩ = some (.slice none 0 0) := (hb5.cell (p := ⟨wr.heap.size, 0, none⟩) (by simp)).trans (wr_al0 (wr.drewN 1))
    have p1 : w5.cell? ⟨wr.heap.size, 1, none⟩ = some (.int .i64 0) := (hb5.cell (p := ⟨wr.heap.size, 1, none⟩) (by simp)).trans (wr_al1 (wr.drewN 1))
    have pf : ∀ o, w5.frozen? ⟨wr.heap.size, o, none⟩ = false := fun o => (hb5.frozen (p := ⟨wr.heap.size, o, none⟩) (by simp)).trans (wr_alf (wr.drewN 1) o)
    have HB5 := hide hb5
    have HTD := hide htd
    clear hb5 htd
    refine anyE_take 7 (v := ?_) rfl (by kernel_rfl) (by kernel_rfl) (by kernel_rfl) (by kernel_rfl) (fun _ _ _ h => h) hS (Or.inl ⟨by rfl, ?_⟩) ?_
    rotate_left
    · intro w' hS'
      obtain ⟨e0, e1, e2, e4, e5, e6, e7⟩ := hS'
      go_simp
      try with_reducible rfl
    try simp only [List.getElem_toArray, List.getElem_cons_succ, List.getElem_cons_zero, Act.put, List.setIfInBounds_toArray, List.set_cons_zero, List.set_cons_succ]
    refine anyE_take 8 (v := ?_) rfl (by kernel_rfl) (by kernel_rfl) (by kernel_rfl) (by kernel_rfl) (fun _ _ _ h => h) hS (Or.inl ⟨by rfl, ?_⟩) ?_
    rotate_left
    · intro w' hS'
      obtain ⟨e0, e1, e2, e4, e5, e6, e7⟩ := hS'
      go_simp
      try with_reducible rfl
    try simp only [List.getElem_toArray, List.getElem_cons_succ, List.getElem_cons_zero, Act.put, List.setIfInBounds_toArray, List.set_cons_zero, List.set_cons_succ]
    refine anyE_take 9 (v := ?_) rfl (by kernel_rfl) (by kernel_rfl) (by kernel_rfl) (by kernel_rfl) (fun _ _ _ h => h) hS (Or.inl ⟨by rfl, ?_⟩) ?_
    rotate_left
    · intro w' hS'
      obtain ⟨e0, e1, e2, e4, e5, e6, e7⟩ := hS'
      go_simp
      try with_reducible rfl
    try simp only [List.getElem_toArray, List.getElem_cons_succ, List.getElem_cons_zero, Act.put, List.setIfInBounds_toArray, List.set_cons_zero, List.set_cons_succ]
    refine anyE_take 11 (v := ?_) rfl (by kernel_rfl) (by kernel_rfl) (by kernel_rfl) (by kernel_rfl) (fun _ _ _ h => h) hS (Or.inl ⟨by rfl, ?_⟩) ?_
    rotate_left
    · intro w' hS'
      obtain ⟨e0, e1, e2, e4, e5, e6, e7⟩ := hS'
      go_simp
      try with_reducible rfl
    try simp only [List.getElem_toArray, List.getElem_cons_succ, List.getElem_cons_zero, Act.put, List.setIfInBounds_toArray, List.set_cons_zero, List.set_cons_succ]
    refine anyE_ready [12] (by kernel_rfl) (by simp) (ReadyE.cons rfl (fun K' hK => ?_) ReadyE.nil)
    go_simp
    have hB6 : Below wr.heap.size wr.drew ((w5.setCell ⟨wr.heap.size, 0, none⟩ (.slice ga gn gc)).setCell ⟨wr.heap.size, 1, none⟩ (.int .i64 V.err)) := ((bthen (alloc_below wr.drew (.cells #[.slice none 0 0, .int .i64 0] WrT)) (unhide HB5)).setCell (p := ⟨wr.heap.size, 0, none⟩) (Nat.le_refl _) _).setCell (p := ⟨wr.heap.size, 1, none⟩) (Nat.le_refl _) _
    refine hK _ _ (fun _ => S7.keep hS0 hB6) ?_
    clear hK K'
    try simp only [List.getElem_toArray, List.getElem_cons_succ, List.getElem_cons_zero, Act.put, List.setIfInBounds_toArray, List.set_cons_zero, List.set_cons_succ]
    refine anyE_done (by kernel_rfl) ?_ _
    have HB6 := hide (bthen (below_drewN (Below.refl _ _) 1 : Below wr.heap.size wr (wr.drewN 1)) hB6)
    have HT6 := hide (told_below (B' := w.heap.size + 3) (told_set (told_set (unhide HTD) ⟨wr.heap.size, 0, none⟩ (by simp) (.slice ga gn gc)) ⟨wr.heap.size, 1, none⟩ (by simp) (.int .i64 V.err)) (by simp; omega))
    have d0 : ((w5.setCell ⟨wr.heap.size, 0, none⟩ (.slice ga gn gc)).setCell ⟨wr.heap.size, 1, none⟩ (.int .i64 V.err)).cell? ⟨wr.heap.size, 0, none⟩ = some (.slice ga gn gc) := by simp [go_sem, p0]
    have d1 : ((w5.setCell ⟨wr.heap.size, 0, none⟩ (.slice ga gn gc)).setCell ⟨wr.heap.size, 1, none⟩ (.int .i64 V.err)).cell? ⟨wr.heap.size, 1, none⟩ = some (.int .i64 V.err) := by simp [go_sem, p1]
    clear hB6 HB5 HTD hS hS0 p0 p1 pf
    generalize ((w5.setCell ⟨wr.heap.size, 0, none⟩ (.slice ga gn gc)).setCell ⟨wr.heap.size, 1, none⟩ (.int .i64 V.err)) = W6 at *
    have HM6 := hide ((unhide HMr).below (unhide HB6))
    clear HMr HB6
    generalize wr.heap.size = bx at *
    have r0 := (unhide HM6).r0
    have r1 := (unhide HM6).r1
    have f0 := (unhide HM6).f0
    have f1 := (unhide HM6).f1
    have e0 : W6.cell? ⟨w.heap.size + 1, 0, none⟩ = some (.int .i64 4) := by rw [(unhide HM6).e0, unhide HK]
    by_cases herr : V.err = 0
    · have d1' : W6.cell? ⟨bx, 1, none⟩ = some (.int .i64 0) := by rw [d1, herr]; rfl
      have HRR := hide (unhide HG herr)
      clear d0 d1 HG HB
      go_wp2_with fail
      refine bodyPost_ret (v := .tuple #[.int .i64 (wrap64 (-V.v)), .agg #[.slice none 0 0, .int .i64 0]]) (by simp [results, Tryd.results13, go_sem, r0, r1]) rfl ⟨_, by rw [unhide HRR]; rfl, by rw [unhide HRR]; exact .inl ⟨rfl, rfl⟩, (unhide HM6).ret _ _⟩
    · have hne : ¬ ((V.err : Nat) : Int) = 0 := by omega
      have HRR := hide (unhide HB herr)
      have hv0 := unhide HEZ herr
      clear HG HB
      go_wp2_with fail
      go_region
      go_wp2_with fail
      refine bodyPost_ret (v := .tuple #[.int .i64 0, .agg #[.slice ga gn gc, .int .i64 V.err]]) (by simp [results, Tryd.results13, go_sem, r0, r1]) rfl ⟨_, by rw [unhide HRR, hv0], ?_, ?_⟩
      · rw [unhide HRR]
        exact ret_told ((unhide HT6).below (below_drewN (Below.refl _ _) 1)) _ _
      · exact ((unhide HM6).below (below_drewN (Below.refl _ _) 1)).ret _ _
end Go.Proofs.YtomnbidppkpfiaaDoor.Line
