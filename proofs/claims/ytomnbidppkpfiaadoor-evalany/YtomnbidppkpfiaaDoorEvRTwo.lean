/- The contract of the reference's Eval: sums, differences, products and quotients; and at any right tree. -/
import Derived.Test.YtomnbidppkpfiaaDoorEvREval
namespace Go.Proofs.YtomnbidppkpfiaaDoor.Line
open Go.ChangeShapes Go.WideShapes Go.ChangeAt Go.RowKit
open Ex (E)
open Ev (Sy Res)
set_option linter.unusedVariables false

theorem ev_two (T : List Sy) (s : List Int) (x z y : E) (hk : x.kind = 5 ∨ x.kind = 6 ∨ x.kind = 7 ∨ x.kind = 8) (ha : x.a = [z, y]) : ((Ev.ev T s z).err ≠ 0 → Ev.ev T s x = Ev.ev T s z) ∧ ((Ev.ev T s z).err = 0 → (Ev.ev T s y).err ≠ 0 → Ev.ev T s x = Ev.ev T s y) ∧ ((Ev.ev T s z).err = 0 → (Ev.ev T s y).err = 0 → (x.kind = 5 → Ev.ev T s x = .ok (wrap64 ((Ev.ev T s z).v + (Ev.ev T s y).v))) ∧ (x.kind = 6 → Ev.ev T s x = .ok (wrap64 ((Ev.ev T s z).v - (Ev.ev T s y).v))) ∧ (x.kind = 7 → Ev.ev T s x = .ok (wrap64 ((Ev.ev T s z).v * (Ev.ev T s y).v))) ∧ (x.kind = 8 → Ev.ev T s x = Ev.quoP (Ev.ev T s z).v (Ev.ev T s y).v)) := by
  have hp : Ev.parts x = [z, y] := by unfold Ev.parts; rw [if_pos (by omega), ha]
  rw [Ev.ev_eq T s x, hp]
  refine ⟨fun h => ?_, fun h h2 => ?_, fun h h2 => ?_⟩
  · rw [Ev.evs, if_pos h]
  · rw [Ev.evs, if_neg (by omega), Ev.evs, if_pos h2]
  · rw [Ev.evs, if_neg (by omega), Ev.evs, if_neg (by omega), Ev.evs]
    refine ⟨fun k => ?_, fun k => ?_, fun k => ?_, fun k => ?_⟩ <;>
      (show Ev.valP T s x [(Ev.ev T s z).v, (Ev.ev T s y).v] = _; unfold Ev.valP; simp only [k]; rfl)
set_option maxHeartbeats 16000000 in
set_option maxRecDepth 100000 in
theorem reval_two (T : List Sy) (s : List Int) (x z y : E) (hk : x.kind = 5 ∨ x.kind = 6 ∨ x.kind = 7 ∨ x.kind = 8) (ha : x.a = [z, y]) (hq : REvalOk T s z) (hq2 : REvalOk T s y) : REvalOk T s x := by
  intro w sv c stv sx hs hst hx
  obtain ⟨hb1, hb2, hg⟩ := ev_two T s x z y hk ha
  have hx1 : x.a.length = 2 := by rw [ha]; rfl
  have HM := hide (EM.start w sv c x sx)
  have HAL := hide (And.intro hs hst)
  have hz0 : x.a[0]'(by omega) = z := by simp [ha]
  have hz1 : x.a[1]'(by omega) = y := by simp [ha]
  have HF := hide (hx.old (EM.start w sv c x sx).old)
  obtain ⟨xb, xo, xc, sl, hv, hc1, hc2, hcl, hfs⟩ := (unhide HF).at (by omega)
  subst hv
  obtain ⟨c0, c1, c2, c3⟩ := hcl 0 (by omega)
  obtain ⟨c4, c5, c6, c7⟩ := hcl 1 (by omega)
  rw [hz0] at c0 c1 c2
  rw [hz1] at c4 c5 c6
  have hf0 := hfs 0 (by omega)
  have hf1 := hfs 1 (by omega)
  rw [hz0] at hf0
  rw [hz1] at hf1
  rw [Nat.zero_mul, Nat.add_zero] at c0 c1 c2 c3
  rw [Nat.one_mul] at c4 c5 c6 c7
  have HFI := hide hf0
  have HFB := hide hf1
  have HC4 := hide c4
  have HC5 := hide c5
  have HC6' := hide c6
  have HC7 := hide c7
  have HG0 := hide hg
  have HB1 := hide hb1
  have HB2 := hide hb2
  have hn1 : ¬ x.kind = 1 := by omega
  have hn2 : ¬ x.kind = 2 := by omega
  have hn3 : ¬ x.kind = 3 := by omega
  have hn4 : ¬ x.kind = 4 := by omega
  have hm1 : (x.kind == 1) = false := by simp [hn1]
  have hm2 : (x.kind == 2) = false := by simp [hn2]
  have hm3 : (x.kind == 3) = false := by simp [hn3]
  have hm4 : (x.kind == 4) = false := by simp [hn4]
  have HKK := hide hk
  have HQ := hide (show (∀ (w : World) (sv : Value) (c : Int) (stv sx : Value), Syms w sv T → Ints w stv s → Forest w (fun _ => True) z.a sx → Calls Tryd.prog 13 #[.agg #[sv, .int .i64 c], stv, treeV z sx] w fun e w' => ∃ g, e = .returned (.tuple #[.int .i64 (Ev.ev T s z).v, g]) ∧ Told w.heap.size w' g (Ev.ev T s z).word (Ev.ev T s z).at_ (Ev.ev T s z).err ∧ Below w.heap.size w w') from hq)
  have HQ2 := hide (show (∀ (w : World) (sv : Value) (c : Int) (stv sx : Value), Syms w sv T → Ints w stv s → Forest w (fun _ => True) y.a sx → Calls Tryd.prog 13 #[.agg #[sv, .int .i64 c], stv, treeV y sx] w fun e w' => ∃ g, e = .returned (.tuple #[.int .i64 (Ev.ev T s y).v, g]) ∧ Told w.heap.size w' g (Ev.ev T s y).word (Ev.ev T s y).at_ (Ev.ev T s y).err ∧ Below w.heap.size w w') from hq2)
  have HEZ := hide (Ev.ev_zero T s z)
  have HEY := hide (Ev.ev_zero T s y)
  obtain ⟨sa, sc, rfl⟩ := hs.shape
  obtain ⟨ta, tc, rfl⟩ := hst.shape
  clear hs hst hx hb1 hb2 hg hq hq2 hk hz0 hz1 HF hcl hfs hf0 hf1 ha c4 c5 c6 c7
  generalize Ev.ev T s x = R at *
  generalize Ev.ev T s z = V at *
  generalize Ev.ev T s y = V2 at *
  generalize T.length = tn at *
  generalize s.length = sn at *
  generalize x.a.length = xn at *
  generalize sl 0 = zv at *
  generalize sl 1 = yv at *
  have hlt : 0 < xn := by omega
  have hlt2 : (0 : Int) < xn := by omega
  have hlt3 : 1 < xn := by omega
  have hlt4 : (1 : Int) < xn := by omega
  clear hx1
  go_enter Tryd.func13, Tryd.ntmps13
  go_upto_region 1 with fail
  generalize (((w.alloc (.cells #[.slice sa tn sc, .int .i64 c] RTb)).alloc (.cells #[.int .i64 x.kind, .int .i64 x.n, .string ⟨x.name.toArray⟩, .slice (some ⟨xb, xo, none⟩) xn xc] ET)).alloc (.cells #[.slice none 0 0, .int .i64 0] WrT)) = wr at *
  have e0 := (unhide HM).e0
  go_upto_region 10 with fail
  clear e0
  have HMr := HM
  have hwr := (unhide HMr).sz
  have HCA1 := hide (unhide HQ (wr.drewN 1) (.slice sa tn sc) c (.slice ta sn tc) zv ((unhide HAL).1.below (below_drewN (unhide HMr).old 1)) ((unhide HAL).2.below (below_drewN (unhide HMr).old 1)) ((unhide HFI).old (below_drewN (Below.refl _ _) 1)))
  have HCB1 := hide (unhide HQ ((wr.drewN 1).alloc (.cells #[.slice none 0 0, .int .i64 0] WrT)) (.slice sa tn sc) c (.slice ta sn tc) zv ((unhide HAL).1.below (bthen (below_drewN (unhide HMr).old 1) (alloc_below _ _))) ((unhide HAL).2.below (bthen (below_drewN (unhide HMr).old 1) (alloc_below _ _))) ((unhide HFI).old (bthen (below_drewN (Below.refl _ _) 1) (alloc_below _ _))))
  refine wp_regionE (S7 w (.slice sa tn sc) c (.slice (some ⟨xb, xo, none⟩) xn xc) xb (xo) z zv) (fun j => decide (j < 12)) (by kernel_rfl) ⟨(unhide HMr).t0, (unhide HMr).t1, (unhide HMr).e3, c0, c1, c2, c3⟩ (fun hS => ?_)
  clear c0 c1 c2 c3
  refine anyE_take 0 (v := ?_) rfl (by kernel_rfl) (by kernel_rfl) (by kernel_rfl) (by kernel_rfl) (fun _ _ _ h => h) hS (Or.inl ⟨by rfl, ?_⟩) ?_
  rotate_left
  · intro w' hS'
    obtain ⟨e0, e1, e2, e4, e5, e6, e7⟩ := hS'
    go_simp
    try with_reducible rfl
  try simp only [List.getElem_toArray, List.getElem_cons_zero, Act.put, List.setIfInBounds_toArray, List.set_cons_zero, List.set_cons_succ]
  refine anyE_take 1 (v := ?_) rfl (by kernel_rfl) (by kernel_rfl) (by kernel_rfl) (by kernel_rfl) (fun _ _ _ h => h) hS (Or.inl ⟨by rfl, ?_⟩) ?_
  rotate_left
  · intro w' hS'
    obtain ⟨e0, e1, e2, e4, e5, e6, e7⟩ := hS'
    go_simp
    try with_reducible rfl
  try simp only [List.getElem_toArray, List.getElem_cons_succ, List.getElem_cons_zero, Act.put, List.setIfInBounds_toArray, List.set_cons_zero, List.set_cons_succ]
  refine anyE_take 2 (v := ?_) rfl (by kernel_rfl) (by kernel_rfl) (by kernel_rfl) (by kernel_rfl) (fun _ _ _ h => h) hS (Or.inl ⟨by rfl, ?_⟩) ?_
  rotate_left
  · intro w' hS'
    obtain ⟨e0, e1, e2, e4, e5, e6, e7⟩ := hS'
    go_simp
    try with_reducible rfl
  try simp only [List.getElem_toArray, List.getElem_cons_succ, List.getElem_cons_zero, Act.put, List.setIfInBounds_toArray, List.set_cons_zero, List.set_cons_succ]
  refine anyE_take 3 (v := ?_) rfl (by kernel_rfl) (by kernel_rfl) (by kernel_rfl) (by kernel_rfl) (fun _ _ _ h => h) hS (Or.inl ⟨by rfl, ?_⟩) ?_
  rotate_left
  · intro w' hS'
    obtain ⟨e0, e1, e2, e4, e5, e6, e7⟩ := hS'
    go_simp
    try with_reducible rfl
  try simp only [List.getElem_toArray, List.getElem_cons_succ, List.getElem_cons_zero, Act.put, List.setIfInBounds_toArray, List.set_cons_zero, List.set_cons_succ]
  refine anyE_take 4 (v := ?_) rfl (by kernel_rfl) (by kernel_rfl) (by kernel_rfl) (by kernel_rfl) (fun _ _ _ h => h) hS (Or.inl ⟨by rfl, ?_⟩) ?_
  rotate_left
  · intro w' hS'
    obtain ⟨e0, e1, e2, e4, e5, e6, e7⟩ := hS'
    go_simp
    try with_reducible rfl
  try simp only [List.getElem_toArray, List.getElem_cons_succ, List.getElem_cons_zero, Act.put, List.setIfInBounds_toArray, List.set_cons_zero, List.set_cons_succ]
  refine anyE_take 5 (v := ?_) rfl (by kernel_rfl) (by kernel_rfl) (by kernel_rfl) (by kernel_rfl) (fun _ _ _ h => h) hS (Or.inl ⟨by rfl, ?_⟩) ?_
  rotate_left
  · intro w' hS'
    obtain ⟨e0, e1, e2, e4, e5, e6, e7⟩ := hS'
    go_simp
    try with_reducible rfl
  try simp only [List.getElem_toArray, List.getElem_cons_succ, List.getElem_cons_zero, Act.put, List.setIfInBounds_toArray, List.set_cons_zero, List.set_cons_succ]
  refine anyE_ready [6, 10] (by kernel_rfl) (by simp) (ReadyE.cons rfl (fun K' hK => ?_) (ReadyE.cons rfl (fun K' hK => ?_) ReadyE.nil))
  · clear HCB1
    go_simp
    refine (unhide HCA1).mono ?_
    rintro ev w5 ⟨g, rfl, htd, hb5⟩
    obtain ⟨ga, gn, gc, rfl⟩ := told_shape htd
    dsimp only
    refine hK _ w5 (fun _ => S7.keep hS hb5) ?_
    replace hS := S7.keep hS hb5
    clear hK K' HCA1
    try simp only [List.getElem_toArray, List.getElem_cons_succ, List.getElem_cons_zero, Act.put, List.setIfInBounds_toArray, List.set_cons_zero, List.set_cons_succ]
    have HB5 := hide hb5
    have HTD := hide htd
    clear hb5 htd
    refine anyE_take 7 (v := ?_) rfl (by kernel_rfl) (by kernel_rfl) (by kernel_rfl) (by kernel_rfl) (fun _ _ _ h => h) hS (Or.inl ⟨by rfl, ?_⟩) ?_
    rotate_left
    · intro w' hS'
      obtain ⟨e0, e1, e2, e4, e5, e6, e7⟩ := hS'
      go_simp
      try with_reducible rfl
    try simp only [List.getElem_toArray, List.getElem_cons_succ, List.getElem_cons_zero, Act.put, List.setIfInBounds_toArray, List.set_cons_zero, List.set_cons_succ]
    refine anyE_take 8 (v := ?_) rfl (by kernel_rfl) (by kernel_rfl) (by kernel_rfl) (by kernel_rfl) (fun _ _ _ h => h) hS (Or.inl ⟨by rfl, ?_⟩) ?_
    rotate_left
    · intro w' hS'
      obtain ⟨e0, e1, e2, e4, e5, e6, e7⟩ := hS'
      go_simp
      try with_reducible rfl
    try simp only [List.getElem_toArray, List.getElem_cons_succ, List.getElem_cons_zero, Act.put, List.setIfInBounds_toArray, List.set_cons_zero, List.set_cons_succ]
    refine anyE_take 9 (v := ?_) rfl (by kernel_rfl) (by kernel_rfl) (by kernel_rfl) (by kernel_rfl) (fun _ _ _ h => h) hS (Or.inl ⟨by rfl, ?_⟩) ?_
    rotate_left
    · intro w' hS'
      obtain ⟨e0, e1, e2, e4, e5, e6, e7⟩ := hS'
      go_simp
      try with_reducible rfl
    try simp only [List.getElem_toArray, List.getElem_cons_succ, List.getElem_cons_zero, Act.put, List.setIfInBounds_toArray, List.set_cons_zero, List.set_cons_succ]
    refine anyE_ready [10] (by kernel_rfl) (by simp) (ReadyE.cons rfl (fun K' hK => ?_) ReadyE.nil)
    go_simp
    have hS0 := hS
    have hb5 := alloc_below w5 (.cells #[.slice none 0 0, .int .i64 0] WrT)
    refine hK _ _ (fun _ => S7.keep hS hb5) ?_
    replace hS := S7.keep hS hb5
    clear hK K' hb5
    try simp only [List.getElem_toArray, List.getElem_cons_succ, List.getElem_cons_zero, Act.put, List.setIfInBounds_toArray, List.set_cons_zero, List.set_cons_succ]
    refine anyE_take 11 (v := ?_) rfl (by kernel_rfl) (by kernel_rfl) (by kernel_rfl) (by kernel_rfl) (fun _ _ _ h => h) hS (Or.inl ⟨by rfl, ?_⟩) ?_
    rotate_left
    · intro w' hS'
      obtain ⟨e0, e1, e2, e4, e5, e6, e7⟩ := hS'
      go_simp
      try with_reducible rfl
    try simp only [List.getElem_toArray, List.getElem_cons_succ, List.getElem_cons_zero, Act.put, List.setIfInBounds_toArray, List.set_cons_zero, List.set_cons_succ]
    refine anyE_ready [12] (by kernel_rfl) (by simp) (ReadyE.cons rfl (fun K' hK => ?_) ReadyE.nil)
    go_simp
    have hB6 := alloc_below w5 (.cells #[.slice ga gn gc, .int .i64 V.err] WrT)
    refine hK _ _ (fun _ => S7.keep hS0 hB6) ?_
    clear hK K'
    try simp only [List.getElem_toArray, List.getElem_cons_succ, List.getElem_cons_zero, Act.put, List.setIfInBounds_toArray, List.set_cons_zero, List.set_cons_succ]
    refine anyE_done (by kernel_rfl) ?_ _
    have HB6 := hide (bthen (below_drewN (Below.refl _ _) 1 : Below wr.heap.size wr (wr.drewN 1)) (bthen (unhide HB5) hB6))
    have HT6 := hide (told_below (B' := w.heap.size + 3) ((unhide HTD).below hB6) (by show _ ≤ wr.heap.size; omega))
    have d0 : (w5.alloc (.cells #[.slice ga gn gc, .int .i64 V.err] WrT)).cell? ⟨w5.heap.size, 0, none⟩ = some (.slice ga gn gc) := by simp [go_sem]
    have d1 : (w5.alloc (.cells #[.slice ga gn gc, .int .i64 V.err] WrT)).cell? ⟨w5.heap.size, 1, none⟩ = some (.int .i64 V.err) := by simp [go_sem]
    clear hB6 HB5 HTD hS hS0
    have HC6 := hide (unhide HB6)
    generalize (w5.alloc (.cells #[.slice ga gn gc, .int .i64 V.err] WrT)) = W6 at *
    have HM6 := hide ((unhide HMr).below (unhide HB6))
    have HFI2 := hide ((unhide HFB).old (unhide HB6))
    have c4 := ((unhide HB6).cell (p := ⟨xb, xo + 4, none⟩) (cell_lt (unhide HC4))).trans (unhide HC4)
    have c5 := ((unhide HB6).cell (p := ⟨xb, xo + 4 + 1, none⟩) (cell_lt (unhide HC5))).trans (unhide HC5)
    have c6 := ((unhide HB6).cell (p := ⟨xb, xo + 4 + 2, none⟩) (cell_lt (unhide HC6'))).trans (unhide HC6')
    have c7 := ((unhide HB6).cell (p := ⟨xb, xo + 4 + 3, none⟩) (cell_lt (unhide HC7))).trans (unhide HC7)
    clear HMr HB6 HC6
    generalize w5.heap.size = bx at *
    by_cases herr : V.err = 0
    · have d1' : W6.cell? ⟨bx, 1, none⟩ = some (.int .i64 0) := by rw [d1, herr]; rfl
      have HBY := hide (unhide HB2 herr)
      have HG := hide (unhide HG0 herr)
      have e0 := (unhide HM6).e0
      clear d0 d1 HB2 HB1 HG0 HT6
      go_upto_region 15 with fail
      clear e0 d1'
      have hwr2 := (unhide HM6).sz
      have HCA1 := hide (unhide HQ2 (W6.drewN 1) (.slice sa tn sc) c (.slice ta sn tc) yv ((unhide HAL).1.below (below_drewN (unhide HM6).old 1)) ((unhide HAL).2.below (below_drewN (unhide HM6).old 1)) ((unhide HFI2).old (below_drewN (Below.refl _ _) 1)))
      have HCB1 := hide (unhide HQ2 ((W6.drewN 1).alloc (.cells #[.slice none 0 0, .int .i64 0] WrT)) (.slice sa tn sc) c (.slice ta sn tc) yv ((unhide HAL).1.below (bthen (below_drewN (unhide HM6).old 1) (alloc_below _ _))) ((unhide HAL).2.below (bthen (below_drewN (unhide HM6).old 1) (alloc_below _ _))) ((unhide HFI2).old (bthen (below_drewN (Below.refl _ _) 1) (alloc_below _ _))))
      refine wp_regionE (S7 w (.slice sa tn sc) c (.slice (some ⟨xb, xo, none⟩) xn xc) xb (xo + 4) y yv) (fun j => decide (j < 12)) (by kernel_rfl) ⟨(unhide HM6).t0, (unhide HM6).t1, (unhide HM6).e3, c4, c5, c6, c7⟩ (fun hS => ?_)
      clear c4 c5 c6 c7
      refine anyE_take 0 (v := ?_) rfl (by kernel_rfl) (by kernel_rfl) (by kernel_rfl) (by kernel_rfl) (fun _ _ _ h => h) hS (Or.inl ⟨by rfl, ?_⟩) ?_
      rotate_left
      · intro w' hS'
        obtain ⟨e0, e1, e2, e4, e5, e6, e7⟩ := hS'
        go_simp
        try with_reducible rfl
      try simp only [List.getElem_toArray, List.getElem_cons_zero, Act.put, List.setIfInBounds_toArray, List.set_cons_zero, List.set_cons_succ]
      refine anyE_take 1 (v := ?_) rfl (by kernel_rfl) (by kernel_rfl) (by kernel_rfl) (by kernel_rfl) (fun _ _ _ h => h) hS (Or.inl ⟨by rfl, ?_⟩) ?_
      rotate_left
      · intro w' hS'
        obtain ⟨e0, e1, e2, e4, e5, e6, e7⟩ := hS'
        go_simp
        try with_reducible rfl
      try simp only [List.getElem_toArray, List.getElem_cons_succ, List.getElem_cons_zero, Act.put, List.setIfInBounds_toArray, List.set_cons_zero, List.set_cons_succ]
      refine anyE_take 2 (v := ?_) rfl (by kernel_rfl) (by kernel_rfl) (by kernel_rfl) (by kernel_rfl) (fun _ _ _ h => h) hS (Or.inl ⟨by rfl, ?_⟩) ?_
      rotate_left
      · intro w' hS'
        obtain ⟨e0, e1, e2, e4, e5, e6, e7⟩ := hS'
        go_simp
        try with_reducible rfl
      try simp only [List.getElem_toArray, List.getElem_cons_succ, List.getElem_cons_zero, Act.put, List.setIfInBounds_toArray, List.set_cons_zero, List.set_cons_succ]
      refine anyE_take 3 (v := ?_) rfl (by kernel_rfl) (by kernel_rfl) (by kernel_rfl) (by kernel_rfl) (fun _ _ _ h => h) hS (Or.inl ⟨by rfl, ?_⟩) ?_
      rotate_left
      · intro w' hS'
        obtain ⟨e0, e1, e2, e4, e5, e6, e7⟩ := hS'
        go_simp
        try with_reducible rfl
      try simp only [List.getElem_toArray, List.getElem_cons_succ, List.getElem_cons_zero, Act.put, List.setIfInBounds_toArray, List.set_cons_zero, List.set_cons_succ]
      refine anyE_take 4 (v := ?_) rfl (by kernel_rfl) (by kernel_rfl) (by kernel_rfl) (by kernel_rfl) (fun _ _ _ h => h) hS (Or.inl ⟨by rfl, ?_⟩) ?_
      rotate_left
      · intro w' hS'
        obtain ⟨e0, e1, e2, e4, e5, e6, e7⟩ := hS'
        go_simp
        try with_reducible rfl
      try simp only [List.getElem_toArray, List.getElem_cons_succ, List.getElem_cons_zero, Act.put, List.setIfInBounds_toArray, List.set_cons_zero, List.set_cons_succ]
      refine anyE_take 5 (v := ?_) rfl (by kernel_rfl) (by kernel_rfl) (by kernel_rfl) (by kernel_rfl) (fun _ _ _ h => h) hS (Or.inl ⟨by rfl, ?_⟩) ?_
      rotate_left
      · intro w' hS'
        obtain ⟨e0, e1, e2, e4, e5, e6, e7⟩ := hS'
        go_simp
        try with_reducible rfl
      try simp only [List.getElem_toArray, List.getElem_cons_succ, List.getElem_cons_zero, Act.put, List.setIfInBounds_toArray, List.set_cons_zero, List.set_cons_succ]
      refine anyE_ready [6, 10] (by kernel_rfl) (by simp) (ReadyE.cons rfl (fun K' hK => ?_) (ReadyE.cons rfl (fun K' hK => ?_) ReadyE.nil))
      · clear HCB1
        go_simp
        refine (unhide HCA1).mono ?_
        rintro ev w5 ⟨g, rfl, htd, hb5⟩
        obtain ⟨ga, gn, gc, rfl⟩ := told_shape htd
        dsimp only
        refine hK _ w5 (fun _ => S7.keep hS hb5) ?_
        replace hS := S7.keep hS hb5
        clear hK K' HCA1
        try simp only [List.getElem_toArray, List.getElem_cons_succ, List.getElem_cons_zero, Act.put, List.setIfInBounds_toArray, List.set_cons_zero, List.set_cons_succ]
        have HB5 := hide hb5
        have HTD := hide htd
        clear hb5 htd
        refine anyE_take 7 (v := ?_) rfl (by kernel_rfl) (by kernel_rfl) (by kernel_rfl) (by kernel_rfl) (fun _ _ _ h => h) hS (Or.inl ⟨by rfl, ?_⟩) ?_
        rotate_left
        · intro w' hS'
          obtain ⟨e0, e1, e2, e4, e5, e6, e7⟩ := hS'
          go_simp
          try with_reducible rfl
        try simp only [List.getElem_toArray, List.getElem_cons_succ, List.getElem_cons_zero, Act.put, List.setIfInBounds_toArray, List.set_cons_zero, List.set_cons_succ]
        refine anyE_take 8 (v := ?_) rfl (by kernel_rfl) (by kernel_rfl) (by kernel_rfl) (by kernel_rfl) (fun _ _ _ h => h) hS (Or.inl ⟨by rfl, ?_⟩) ?_
        rotate_left
        · intro w' hS'
          obtain ⟨e0, e1, e2, e4, e5, e6, e7⟩ := hS'
          go_simp
          try with_reducible rfl
        try simp only [List.getElem_toArray, List.getElem_cons_succ, List.getElem_cons_zero, Act.put, List.setIfInBounds_toArray, List.set_cons_zero, List.set_cons_succ]
        refine anyE_take 9 (v := ?_) rfl (by kernel_rfl) (by kernel_rfl) (by kernel_rfl) (by kernel_rfl) (fun _ _ _ h => h) hS (Or.inl ⟨by rfl, ?_⟩) ?_
        rotate_left
        · intro w' hS'
          obtain ⟨e0, e1, e2, e4, e5, e6, e7⟩ := hS'
          go_simp
          try with_reducible rfl
        try simp only [List.getElem_toArray, List.getElem_cons_succ, List.getElem_cons_zero, Act.put, List.setIfInBounds_toArray, List.set_cons_zero, List.set_cons_succ]
        refine anyE_ready [10] (by kernel_rfl) (by simp) (ReadyE.cons rfl (fun K' hK => ?_) ReadyE.nil)
        go_simp
        have hS0 := hS
        have hb5 := alloc_below w5 (.cells #[.slice none 0 0, .int .i64 0] WrT)
        refine hK _ _ (fun _ => S7.keep hS hb5) ?_
        replace hS := S7.keep hS hb5
        clear hK K' hb5
        try simp only [List.getElem_toArray, List.getElem_cons_succ, List.getElem_cons_zero, Act.put, List.setIfInBounds_toArray, List.set_cons_zero, List.set_cons_succ]
        refine anyE_take 11 (v := ?_) rfl (by kernel_rfl) (by kernel_rfl) (by kernel_rfl) (by kernel_rfl) (fun _ _ _ h => h) hS (Or.inl ⟨by rfl, ?_⟩) ?_
        rotate_left
        · intro w' hS'
          obtain ⟨e0, e1, e2, e4, e5, e6, e7⟩ := hS'
          go_simp
          try with_reducible rfl
        try simp only [List.getElem_toArray, List.getElem_cons_succ, List.getElem_cons_zero, Act.put, List.setIfInBounds_toArray, List.set_cons_zero, List.set_cons_succ]
        refine anyE_ready [12] (by kernel_rfl) (by simp) (ReadyE.cons rfl (fun K' hK => ?_) ReadyE.nil)
        go_simp
        have hB7 := alloc_below w5 (.cells #[.slice ga gn gc, .int .i64 V2.err] WrT)
        refine hK _ _ (fun _ => S7.keep hS0 hB7) ?_
        clear hK K'
        try simp only [List.getElem_toArray, List.getElem_cons_succ, List.getElem_cons_zero, Act.put, List.setIfInBounds_toArray, List.set_cons_zero, List.set_cons_succ]
        refine anyE_done (by kernel_rfl) ?_ _
        have HB7 := hide (bthen (below_drewN (Below.refl _ _) 1 : Below W6.heap.size W6 (W6.drewN 1)) (bthen (unhide HB5) hB7))
        have HT7 := hide (told_below (B' := w.heap.size + 3) ((unhide HTD).below hB7) (by show _ ≤ W6.heap.size; omega))
        have d0 : (w5.alloc (.cells #[.slice ga gn gc, .int .i64 V2.err] WrT)).cell? ⟨w5.heap.size, 0, none⟩ = some (.slice ga gn gc) := by simp [go_sem]
        have d1 : (w5.alloc (.cells #[.slice ga gn gc, .int .i64 V2.err] WrT)).cell? ⟨w5.heap.size, 1, none⟩ = some (.int .i64 V2.err) := by simp [go_sem]
        clear hB7 HB5 HTD hS hS0
        generalize (w5.alloc (.cells #[.slice ga gn gc, .int .i64 V2.err] WrT)) = W7 at *
        have HM7 := hide ((unhide HM6).below (unhide HB7))
        clear HM6 HB7
        generalize w5.heap.size = bxx at *
        have r0 := (unhide HM7).r0
        have r1 := (unhide HM7).r1
        have f0 := (unhide HM7).f0
        have f1 := (unhide HM7).f1
        by_cases herr : V2.err = 0
        · have d1' : W7.cell? ⟨bxx, 1, none⟩ = some (.int .i64 0) := by rw [d1, herr]; rfl
          have HR := hide (unhide HG herr)
          have e0' := (unhide HM7).e0
          clear d0 d1 HG HBY
          rcases unhide HKK with hk | hk | hk | hk
          · have e0 : W7.cell? ⟨w.heap.size + 1, 0, none⟩ = some (.int .i64 5) := by rw [e0', hk]
            have HRR := hide ((unhide HR).1 hk)
            clear e0' hk HR HKK
            go_wp2_with fail
            refine bodyPost_ret (v := .tuple #[.int .i64 (wrap64 (V.v + V2.v)), .agg #[.slice none 0 0, .int .i64 0]]) (by simp [results, Tryd.results13, go_sem, r0, r1]) rfl ⟨_, by rw [unhide HRR]; rfl, by rw [unhide HRR]; exact .inl ⟨rfl, rfl⟩, (unhide HM7).ret _ _⟩
          · have e0 : W7.cell? ⟨w.heap.size + 1, 0, none⟩ = some (.int .i64 6) := by rw [e0', hk]
            have HRR := hide ((unhide HR).2.1 hk)
            clear e0' hk HR HKK
            go_wp2_with fail
            refine bodyPost_ret (v := .tuple #[.int .i64 (wrap64 (V.v - V2.v)), .agg #[.slice none 0 0, .int .i64 0]]) (by simp [results, Tryd.results13, go_sem, r0, r1]) rfl ⟨_, by rw [unhide HRR]; rfl, by rw [unhide HRR]; exact .inl ⟨rfl, rfl⟩, (unhide HM7).ret _ _⟩
          · have e0 : W7.cell? ⟨w.heap.size + 1, 0, none⟩ = some (.int .i64 7) := by rw [e0', hk]
            have HRR := hide ((unhide HR).2.2.1 hk)
            clear e0' hk HR HKK
            go_wp2_with fail
            refine bodyPost_ret (v := .tuple #[.int .i64 (wrap64 (V.v * V2.v)), .agg #[.slice none 0 0, .int .i64 0]]) (by simp [results, Tryd.results13, go_sem, r0, r1]) rfl ⟨_, by rw [unhide HRR]; rfl, by rw [unhide HRR]; exact .inl ⟨rfl, rfl⟩, (unhide HM7).ret _ _⟩
          · have e0 : W7.cell? ⟨w.heap.size + 1, 0, none⟩ = some (.int .i64 8) := by rw [e0', hk]
            have HRR := hide ((unhide HR).2.2.2 hk)
            clear e0' hk HR HKK
            generalize V2.v = vb at *
            by_cases hb0 : vb = 0
            · subst hb0
              have HRQ := hide ((unhide HRR).trans (if_pos rfl : Ev.quoP V.v 0 = .bad Ev.wDiv 0 13))
              clear HRR
              have HAT := hide (at_any Ev.wDiv 0 13 W7)
              have HSZ := hide (unhide HM7).sz
              go_wp2_with (refine (unhide HAT).mono ?_; rintro ev w8 ⟨q8, rfl, hq8, u0, u1, hb8⟩; have HM9 := hide ((unhide HM7).below hb8); have r0 := (unhide HM9).r0; have r1 := (unhide HM9).r1; have f0 := (unhide HM9).f0; have f1 := (unhide HM9).f1; have HT8 := hide (show Told (w.heap.size + 3) w8 (.agg #[.slice (some ⟨q8, 0, none⟩) 1 1, .int .i64 (13 : Nat)]) Ev.wDiv 0 13 from .inr ⟨by decide, q8, by have h9 := unhide HSZ; have : W7.heap.size ≤ q8 := hq8; omega, rfl, u0, u1⟩); clear hb8 u0 u1 hq8)
              refine bodyPost_ret (v := .tuple #[.int .i64 0, .agg #[.slice (some ⟨q8, 0, none⟩) 1 1, .int .i64 (13 : Nat)]]) (by simp [results, Tryd.results13, go_sem, r0, r1]) rfl ⟨_, by rw [unhide HRQ]; rfl, ?_, ?_⟩
              · rw [unhide HRQ]
                exact ret_told (unhide HT8) _ _
              · exact (unhide HM9).ret _ _
            · by_cases hb1 : vb = -1
              · subst hb1
                have HRQ := hide ((unhide HRR).trans ((if_neg (by decide) : Ev.quoP V.v (-1) = .ok (wrap64 (V.v.tdiv (-1)))).trans (by rw [Int.tdiv_neg, Int.tdiv_one])))
                clear HRR
                go_wp2_with fail
                refine bodyPost_ret (v := .tuple #[.int .i64 (wrap64 (-V.v)), .agg #[.slice none 0 0, .int .i64 0]]) (by simp [results, Tryd.results13, go_sem, r0, r1]) rfl ⟨_, by rw [unhide HRQ]; rfl, by rw [unhide HRQ]; exact .inl ⟨rfl, rfl⟩, (unhide HM7).ret _ _⟩
              · have HRQ := hide ((unhide HRR).trans (if_neg hb0 : Ev.quoP V.v vb = .ok (wrap64 (V.v.tdiv vb))))
                clear HRR
                go_wp2_with fail
                refine bodyPost_ret (v := .tuple #[.int .i64 (wrap64 (V.v.tdiv vb)), .agg #[.slice none 0 0, .int .i64 0]]) (by simp [results, Tryd.results13, go_sem, r0, r1]) rfl ⟨_, by rw [unhide HRQ]; rfl, by rw [unhide HRQ]; exact .inl ⟨rfl, rfl⟩, (unhide HM7).ret _ _⟩
        · have hne : ¬ ((V2.err : Nat) : Int) = 0 := by omega
          have HRR := hide (unhide HBY herr)
          have hv0 := unhide HEY herr
          have r0 := (unhide HM7).r0
          have r1 := (unhide HM7).r1
          have f0 := (unhide HM7).f0
          have f1 := (unhide HM7).f1
          go_wp2_with fail
          go_region
          go_wp2_with fail
          refine bodyPost_ret (v := .tuple #[.int .i64 0, .agg #[.slice ga gn gc, .int .i64 V2.err]]) (by simp [results, Tryd.results13, go_sem, r0, r1]) rfl ⟨_, by rw [unhide HRR, hv0], ?_, ?_⟩
          · rw [unhide HRR]
            exact ret_told ((unhide HT7).below (below_drewN (Below.refl _ _) 1)) _ _
          · exact ((unhide HM7).below (below_drewN (Below.refl _ _) 1)).ret _ _
      · clear HCA1
        go_simp
        have hS0 := hS
        have hb5 := alloc_below W6.drew (.cells #[.slice none 0 0, .int .i64 0] WrT)
        refine hK _ _ (fun _ => S7.keep hS hb5) ?_
        replace hS := S7.keep hS hb5
        clear hK K' hb5
        try simp only [List.getElem_toArray, List.getElem_cons_succ, List.getElem_cons_zero, Act.put, List.setIfInBounds_toArray, List.set_cons_zero, List.set_cons_succ]
        refine anyE_ready [6] (by kernel_rfl) (by simp) (ReadyE.cons rfl (fun K' hK => ?_) ReadyE.nil)
        go_simp
        refine (unhide HCB1).mono ?_
        rintro ev w5 ⟨g, rfl, htd, hb5⟩
        obtain ⟨ga, gn, gc, rfl⟩ := told_shape htd
        dsimp only
        refine hK _ w5 (fun _ => S7.keep hS hb5) ?_
        replace hS := S7.keep hS hb5
        clear hK K' HCB1
        try simp only [List.getElem_toArray, List.getElem_cons_succ, List.getElem_cons_zero, Act.put, List.setIfInBounds_toArray, List.set_cons_zero, List.set_cons_succ]
        have p0 : w5.cell? ⟨W6.heap.size, 0, none⟩ = some (.slice none 0 0) := (hb5.cell (p := ⟨W6.heap.size, 0, none⟩) (by simp)).trans (wr_al0 (W6.drewN 1))
        have p1 : w5.cell? ⟨W6.heap.size, 1, none⟩ = some (.int .i64 0) := (hb5.cell (p := ⟨W6.heap.size, 1, none⟩) (by simp)).trans (wr_al1 (W6.drewN 1))
        have pf : ∀ o, w5.frozen? ⟨W6.heap.size, o, none⟩ = false := fun o => (hb5.frozen (p := ⟨W6.heap.size, o, none⟩) (by simp)).trans (wr_alf (W6.drewN 1) o)
        have HB5 := hide hb5
        have HTD := hide htd
        clear hb5 htd
        refine anyE_take 7 (v := ?_) rfl (by kernel_rfl) (by kernel_rfl) (by kernel_rfl) (by kernel_rfl) (fun _ _ _ h => h) hS (Or.inl ⟨by rfl, ?_⟩) ?_
        rotate_left
        · intro w' hS'
          obtain ⟨e0, e1, e2, e4, e5, e6, e7⟩ := hS'
          go_simp
          try with_reducible rfl
        try simp only [List.getElem_toArray, List.getElem_cons_succ, List.getElem_cons_zero, Act.put, List.setIfInBounds_toArray, List.set_cons_zero, List.set_cons_succ]
        refine anyE_take 8 (v := ?_) rfl (by kernel_rfl) (by kernel_rfl) (by kernel_rfl) (by kernel_rfl) (fun _ _ _ h => h) hS (Or.inl ⟨by rfl, ?_⟩) ?_
        rotate_left
        · intro w' hS'
          obtain ⟨e0, e1, e2, e4, e5, e6, e7⟩ := hS'
          go_simp
          try with_reducible rfl
        try simp only [List.getElem_toArray, List.getElem_cons_succ, List.getElem_cons_zero, Act.put, List.setIfInBounds_toArray, List.set_cons_zero, List.set_cons_succ]
        refine anyE_take 9 (v := ?_) rfl (by kernel_rfl) (by kernel_rfl) (by kernel_rfl) (by kernel_rfl) (fun _ _ _ h => h) hS (Or.inl ⟨by rfl, ?_⟩) ?_
        rotate_left
        · intro w' hS'
          obtain ⟨e0, e1, e2, e4, e5, e6, e7⟩ := hS'
          go_simp
          try with_reducible rfl
        try simp only [List.getElem_toArray, List.getElem_cons_succ, List.getElem_cons_zero, Act.put, List.setIfInBounds_toArray, List.set_cons_zero, List.set_cons_succ]
        refine anyE_take 11 (v := ?_) rfl (by kernel_rfl) (by kernel_rfl) (by kernel_rfl) (by kernel_rfl) (fun _ _ _ h => h) hS (Or.inl ⟨by rfl, ?_⟩) ?_
        rotate_left
        · intro w' hS'
          obtain ⟨e0, e1, e2, e4, e5, e6, e7⟩ := hS'
          go_simp
          try with_reducible rfl
        try simp only [List.getElem_toArray, List.getElem_cons_succ, List.getElem_cons_zero, Act.put, List.setIfInBounds_toArray, List.set_cons_zero, List.set_cons_succ]
        refine anyE_ready [12] (by kernel_rfl) (by simp) (ReadyE.cons rfl (fun K' hK => ?_) ReadyE.nil)
        go_simp
        have hB7 : Below W6.heap.size W6.drew ((w5.setCell ⟨W6.heap.size, 0, none⟩ (.slice ga gn gc)).setCell ⟨W6.heap.size, 1, none⟩ (.int .i64 V2.err)) := ((bthen (alloc_below W6.drew (.cells #[.slice none 0 0, .int .i64 0] WrT)) (unhide HB5)).setCell (p := ⟨W6.heap.size, 0, none⟩) (Nat.le_refl _) _).setCell (p := ⟨W6.heap.size, 1, none⟩) (Nat.le_refl _) _
        refine hK _ _ (fun _ => S7.keep hS0 hB7) ?_
        clear hK K'
        try simp only [List.getElem_toArray, List.getElem_cons_succ, List.getElem_cons_zero, Act.put, List.setIfInBounds_toArray, List.set_cons_zero, List.set_cons_succ]
        refine anyE_done (by kernel_rfl) ?_ _
        have HB7 := hide (bthen (below_drewN (Below.refl _ _) 1 : Below W6.heap.size W6 (W6.drewN 1)) hB7)
        have HT7 := hide (told_below (B' := w.heap.size + 3) (told_set (told_set (unhide HTD) ⟨W6.heap.size, 0, none⟩ (by simp) (.slice ga gn gc)) ⟨W6.heap.size, 1, none⟩ (by simp) (.int .i64 V2.err)) (by simp; omega))
        have d0 : ((w5.setCell ⟨W6.heap.size, 0, none⟩ (.slice ga gn gc)).setCell ⟨W6.heap.size, 1, none⟩ (.int .i64 V2.err)).cell? ⟨W6.heap.size, 0, none⟩ = some (.slice ga gn gc) := by simp [go_sem, p0]
        have d1 : ((w5.setCell ⟨W6.heap.size, 0, none⟩ (.slice ga gn gc)).setCell ⟨W6.heap.size, 1, none⟩ (.int .i64 V2.err)).cell? ⟨W6.heap.size, 1, none⟩ = some (.int .i64 V2.err) := by simp [go_sem, p1]
        clear hB7 HB5 HTD hS hS0 p0 p1 pf
        generalize ((w5.setCell ⟨W6.heap.size, 0, none⟩ (.slice ga gn gc)).setCell ⟨W6.heap.size, 1, none⟩ (.int .i64 V2.err)) = W7 at *
        have HM7 := hide ((unhide HM6).below (unhide HB7))
        clear HM6 HB7
        generalize W6.heap.size = bxx at *
        have r0 := (unhide HM7).r0
        have r1 := (unhide HM7).r1
        have f0 := (unhide HM7).f0
        have f1 := (unhide HM7).f1
        by_cases herr : V2.err = 0
        · have d1' : W7.cell? ⟨bxx, 1, none⟩ = some (.int .i64 0) := by rw [d1, herr]; rfl
          have HR := hide (unhide HG herr)
          have e0' := (unhide HM7).e0
          clear d0 d1 HG HBY
          rcases unhide HKK with hk | hk | hk | hk
          · have e0 : W7.cell? ⟨w.heap.size + 1, 0, none⟩ = some (.int .i64 5) := by rw [e0', hk]
            have HRR := hide ((unhide HR).1 hk)
            clear e0' hk HR HKK
            go_wp2_with fail
            refine bodyPost_ret (v := .tuple #[.int .i64 (wrap64 (V.v + V2.v)), .agg #[.slice none 0 0, .int .i64 0]]) (by simp [results, Tryd.results13, go_sem, r0, r1]) rfl ⟨_, by rw [unhide HRR]; rfl, by rw [unhide HRR]; exact .inl ⟨rfl, rfl⟩, (unhide HM7).ret _ _⟩
          · have e0 : W7.cell? ⟨w.heap.size + 1, 0, none⟩ = some (.int .i64 6) := by rw [e0', hk]
            have HRR := hide ((unhide HR).2.1 hk)
            clear e0' hk HR HKK
            go_wp2_with fail
            refine bodyPost_ret (v := .tuple #[.int .i64 (wrap64 (V.v - V2.v)), .agg #[.slice none 0 0, .int .i64 0]]) (by simp [results, Tryd.results13, go_sem, r0, r1]) rfl ⟨_, by rw [unhide HRR]; rfl, by rw [unhide HRR]; exact .inl ⟨rfl, rfl⟩, (unhide HM7).ret _ _⟩
          · have e0 : W7.cell? ⟨w.heap.size + 1, 0, none⟩ = some (.int .i64 7) := by rw [e0', hk]
            have HRR := hide ((unhide HR).2.2.1 hk)
            clear e0' hk HR HKK
            go_wp2_with fail
            refine bodyPost_ret (v := .tuple #[.int .i64 (wrap64 (V.v * V2.v)), .agg #[.slice none 0 0, .int .i64 0]]) (by simp [results, Tryd.results13, go_sem, r0, r1]) rfl ⟨_, by rw [unhide HRR]; rfl, by rw [unhide HRR]; exact .inl ⟨rfl, rfl⟩, (unhide HM7).ret _ _⟩
          · have e0 : W7.cell? ⟨w.heap.size + 1, 0, none⟩ = some (.int .i64 8) := by rw [e0', hk]
            have HRR := hide ((unhide HR).2.2.2 hk)
            clear e0' hk HR HKK
            generalize V2.v = vb at *
            by_cases hb0 : vb = 0
            · subst hb0
              have HRQ := hide ((unhide HRR).trans (if_pos rfl : Ev.quoP V.v 0 = .bad Ev.wDiv 0 13))
              clear HRR
              have HAT := hide (at_any Ev.wDiv 0 13 W7)
              have HSZ := hide (unhide HM7).sz
              go_wp2_with (refine (unhide HAT).mono ?_; rintro ev w8 ⟨q8, rfl, hq8, u0, u1, hb8⟩; have HM9 := hide ((unhide HM7).below hb8); have r0 := (unhide HM9).r0; have r1 := (unhide HM9).r1; have f0 := (unhide HM9).f0; have f1 := (unhide HM9).f1; have HT8 := hide (show Told (w.heap.size + 3) w8 (.agg #[.slice (some ⟨q8, 0, none⟩) 1 1, .int .i64 (13 : Nat)]) Ev.wDiv 0 13 from .inr ⟨by decide, q8, by have h9 := unhide HSZ; have : W7.heap.size ≤ q8 := hq8; omega, rfl, u0, u1⟩); clear hb8 u0 u1 hq8)
              refine bodyPost_ret (v := .tuple #[.int .i64 0, .agg #[.slice (some ⟨q8, 0, none⟩) 1 1, .int .i64 (13 : Nat)]]) (by simp [results, Tryd.results13, go_sem, r0, r1]) rfl ⟨_, by rw [unhide HRQ]; rfl, ?_, ?_⟩
              · rw [unhide HRQ]
                exact ret_told (unhide HT8) _ _
              · exact (unhide HM9).ret _ _
            · by_cases hb1 : vb = -1
              · subst hb1
                have HRQ := hide ((unhide HRR).trans ((if_neg (by decide) : Ev.quoP V.v (-1) = .ok (wrap64 (V.v.tdiv (-1)))).trans (by rw [Int.tdiv_neg, Int.tdiv_one])))
                clear HRR
                go_wp2_with fail
                refine bodyPost_ret (v := .tuple #[.int .i64 (wrap64 (-V.v)), .agg #[.slice none 0 0, .int .i64 0]]) (by simp [results, Tryd.results13, go_sem, r0, r1]) rfl ⟨_, by rw [unhide HRQ]; rfl, by rw [unhide HRQ]; exact .inl ⟨rfl, rfl⟩, (unhide HM7).ret _ _⟩
              · have HRQ := hide ((unhide HRR).trans (if_neg hb0 : Ev.quoP V.v vb = .ok (wrap64 (V.v.tdiv vb))))
                clear HRR
                go_wp2_with fail
                refine bodyPost_ret (v := .tuple #[.int .i64 (wrap64 (V.v.tdiv vb)), .agg #[.slice none 0 0, .int .i64 0]]) (by simp [results, Tryd.results13, go_sem, r0, r1]) rfl ⟨_, by rw [unhide HRQ]; rfl, by rw [unhide HRQ]; exact .inl ⟨rfl, rfl⟩, (unhide HM7).ret _ _⟩
        · have hne : ¬ ((V2.err : Nat) : Int) = 0 := by omega
          have HRR := hide (unhide HBY herr)
          have hv0 := unhide HEY herr
          have r0 := (unhide HM7).r0
          have r1 := (unhide HM7).r1
          have f0 := (unhide HM7).f0
          have f1 := (unhide HM7).f1
          go_wp2_with fail
          go_region
          go_wp2_with fail
          refine bodyPost_ret (v := .tuple #[.int .i64 0, .agg #[.slice ga gn gc, .int .i64 V2.err]]) (by simp [results, Tryd.results13, go_sem, r0, r1]) rfl ⟨_, by rw [unhide HRR, hv0], ?_, ?_⟩
          · rw [unhide HRR]
            exact ret_told ((unhide HT7).below (below_drewN (Below.refl _ _) 1)) _ _
          · exact ((unhide HM7).below (below_drewN (Below.refl _ _) 1)).ret _ _
    · have hne : ¬ ((V.err : Nat) : Int) = 0 := by omega
      have HRR := hide (unhide HB1 herr)
      have hv0 := unhide HEZ herr
      have r0 := (unhide HM6).r0
      have r1 := (unhide HM6).r1
      have f0 := (unhide HM6).f0
      have f1 := (unhide HM6).f1
      go_wp2_with fail
      go_region
      go_wp2_with fail
      refine bodyPost_ret (v := .tuple #[.int .i64 0, .agg #[.slice ga gn gc, .int .i64 V.err]]) (by simp [results, Tryd.results13, go_sem, r0, r1]) rfl ⟨_, by rw [unhide HRR, hv0], ?_, ?_⟩
      · rw [unhide HRR]
        exact ret_told ((unhide HT6).below (below_drewN (Below.refl _ _) 1)) _ _
      · exact ((unhide HM6).below (below_drewN (Below.refl _ _) 1)).ret _ _
  · clear HCA1
    go_simp
    have hS0 := hS
    have hb5 := alloc_below wr.drew (.cells #[.slice none 0 0, .int .i64 0] WrT)
    refine hK _ _ (fun _ => S7.keep hS hb5) ?_
    replace hS := S7.keep hS hb5
    clear hK K' hb5
    try simp only [List.getElem_toArray, List.getElem_cons_succ, List.getElem_cons_zero, Act.put, List.setIfInBounds_toArray, List.set_cons_zero, List.set_cons_succ]
    refine anyE_ready [6] (by kernel_rfl) (by simp) (ReadyE.cons rfl (fun K' hK => ?_) ReadyE.nil)
    go_simp
    refine (unhide HCB1).mono ?_
    rintro ev w5 ⟨g, rfl, htd, hb5⟩
    obtain ⟨ga, gn, gc, rfl⟩ := told_shape htd
    dsimp only
    refine hK _ w5 (fun _ => S7.keep hS hb5) ?_
    replace hS := S7.keep hS hb5
    clear hK K' HCB1
    try simp only [List.getElem_toArray, List.getElem_cons_succ, List.getElem_cons_zero, Act.put, List.setIfInBounds_toArray, List.set_cons_zero, List.set_cons_succ]
    have p0 : w5.cell? ⟨wr.heap.size, 0, none⟩ = some (.slice none 0 0) := (hb5.cell (p := ⟨wr.heap.size, 0, none⟩) (by simp)).trans (wr_al0 (wr.drewN 1))
    have p1 : w5.cell? ⟨wr.heap.size, 1, none⟩ = some (.int .i64 0) := (hb5.cell (p := ⟨wr.heap.size, 1, none⟩) (by simp)).trans (wr_al1 (wr.drewN 1))
    have pf : ∀ o, w5.frozen? ⟨wr.heap.size, o, none⟩ = false := fun o => (hb5.frozen (p := ⟨wr.heap.size, o, none⟩) (by simp)).trans (wr_alf (wr.drewN 1) o)
    have HB5 := hide hb5
    have HTD := hide htd
    clear hb5 htd
    refine anyE_take 7 (v := ?_) rfl (by kernel_rfl) (by kernel_rfl) (by kernel_rfl) (by kernel_rfl) (fun _ _ _ h => h) hS (Or.inl ⟨by rfl, ?_⟩) ?_
    rotate_left
    · intro w' hS'
      obtain ⟨e0, e1, e2, e4, e5, e6, e7⟩ := hS'
      go_simp
      try with_reducible rfl
    try simp only [List.getElem_toArray, List.getElem_cons_succ, List.getElem_cons_zero, Act.put, List.setIfInBounds_toArray, List.set_cons_zero, List.set_cons_succ]
    refine anyE_take 8 (v := ?_) rfl (by kernel_rfl) (by kernel_rfl) (by kernel_rfl) (by kernel_rfl) (fun _ _ _ h => h) hS (Or.inl ⟨by rfl, ?_⟩) ?_
    rotate_left
    · intro w' hS'
      obtain ⟨e0, e1, e2, e4, e5, e6, e7⟩ := hS'
      go_simp
      try with_reducible rfl
    try simp only [List.getElem_toArray, List.getElem_cons_succ, List.getElem_cons_zero, Act.put, List.setIfInBounds_toArray, List.set_cons_zero, List.set_cons_succ]
    refine anyE_take 9 (v := ?_) rfl (by kernel_rfl) (by kernel_rfl) (by kernel_rfl) (by kernel_rfl) (fun _ _ _ h => h) hS (Or.inl ⟨by rfl, ?_⟩) ?_
    rotate_left
    · intro w' hS'
      obtain ⟨e0, e1, e2, e4, e5, e6, e7⟩ := hS'
      go_simp
      try with_reducible rfl
    try simp only [List.getElem_toArray, List.getElem_cons_succ, List.getElem_cons_zero, Act.put, List.setIfInBounds_toArray, List.set_cons_zero, List.set_cons_succ]
    refine anyE_take 11 (v := ?_) rfl (by kernel_rfl) (by kernel_rfl) (by kernel_rfl) (by kernel_rfl) (fun _ _ _ h => h) hS (Or.inl ⟨by rfl, ?_⟩) ?_
    rotate_left
    · intro w' hS'
      obtain ⟨e0, e1, e2, e4, e5, e6, e7⟩ := hS'
      go_simp
      try with_reducible rfl
    try simp only [List.getElem_toArray, List.getElem_cons_succ, List.getElem_cons_zero, Act.put, List.setIfInBounds_toArray, List.set_cons_zero, List.set_cons_succ]
    refine anyE_ready [12] (by kernel_rfl) (by simp) (ReadyE.cons rfl (fun K' hK => ?_) ReadyE.nil)
    go_simp
    have hB6 : Below wr.heap.size wr.drew ((w5.setCell ⟨wr.heap.size, 0, none⟩ (.slice ga gn gc)).setCell ⟨wr.heap.size, 1, none⟩ (.int .i64 V.err)) := ((bthen (alloc_below wr.drew (.cells #[.slice none 0 0, .int .i64 0] WrT)) (unhide HB5)).setCell (p := ⟨wr.heap.size, 0, none⟩) (Nat.le_refl _) _).setCell (p := ⟨wr.heap.size, 1, none⟩) (Nat.le_refl _) _
    refine hK _ _ (fun _ => S7.keep hS0 hB6) ?_
    clear hK K'
    try simp only [List.getElem_toArray, List.getElem_cons_succ, List.getElem_cons_zero, Act.put, List.setIfInBounds_toArray, List.set_cons_zero, List.set_cons_succ]
    refine anyE_done (by kernel_rfl) ?_ _
    have HB6 := hide (bthen (below_drewN (Below.refl _ _) 1 : Below wr.heap.size wr (wr.drewN 1)) hB6)
    have HT6 := hide (told_below (B' := w.heap.size + 3) (told_set (told_set (unhide HTD) ⟨wr.heap.size, 0, none⟩ (by simp) (.slice ga gn gc)) ⟨wr.heap.size, 1, none⟩ (by simp) (.int .i64 V.err)) (by simp; omega))
    have d0 : ((w5.setCell ⟨wr.heap.size, 0, none⟩ (.slice ga gn gc)).setCell ⟨wr.heap.size, 1, none⟩ (.int .i64 V.err)).cell? ⟨wr.heap.size, 0, none⟩ = some (.slice ga gn gc) := by simp [go_sem, p0]
    have d1 : ((w5.setCell ⟨wr.heap.size, 0, none⟩ (.slice ga gn gc)).setCell ⟨wr.heap.size, 1, none⟩ (.int .i64 V.err)).cell? ⟨wr.heap.size, 1, none⟩ = some (.int .i64 V.err) := by simp [go_sem, p1]
    clear hB6 HB5 HTD hS hS0 p0 p1 pf
    have HC6 := hide (unhide HB6)
    generalize ((w5.setCell ⟨wr.heap.size, 0, none⟩ (.slice ga gn gc)).setCell ⟨wr.heap.size, 1, none⟩ (.int .i64 V.err)) = W6 at *
    have HM6 := hide ((unhide HMr).below (unhide HB6))
    have HFI2 := hide ((unhide HFB).old (unhide HB6))
    have c4 := ((unhide HB6).cell (p := ⟨xb, xo + 4, none⟩) (cell_lt (unhide HC4))).trans (unhide HC4)
    have c5 := ((unhide HB6).cell (p := ⟨xb, xo + 4 + 1, none⟩) (cell_lt (unhide HC5))).trans (unhide HC5)
    have c6 := ((unhide HB6).cell (p := ⟨xb, xo + 4 + 2, none⟩) (cell_lt (unhide HC6'))).trans (unhide HC6')
    have c7 := ((unhide HB6).cell (p := ⟨xb, xo + 4 + 3, none⟩) (cell_lt (unhide HC7))).trans (unhide HC7)
    clear HMr HB6 HC6
    generalize wr.heap.size = bx at *
    by_cases herr : V.err = 0
    · have d1' : W6.cell? ⟨bx, 1, none⟩ = some (.int .i64 0) := by rw [d1, herr]; rfl
      have HBY := hide (unhide HB2 herr)
      have HG := hide (unhide HG0 herr)
      have e0 := (unhide HM6).e0
      clear d0 d1 HB2 HB1 HG0 HT6
      go_upto_region 15 with fail
      clear e0 d1'
      have hwr2 := (unhide HM6).sz
      have HCA1 := hide (unhide HQ2 (W6.drewN 1) (.slice sa tn sc) c (.slice ta sn tc) yv ((unhide HAL).1.below (below_drewN (unhide HM6).old 1)) ((unhide HAL).2.below (below_drewN (unhide HM6).old 1)) ((unhide HFI2).old (below_drewN (Below.refl _ _) 1)))
      have HCB1 := hide (unhide HQ2 ((W6.drewN 1).alloc (.cells #[.slice none 0 0, .int .i64 0] WrT)) (.slice sa tn sc) c (.slice ta sn tc) yv ((unhide HAL).1.below (bthen (below_drewN (unhide HM6).old 1) (alloc_below _ _))) ((unhide HAL).2.below (bthen (below_drewN (unhide HM6).old 1) (alloc_below _ _))) ((unhide HFI2).old (bthen (below_drewN (Below.refl _ _) 1) (alloc_below _ _))))
      refine wp_regionE (S7 w (.slice sa tn sc) c (.slice (some ⟨xb, xo, none⟩) xn xc) xb (xo + 4) y yv) (fun j => decide (j < 12)) (by kernel_rfl) ⟨(unhide HM6).t0, (unhide HM6).t1, (unhide HM6).e3, c4, c5, c6, c7⟩ (fun hS => ?_)
      clear c4 c5 c6 c7
      refine anyE_take 0 (v := ?_) rfl (by kernel_rfl) (by kernel_rfl) (by kernel_rfl) (by kernel_rfl) (fun _ _ _ h => h) hS (Or.inl ⟨by rfl, ?_⟩) ?_
      rotate_left
      · intro w' hS'
        obtain ⟨e0, e1, e2, e4, e5, e6, e7⟩ := hS'
        go_simp
        try with_reducible rfl
      try simp only [List.getElem_toArray, List.getElem_cons_zero, Act.put, List.setIfInBounds_toArray, List.set_cons_zero, List.set_cons_succ]
      refine anyE_take 1 (v := ?_) rfl (by kernel_rfl) (by kernel_rfl) (by kernel_rfl) (by kernel_rfl) (fun _ _ _ h => h) hS (Or.inl ⟨by rfl, ?_⟩) ?_
      rotate_left
      · intro w' hS'
        obtain ⟨e0, e1, e2, e4, e5, e6, e7⟩ := hS'
        go_simp
        try with_reducible rfl
      try simp only [List.getElem_toArray, List.getElem_cons_succ, List.getElem_cons_zero, Act.put, List.setIfInBounds_toArray, List.set_cons_zero, List.set_cons_succ]
      refine anyE_take 2 (v := ?_) rfl (by kernel_rfl) (by kernel_rfl) (by kernel_rfl) (by kernel_rfl) (fun _ _ _ h => h) hS (Or.inl ⟨by rfl, ?_⟩) ?_
      rotate_left
      · intro w' hS'
        obtain ⟨e0, e1, e2, e4, e5, e6, e7⟩ := hS'
        go_simp
        try with_reducible rfl
      try simp only [List.getElem_toArray, List.getElem_cons_succ, List.getElem_cons_zero, Act.put, List.setIfInBounds_toArray, List.set_cons_zero, List.set_cons_succ]
      refine anyE_take 3 (v := ?_) rfl (by kernel_rfl) (by kernel_rfl) (by kernel_rfl) (by kernel_rfl) (fun _ _ _ h => h) hS (Or.inl ⟨by rfl, ?_⟩) ?_
      rotate_left
      · intro w' hS'
        obtain ⟨e0, e1, e2, e4, e5, e6, e7⟩ := hS'
        go_simp
        try with_reducible rfl
      try simp only [List.getElem_toArray, List.getElem_cons_succ, List.getElem_cons_zero, Act.put, List.setIfInBounds_toArray, List.set_cons_zero, List.set_cons_succ]
      refine anyE_take 4 (v := ?_) rfl (by kernel_rfl) (by kernel_rfl) (by kernel_rfl) (by kernel_rfl) (fun _ _ _ h => h) hS (Or.inl ⟨by rfl, ?_⟩) ?_
      rotate_left
      · intro w' hS'
        obtain ⟨e0, e1, e2, e4, e5, e6, e7⟩ := hS'
        go_simp
        try with_reducible rfl
      try simp only [List.getElem_toArray, List.getElem_cons_succ, List.getElem_cons_zero, Act.put, List.setIfInBounds_toArray, List.set_cons_zero, List.set_cons_succ]
      refine anyE_take 5 (v := ?_) rfl (by kernel_rfl) (by kernel_rfl) (by kernel_rfl) (by kernel_rfl) (fun _ _ _ h => h) hS (Or.inl ⟨by rfl, ?_⟩) ?_
      rotate_left
      · intro w' hS'
        obtain ⟨e0, e1, e2, e4, e5, e6, e7⟩ := hS'
        go_simp
        try with_reducible rfl
      try simp only [List.getElem_toArray, List.getElem_cons_succ, List.getElem_cons_zero, Act.put, List.setIfInBounds_toArray, List.set_cons_zero, List.set_cons_succ]
      refine anyE_ready [6, 10] (by kernel_rfl) (by simp) (ReadyE.cons rfl (fun K' hK => ?_) (ReadyE.cons rfl (fun K' hK => ?_) ReadyE.nil))
      · clear HCB1
        go_simp
        refine (unhide HCA1).mono ?_
        rintro ev w5 ⟨g, rfl, htd, hb5⟩
        obtain ⟨ga, gn, gc, rfl⟩ := told_shape htd
        dsimp only
        refine hK _ w5 (fun _ => S7.keep hS hb5) ?_
        replace hS := S7.keep hS hb5
        clear hK K' HCA1
        try simp only [List.getElem_toArray, List.getElem_cons_succ, List.getElem_cons_zero, Act.put, List.setIfInBounds_toArray, List.set_cons_zero, List.set_cons_succ]
        have HB5 := hide hb5
        have HTD := hide htd
        clear hb5 htd
        refine anyE_take 7 (v := ?_) rfl (by kernel_rfl) (by kernel_rfl) (by kernel_rfl) (by kernel_rfl) (fun _ _ _ h => h) hS (Or.inl ⟨by rfl, ?_⟩) ?_
        rotate_left
        · intro w' hS'
          obtain ⟨e0, e1, e2, e4, e5, e6, e7⟩ := hS'
          go_simp
          try with_reducible rfl
        try simp only [List.getElem_toArray, List.getElem_cons_succ, List.getElem_cons_zero, Act.put, List.setIfInBounds_toArray, List.set_cons_zero, List.set_cons_succ]
        refine anyE_take 8 (v := ?_) rfl (by kernel_rfl) (by kernel_rfl) (by kernel_rfl) (by kernel_rfl) (fun _ _ _ h => h) hS (Or.inl ⟨by rfl, ?_⟩) ?_
        rotate_left
        · intro w' hS'
          obtain ⟨e0, e1, e2, e4, e5, e6, e7⟩ := hS'
          go_simp
          try with_reducible rfl
        try simp only [List.getElem_toArray, List.getElem_cons_succ, List.getElem_cons_zero, Act.put, List.setIfInBounds_toArray, List.set_cons_zero, List.set_cons_succ]
        refine anyE_take 9 (v := ?_) rfl (by kernel_rfl) (by kernel_rfl) (by kernel_rfl) (by kernel_rfl) (fun _ _ _ h => h) hS (Or.inl ⟨by rfl, ?_⟩) ?_
        rotate_left
        · intro w' hS'
          obtain ⟨e0, e1, e2, e4, e5, e6, e7⟩ := hS'
          go_simp
          try with_reducible rfl
        try simp only [List.getElem_toArray, List.getElem_cons_succ, List.getElem_cons_zero, Act.put, List.setIfInBounds_toArray, List.set_cons_zero, List.set_cons_succ]
        refine anyE_ready [10] (by kernel_rfl) (by simp) (ReadyE.cons rfl (fun K' hK => ?_) ReadyE.nil)
        go_simp
        have hS0 := hS
        have hb5 := alloc_below w5 (.cells #[.slice none 0 0, .int .i64 0] WrT)
        refine hK _ _ (fun _ => S7.keep hS hb5) ?_
        replace hS := S7.keep hS hb5
        clear hK K' hb5
        try simp only [List.getElem_toArray, List.getElem_cons_succ, List.getElem_cons_zero, Act.put, List.setIfInBounds_toArray, List.set_cons_zero, List.set_cons_succ]
        refine anyE_take 11 (v := ?_) rfl (by kernel_rfl) (by kernel_rfl) (by kernel_rfl) (by kernel_rfl) (fun _ _ _ h => h) hS (Or.inl ⟨by rfl, ?_⟩) ?_
        rotate_left
        · intro w' hS'
          obtain ⟨e0, e1, e2, e4, e5, e6, e7⟩ := hS'
          go_simp
          try with_reducible rfl
        try simp only [List.getElem_toArray, List.getElem_cons_succ, List.getElem_cons_zero, Act.put, List.setIfInBounds_toArray, List.set_cons_zero, List.set_cons_succ]
        refine anyE_ready [12] (by kernel_rfl) (by simp) (ReadyE.cons rfl (fun K' hK => ?_) ReadyE.nil)
        go_simp
        have hB7 := alloc_below w5 (.cells #[.slice ga gn gc, .int .i64 V2.err] WrT)
        refine hK _ _ (fun _ => S7.keep hS0 hB7) ?_
        clear hK K'
        try simp only [List.getElem_toArray, List.getElem_cons_succ, List.getElem_cons_zero, Act.put, List.setIfInBounds_toArray, List.set_cons_zero, List.set_cons_succ]
        refine anyE_done (by kernel_rfl) ?_ _
        have HB7 := hide (bthen (below_drewN (Below.refl _ _) 1 : Below W6.heap.size W6 (W6.drewN 1)) (bthen (unhide HB5) hB7))
        have HT7 := hide (told_below (B' := w.heap.size + 3) ((unhide HTD).below hB7) (by show _ ≤ W6.heap.size; omega))
        have d0 : (w5.alloc (.cells #[.slice ga gn gc, .int .i64 V2.err] WrT)).cell? ⟨w5.heap.size, 0, none⟩ = some (.slice ga gn gc) := by simp [go_sem]
        have d1 : (w5.alloc (.cells #[.slice ga gn gc, .int .i64 V2.err] WrT)).cell? ⟨w5.heap.size, 1, none⟩ = some (.int .i64 V2.err) := by simp [go_sem]
        clear hB7 HB5 HTD hS hS0
        generalize (w5.alloc (.cells #[.slice ga gn gc, .int .i64 V2.err] WrT)) = W7 at *
        have HM7 := hide ((unhide HM6).below (unhide HB7))
        clear HM6 HB7
        generalize w5.heap.size = bxx at *
        have r0 := (unhide HM7).r0
        have r1 := (unhide HM7).r1
        have f0 := (unhide HM7).f0
        have f1 := (unhide HM7).f1
        by_cases herr : V2.err = 0
        · have d1' : W7.cell? ⟨bxx, 1, none⟩ = some (.int .i64 0) := by rw [d1, herr]; rfl
          have HR := hide (unhide HG herr)
          have e0' := (unhide HM7).e0
          clear d0 d1 HG HBY
          rcases unhide HKK with hk | hk | hk | hk
          · have e0 : W7.cell? ⟨w.heap.size + 1, 0, none⟩ = some (.int .i64 5) := by rw [e0', hk]
            have HRR := hide ((unhide HR).1 hk)
            clear e0' hk HR HKK
            go_wp2_with fail
            refine bodyPost_ret (v := .tuple #[.int .i64 (wrap64 (V.v + V2.v)), .agg #[.slice none 0 0, .int .i64 0]]) (by simp [results, Tryd.results13, go_sem, r0, r1]) rfl ⟨_, by rw [unhide HRR]; rfl, by rw [unhide HRR]; exact .inl ⟨rfl, rfl⟩, (unhide HM7).ret _ _⟩
          · have e0 : W7.cell? ⟨w.heap.size + 1, 0, none⟩ = some (.int .i64 6) := by rw [e0', hk]
            have HRR := hide ((unhide HR).2.1 hk)
            clear e0' hk HR HKK
            go_wp2_with fail
            refine bodyPost_ret (v := .tuple #[.int .i64 (wrap64 (V.v - V2.v)), .agg #[.slice none 0 0, .int .i64 0]]) (by simp [results, Tryd.results13, go_sem, r0, r1]) rfl ⟨_, by rw [unhide HRR]; rfl, by rw [unhide HRR]; exact .inl ⟨rfl, rfl⟩, (unhide HM7).ret _ _⟩
          · have e0 : W7.cell? ⟨w.heap.size + 1, 0, none⟩ = some (.int .i64 7) := by rw [e0', hk]
            have HRR := hide ((unhide HR).2.2.1 hk)
            clear e0' hk HR HKK
            go_wp2_with fail
            refine bodyPost_ret (v := .tuple #[.int .i64 (wrap64 (V.v * V2.v)), .agg #[.slice none 0 0, .int .i64 0]]) (by simp [results, Tryd.results13, go_sem, r0, r1]) rfl ⟨_, by rw [unhide HRR]; rfl, by rw [unhide HRR]; exact .inl ⟨rfl, rfl⟩, (unhide HM7).ret _ _⟩
          · have e0 : W7.cell? ⟨w.heap.size + 1, 0, none⟩ = some (.int .i64 8) := by rw [e0', hk]
            have HRR := hide ((unhide HR).2.2.2 hk)
            clear e0' hk HR HKK
            generalize V2.v = vb at *
            by_cases hb0 : vb = 0
            · subst hb0
              have HRQ := hide ((unhide HRR).trans (if_pos rfl : Ev.quoP V.v 0 = .bad Ev.wDiv 0 13))
              clear HRR
              have HAT := hide (at_any Ev.wDiv 0 13 W7)
              have HSZ := hide (unhide HM7).sz
              go_wp2_with (refine (unhide HAT).mono ?_; rintro ev w8 ⟨q8, rfl, hq8, u0, u1, hb8⟩; have HM9 := hide ((unhide HM7).below hb8); have r0 := (unhide HM9).r0; have r1 := (unhide HM9).r1; have f0 := (unhide HM9).f0; have f1 := (unhide HM9).f1; have HT8 := hide (show Told (w.heap.size + 3) w8 (.agg #[.slice (some ⟨q8, 0, none⟩) 1 1, .int .i64 (13 : Nat)]) Ev.wDiv 0 13 from .inr ⟨by decide, q8, by have h9 := unhide HSZ; have : W7.heap.size ≤ q8 := hq8; omega, rfl, u0, u1⟩); clear hb8 u0 u1 hq8)
              refine bodyPost_ret (v := .tuple #[.int .i64 0, .agg #[.slice (some ⟨q8, 0, none⟩) 1 1, .int .i64 (13 : Nat)]]) (by simp [results, Tryd.results13, go_sem, r0, r1]) rfl ⟨_, by rw [unhide HRQ]; rfl, ?_, ?_⟩
              · rw [unhide HRQ]
                exact ret_told (unhide HT8) _ _
              · exact (unhide HM9).ret _ _
            · by_cases hb1 : vb = -1
              · subst hb1
                have HRQ := hide ((unhide HRR).trans ((if_neg (by decide) : Ev.quoP V.v (-1) = .ok (wrap64 (V.v.tdiv (-1)))).trans (by rw [Int.tdiv_neg, Int.tdiv_one])))
                clear HRR
                go_wp2_with fail
                refine bodyPost_ret (v := .tuple #[.int .i64 (wrap64 (-V.v)), .agg #[.slice none 0 0, .int .i64 0]]) (by simp [results, Tryd.results13, go_sem, r0, r1]) rfl ⟨_, by rw [unhide HRQ]; rfl, by rw [unhide HRQ]; exact .inl ⟨rfl, rfl⟩, (unhide HM7).ret _ _⟩
              · have HRQ := hide ((unhide HRR).trans (if_neg hb0 : Ev.quoP V.v vb = .ok (wrap64 (V.v.tdiv vb))))
                clear HRR
                go_wp2_with fail
                refine bodyPost_ret (v := .tuple #[.int .i64 (wrap64 (V.v.tdiv vb)), .agg #[.slice none 0 0, .int .i64 0]]) (by simp [results, Tryd.results13, go_sem, r0, r1]) rfl ⟨_, by rw [unhide HRQ]; rfl, by rw [unhide HRQ]; exact .inl ⟨rfl, rfl⟩, (unhide HM7).ret _ _⟩
        · have hne : ¬ ((V2.err : Nat) : Int) = 0 := by omega
          have HRR := hide (unhide HBY herr)
          have hv0 := unhide HEY herr
          have r0 := (unhide HM7).r0
          have r1 := (unhide HM7).r1
          have f0 := (unhide HM7).f0
          have f1 := (unhide HM7).f1
          go_wp2_with fail
          go_region
          go_wp2_with fail
          refine bodyPost_ret (v := .tuple #[.int .i64 0, .agg #[.slice ga gn gc, .int .i64 V2.err]]) (by simp [results, Tryd.results13, go_sem, r0, r1]) rfl ⟨_, by rw [unhide HRR, hv0], ?_, ?_⟩
          · rw [unhide HRR]
            exact ret_told ((unhide HT7).below (below_drewN (Below.refl _ _) 1)) _ _
          · exact ((unhide HM7).below (below_drewN (Below.refl _ _) 1)).ret _ _
      · clear HCA1
        go_simp
        have hS0 := hS
        have hb5 := alloc_below W6.drew (.cells #[.slice none 0 0, .int .i64 0] WrT)
        refine hK _ _ (fun _ => S7.keep hS hb5) ?_
        replace hS := S7.keep hS hb5
        clear hK K' hb5
        try simp only [List.getElem_toArray, List.getElem_cons_succ, List.getElem_cons_zero, Act.put, List.setIfInBounds_toArray, List.set_cons_zero, List.set_cons_succ]
        refine anyE_ready [6] (by kernel_rfl) (by simp) (ReadyE.cons rfl (fun K' hK => ?_) ReadyE.nil)
        go_simp
        refine (unhide HCB1).mono ?_
        rintro ev w5 ⟨g, rfl, htd, hb5⟩
        obtain ⟨ga, gn, gc, rfl⟩ := told_shape htd
        dsimp only
        refine hK _ w5 (fun _ => S7.keep hS hb5) ?_
        replace hS := S7.keep hS hb5
        clear hK K' HCB1
        try simp only [List.getElem_toArray, List.getElem_cons_succ, List.getElem_cons_zero, Act.put, List.setIfInBounds_toArray, List.set_cons_zero, List.set_cons_succ]
        have p0 : w5.cell? ⟨W6.heap.size, 0, none⟩ = some (.slice none 0 0) := (hb5.cell (p := ⟨W6.heap.size, 0, none⟩) (by simp)).trans (wr_al0 (W6.drewN 1))
        have p1 : w5.cell? ⟨W6.heap.size, 1, none⟩ = some (.int .i64 0) := (hb5.cell (p := ⟨W6.heap.size, 1, none⟩) (by simp)).trans (wr_al1 (W6.drewN 1))
        have pf : ∀ o, w5.frozen? ⟨W6.heap.size, o, none⟩ = false := fun o => (hb5.frozen (p := ⟨W6.heap.size, o, none⟩) (by simp)).trans (wr_alf (W6.drewN 1) o)
        have HB5 := hide hb5
        have HTD := hide htd
        clear hb5 htd
        refine anyE_take 7 (v := ?_) rfl (by kernel_rfl) (by kernel_rfl) (by kernel_rfl) (by kernel_rfl) (fun _ _ _ h => h) hS (Or.inl ⟨by rfl, ?_⟩) ?_
        rotate_left
        · intro w' hS'
          obtain ⟨e0, e1, e2, e4, e5, e6, e7⟩ := hS'
          go_simp
          try with_reducible rfl
        try simp only [List.getElem_toArray, List.getElem_cons_succ, List.getElem_cons_zero, Act.put, List.setIfInBounds_toArray, List.set_cons_zero, List.set_cons_succ]
        refine anyE_take 8 (v := ?_) rfl (by kernel_rfl) (by kernel_rfl) (by kernel_rfl) (by kernel_rfl) (fun _ _ _ h => h) hS (Or.inl ⟨by rfl, ?_⟩) ?_
        rotate_left
        · intro w' hS'
          obtain ⟨e0, e1, e2, e4, e5, e6, e7⟩ := hS'
          go_simp
          try with_reducible rfl
        try simp only [List.getElem_toArray, List.getElem_cons_succ, List.getElem_cons_zero, Act.put, List.setIfInBounds_toArray, List.set_cons_zero, List.set_cons_succ]
        refine anyE_take 9 (v := ?_) rfl (by kernel_rfl) (by kernel_rfl) (by kernel_rfl) (by kernel_rfl) (fun _ _ _ h => h) hS (Or.inl ⟨by rfl, ?_⟩) ?_
        rotate_left
        · intro w' hS'
          obtain ⟨e0, e1, e2, e4, e5, e6, e7⟩ := hS'
          go_simp
          try with_reducible rfl
        try simp only [List.getElem_toArray, List.getElem_cons_succ, List.getElem_cons_zero, Act.put, List.setIfInBounds_toArray, List.set_cons_zero, List.set_cons_succ]
        refine anyE_take 11 (v := ?_) rfl (by kernel_rfl) (by kernel_rfl) (by kernel_rfl) (by kernel_rfl) (fun _ _ _ h => h) hS (Or.inl ⟨by rfl, ?_⟩) ?_
        rotate_left
        · intro w' hS'
          obtain ⟨e0, e1, e2, e4, e5, e6, e7⟩ := hS'
          go_simp
          try with_reducible rfl
        try simp only [List.getElem_toArray, List.getElem_cons_succ, List.getElem_cons_zero, Act.put, List.setIfInBounds_toArray, List.set_cons_zero, List.set_cons_succ]
        refine anyE_ready [12] (by kernel_rfl) (by simp) (ReadyE.cons rfl (fun K' hK => ?_) ReadyE.nil)
        go_simp
        have hB7 : Below W6.heap.size W6.drew ((w5.setCell ⟨W6.heap.size, 0, none⟩ (.slice ga gn gc)).setCell ⟨W6.heap.size, 1, none⟩ (.int .i64 V2.err)) := ((bthen (alloc_below W6.drew (.cells #[.slice none 0 0, .int .i64 0] WrT)) (unhide HB5)).setCell (p := ⟨W6.heap.size, 0, none⟩) (Nat.le_refl _) _).setCell (p := ⟨W6.heap.size, 1, none⟩) (Nat.le_refl _) _
        refine hK _ _ (fun _ => S7.keep hS0 hB7) ?_
        clear hK K'
        try simp only [List.getElem_toArray, List.getElem_cons_succ, List.getElem_cons_zero, Act.put, List.setIfInBounds_toArray, List.set_cons_zero, List.set_cons_succ]
        refine anyE_done (by kernel_rfl) ?_ _
        have HB7 := hide (bthen (below_drewN (Below.refl _ _) 1 : Below W6.heap.size W6 (W6.drewN 1)) hB7)
        have HT7 := hide (told_below (B' := w.heap.size + 3) (told_set (told_set (unhide HTD) ⟨W6.heap.size, 0, none⟩ (by simp) (.slice ga gn gc)) ⟨W6.heap.size, 1, none⟩ (by simp) (.int .i64 V2.err)) (by simp; omega))
        have d0 : ((w5.setCell ⟨W6.heap.size, 0, none⟩ (.slice ga gn gc)).setCell ⟨W6.heap.size, 1, none⟩ (.int .i64 V2.err)).cell? ⟨W6.heap.size, 0, none⟩ = some (.slice ga gn gc) := by simp [go_sem, p0]
        have d1 : ((w5.setCell ⟨W6.heap.size, 0, none⟩ (.slice ga gn gc)).setCell ⟨W6.heap.size, 1, none⟩ (.int .i64 V2.err)).cell? ⟨W6.heap.size, 1, none⟩ = some (.int .i64 V2.err) := by simp [go_sem, p1]
        clear hB7 HB5 HTD hS hS0 p0 p1 pf
        generalize ((w5.setCell ⟨W6.heap.size, 0, none⟩ (.slice ga gn gc)).setCell ⟨W6.heap.size, 1, none⟩ (.int .i64 V2.err)) = W7 at *
        have HM7 := hide ((unhide HM6).below (unhide HB7))
        clear HM6 HB7
        generalize W6.heap.size = bxx at *
        have r0 := (unhide HM7).r0
        have r1 := (unhide HM7).r1
        have f0 := (unhide HM7).f0
        have f1 := (unhide HM7).f1
        by_cases herr : V2.err = 0
        · have d1' : W7.cell? ⟨bxx, 1, none⟩ = some (.int .i64 0) := by rw [d1, herr]; rfl
          have HR := hide (unhide HG herr)
          have e0' := (unhide HM7).e0
          clear d0 d1 HG HBY
          rcases unhide HKK with hk | hk | hk | hk
          · have e0 : W7.cell? ⟨w.heap.size + 1, 0, none⟩ = some (.int .i64 5) := by rw [e0', hk]
            have HRR := hide ((unhide HR).1 hk)
            clear e0' hk HR HKK
            go_wp2_with fail
            refine bodyPost_ret (v := .tuple #[.int .i64 (wrap64 (V.v + V2.v)), .agg #[.slice none 0 0, .int .i64 0]]) (by simp [results, Tryd.results13, go_sem, r0, r1]) rfl ⟨_, by rw [unhide HRR]; rfl, by rw [unhide HRR]; exact .inl ⟨rfl, rfl⟩, (unhide HM7).ret _ _⟩
          · have e0 : W7.cell? ⟨w.heap.size + 1, 0, none⟩ = some (.int .i64 6) := by rw [e0', hk]
            have HRR := hide ((unhide HR).2.1 hk)
            clear e0' hk HR HKK
            go_wp2_with fail
            refine bodyPost_ret (v := .tuple #[.int .i64 (wrap64 (V.v - V2.v)), .agg #[.slice none 0 0, .int .i64 0]]) (by simp [results, Tryd.results13, go_sem, r0, r1]) rfl ⟨_, by rw [unhide HRR]; rfl, by rw [unhide HRR]; exact .inl ⟨rfl, rfl⟩, (unhide HM7).ret _ _⟩
          · have e0 : W7.cell? ⟨w.heap.size + 1, 0, none⟩ = some (.int .i64 7) := by rw [e0', hk]
            have HRR := hide ((unhide HR).2.2.1 hk)
            clear e0' hk HR HKK
            go_wp2_with fail
            refine bodyPost_ret (v := .tuple #[.int .i64 (wrap64 (V.v * V2.v)), .agg #[.slice none 0 0, .int .i64 0]]) (by simp [results, Tryd.results13, go_sem, r0, r1]) rfl ⟨_, by rw [unhide HRR]; rfl, by rw [unhide HRR]; exact .inl ⟨rfl, rfl⟩, (unhide HM7).ret _ _⟩
          · have e0 : W7.cell? ⟨w.heap.size + 1, 0, none⟩ = some (.int .i64 8) := by rw [e0', hk]
            have HRR := hide ((unhide HR).2.2.2 hk)
            clear e0' hk HR HKK
            generalize V2.v = vb at *
            by_cases hb0 : vb = 0
            · subst hb0
              have HRQ := hide ((unhide HRR).trans (if_pos rfl : Ev.quoP V.v 0 = .bad Ev.wDiv 0 13))
              clear HRR
              have HAT := hide (at_any Ev.wDiv 0 13 W7)
              have HSZ := hide (unhide HM7).sz
              go_wp2_with (refine (unhide HAT).mono ?_; rintro ev w8 ⟨q8, rfl, hq8, u0, u1, hb8⟩; have HM9 := hide ((unhide HM7).below hb8); have r0 := (unhide HM9).r0; have r1 := (unhide HM9).r1; have f0 := (unhide HM9).f0; have f1 := (unhide HM9).f1; have HT8 := hide (show Told (w.heap.size + 3) w8 (.agg #[.slice (some ⟨q8, 0, none⟩) 1 1, .int .i64 (13 : Nat)]) Ev.wDiv 0 13 from .inr ⟨by decide, q8, by have h9 := unhide HSZ; have : W7.heap.size ≤ q8 := hq8; omega, rfl, u0, u1⟩); clear hb8 u0 u1 hq8)
              refine bodyPost_ret (v := .tuple #[.int .i64 0, .agg #[.slice (some ⟨q8, 0, none⟩) 1 1, .int .i64 (13 : Nat)]]) (by simp [results, Tryd.results13, go_sem, r0, r1]) rfl ⟨_, by rw [unhide HRQ]; rfl, ?_, ?_⟩
              · rw [unhide HRQ]
                exact ret_told (unhide HT8) _ _
              · exact (unhide HM9).ret _ _
            · by_cases hb1 : vb = -1
              · subst hb1
                have HRQ := hide ((unhide HRR).trans ((if_neg (by decide) : Ev.quoP V.v (-1) = .ok (wrap64 (V.v.tdiv (-1)))).trans (by rw [Int.tdiv_neg, Int.tdiv_one])))
                clear HRR
                go_wp2_with fail
                refine bodyPost_ret (v := .tuple #[.int .i64 (wrap64 (-V.v)), .agg #[.slice none 0 0, .int .i64 0]]) (by simp [results, Tryd.results13, go_sem, r0, r1]) rfl ⟨_, by rw [unhide HRQ]; rfl, by rw [unhide HRQ]; exact .inl ⟨rfl, rfl⟩, (unhide HM7).ret _ _⟩
              · have HRQ := hide ((unhide HRR).trans (if_neg hb0 : Ev.quoP V.v vb = .ok (wrap64 (V.v.tdiv vb))))
                clear HRR
                go_wp2_with fail
                refine bodyPost_ret (v := .tuple #[.int .i64 (wrap64 (V.v.tdiv vb)), .agg #[.slice none 0 0, .int .i64 0]]) (by simp [results, Tryd.results13, go_sem, r0, r1]) rfl ⟨_, by rw [unhide HRQ]; rfl, by rw [unhide HRQ]; exact .inl ⟨rfl, rfl⟩, (unhide HM7).ret _ _⟩
        · have hne : ¬ ((V2.err : Nat) : Int) = 0 := by omega
          have HRR := hide (unhide HBY herr)
          have hv0 := unhide HEY herr
          have r0 := (unhide HM7).r0
          have r1 := (unhide HM7).r1
          have f0 := (unhide HM7).f0
          have f1 := (unhide HM7).f1
          go_wp2_with fail
          go_region
          go_wp2_with fail
          refine bodyPost_ret (v := .tuple #[.int .i64 0, .agg #[.slice ga gn gc, .int .i64 V2.err]]) (by simp [results, Tryd.results13, go_sem, r0, r1]) rfl ⟨_, by rw [unhide HRR, hv0], ?_, ?_⟩
          · rw [unhide HRR]
            exact ret_told ((unhide HT7).below (below_drewN (Below.refl _ _) 1)) _ _
          · exact ((unhide HM7).below (below_drewN (Below.refl _ _) 1)).ret _ _
    · have hne : ¬ ((V.err : Nat) : Int) = 0 := by omega
      have HRR := hide (unhide HB1 herr)
      have hv0 := unhide HEZ herr
      have r0 := (unhide HM6).r0
      have r1 := (unhide HM6).r1
      have f0 := (unhide HM6).f0
      have f1 := (unhide HM6).f1
      go_wp2_with fail
      go_region
      go_wp2_with fail
      refine bodyPost_ret (v := .tuple #[.int .i64 0, .agg #[.slice ga gn gc, .int .i64 V.err]]) (by simp [results, Tryd.results13, go_sem, r0, r1]) rfl ⟨_, by rw [unhide HRR, hv0], ?_, ?_⟩
      · rw [unhide HRR]
        exact ret_told ((unhide HT6).below (below_drewN (Below.refl _ _) 1)) _ _
      · exact ((unhide HM6).below (below_drewN (Below.refl _ _) 1)).ret _ _
/-- the reference's Eval, at any right tree -/
theorem reval_any {T : List Sy} {s : List Int} {N : Nat} (hT : Ev.Fine T) (hw : Ev.Within T N) (hs : s.length = N) : ∀ x : E, Ev.RW T x → REvalOk T s x := by
  intro x h
  induction h with
  | num x hk => exact reval_num T s x hk
  | var x hk y hf hd ha => exact reval_cell T s N hT hw hs x y hf (by simp [hd, ha]) (.inl hk) (by unfold Ev.parts; rw [if_neg (by omega), ha]) (fun w sv c stv sx h1 h2 h3 => rplace_any T s hT x (by simp [ha]) y hf (by simp [hd, ha]) (fun z hz => by simp [ha] at hz) w sv c stv sx h1 h2 h3 (by unfold Ev.parts; rw [if_neg (by omega), ha]))
  | elem x hk y hf hd hl hs2 ih => exact reval_cell T s N hT hw hs x y hf hd (.inr hk) (by unfold Ev.parts; rw [if_pos (by omega)]) (fun w sv c stv sx h1 h2 h3 => rplace_any T s hT x hl y hf hd ih w sv c stv sx h1 h2 h3 (by unfold Ev.parts; rw [if_pos (by omega)]))
  | neg x hk ha hs2 ih =>
    obtain ⟨z, hz⟩ := List.length_eq_one_iff.1 ha
    exact reval_neg T s x z hk hz (ih z (by simp [hz]))
  | two x hk ha hs2 ih =>
    obtain ⟨z, y, hz⟩ : ∃ z y, x.a = [z, y] := by
      match h2 : x.a, ha with
      | [z, y], _ => exact ⟨z, y, rfl⟩
    exact reval_two T s x z y hk hz (ih z (by simp [hz])) (ih y (by simp [hz]))
end Go.Proofs.YtomnbidppkpfiaaDoor.Line
