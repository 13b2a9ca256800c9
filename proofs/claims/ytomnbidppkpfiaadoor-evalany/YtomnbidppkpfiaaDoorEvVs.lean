/- The contract of eval.values. -/
import Derived.Test.YtomnbidppkpfiaaDoorEvVls
import Derived.Test.YtomnbidppkpfiaaDoorRegE
import Derived.Deep.LoopGhost
namespace Go.Proofs.YtomnbidppkpfiaaDoor.Line
open Go.ChangeShapes Go.WideShapes Go.ChangeAt Go.RowKit
open Ex (E)
open Ev (Sy Res)
set_option linter.unusedVariables false

theorem runI_slice1 {w : World} (a : Option Addr) (n cap lo : Nat) (h1 : lo ≤ n) (h2 : n ≤ cap) : (Instr.slice INTS (.slice a n cap) (some (.int .i64 lo)) none none).run Tryd.prog w = .ok (.slice (if cap = lo then a else a.map (·.add lo)) (n - lo) (cap - lo)) w := by
  obtain ⟨i0, hi0, hz0, hz1, hz2⟩ := info_parts infoZ
  simp [Instr.slice, run_underlying Tryd.underlying25, sizeOf, typeInfo, hi0, hz1, Instr.sliceBounds, Instr.sliceBound, asIntOf, h1]
theorem runI_slice0 {w : World} (a : Option Addr) (n cap hi : Nat) (h2 : hi ≤ cap) : (Instr.slice INTS (.slice a n cap) none (some (.int .i64 hi)) none).run Tryd.prog w = .ok (.slice a hi cap) w := by
  obtain ⟨i0, hi0, hz0, hz1, hz2⟩ := info_parts infoZ
  simp [Instr.slice, run_underlying Tryd.underlying25, sizeOf, typeInfo, hi0, Instr.sliceBounds, Instr.sliceBound, asIntOf, h2]
  intro _
  cases a with
  | none => rfl
  | some p => simp [Addr.add]
theorem runT_slice0 {w : World} (a : Option Addr) (n cap hi : Nat) (h2 : hi ≤ cap) : (Instr.slice TKS (.slice a n cap) none (some (.int .i64 hi)) none).run Tryd.prog w = .ok (.slice a hi cap) w := by
  obtain ⟨i0, hi0, hz0, hz1, hz2⟩ := info_parts infoTk
  simp [Instr.slice, run_underlying Tryd.underlying90, sizeOf, typeInfo, hi0, Instr.sliceBounds, Instr.sliceBound, asIntOf, h2]
  intro _
  cases a with
  | none => rfl
  | some p => simp [Addr.add]
theorem den_start (T : List Sy) (s : List Int) (l : List E) : Ev.den T s (Ev.fresh l) [] = Ev.evs T s l := by
  have := Ev.den_fresh T s [] l []
  rw [List.append_nil] at this
  rw [this]
  cases Ev.evs T s l with
  | inl r => rfl
  | inr m => simp [Ev.den]
theorem fit_start (l : List E) : Ev.fit (Ev.fresh l) 0 := by
  have := (Ev.fit_fresh [] l 0).2 (by simp [Ev.fit])
  rwa [List.append_nil] at this
/-- what values answers -/
def VlsOk (R : Sum Res (List Int)) (w w' : World) (dv f : Value) : Prop :=
  match R with
  | .inl r => dv = .slice none 0 0 ∧ r.err ≠ 0 ∧ Says w.heap.size w' f r.word r.at_ r.err
  | .inr m => f = .nilIface ∧ Ints w' dv m
theorem evs_bad (T : List Sy) (s : List Int) : ∀ (l : List E) (r : Res), Ev.evs T s l = .inl r → r.err ≠ 0
  | [], r, h => by rw [Ev.evs] at h; cases h
  | x :: q, r, h => by
    rw [Ev.evs] at h
    split at h
    · rename_i h2; injection h with h; subst h; exact h2
    · split at h
      · rename_i h2; injection h with h; subst h; exact evs_bad T s q _ h2
      · cases h
theorem make_tasks (w : World) : ∃ Z : Array Value, (Instr.makeSlice TKS (.int .i64 0) (.int .i64 16)).run Tryd.prog w = .ok (.slice (some ⟨w.heap.size, 0, none⟩) 0 16) (w.alloc (.cells Z TKE)) ∧ (∀ base, base ≤ w.heap.size → Left base (w.alloc (.cells Z TKE)) (.slice (some ⟨w.heap.size, 0, none⟩) 0 16) []) := by
  obtain ⟨i0, hi, hz0, hz1, hz2⟩ := info_parts infoTk
  have h := run_make (P := Tryd.prog) w TKS TKE i0 _ Tryd.underlying90 hi hz0 .i64 .i64 0 16 (by omega) (by omega) (by rw [hz2]; omega) (by omega)
  rw [hz1] at h
  exact ⟨_, h, fun base hb => World.ownsRow_made w _ 16 hb (by decide) (size_madeCells _ _)⟩
theorem make_done (w : World) (n : Nat) (hn : n ≤ 1000000) : ∃ Z : Array Value, (Instr.makeSlice INTS (.int .i64 0) (.int .i64 ((n : Int) + 1))).run Tryd.prog w = .ok (.slice (some ⟨w.heap.size, 0, none⟩) 0 (n + 1)) (w.alloc (.cells Z INT)) ∧ (∀ base, base ≤ w.heap.size → Dn base (w.alloc (.cells Z INT)) (.slice (some ⟨w.heap.size, 0, none⟩) 0 (n + 1)) []) := by
  obtain ⟨i0, hi, hz0, hz1, hz2⟩ := info_parts infoZ
  have h := run_make (P := Tryd.prog) w INTS INT i0 _ Tryd.underlying25 hi hz0 .i64 .i64 0 ((n : Int) + 1) (by omega) (by omega) (by rw [hz2]; omega) (by omega)
  rw [hz1] at h
  have e : ((n : Int) + 1).toNat = n + 1 := by omega
  rw [e] at h
  exact ⟨_, h, fun base hb => World.ownsRow_made w _ (n + 1) hb (by unfold maxLen; omega) (size_madeCells _ _)⟩
set_option maxHeartbeats 8000000 in
set_option maxRecDepth 100000 in
theorem values_any (w : World) (sv : Value) (c : Int) (T : List Sy) (stv : Value) (s : List Int) (lv : Value) (l : List E) (hs : Syms w sv T) (ht : Ev.Fine T) (hst : Ints w stv s) (hsl : s.length ≤ 1000000) (hl : Forest w (fun _ => True) l lv) (hn : 2 * Ev.szs l ≤ 90000) (hln : l.length ≤ 90000) :
    Calls Tryd.prog 23 #[.agg #[sv, .int .i64 c], stv, lv] w fun e w' => ∃ dv f, e = .returned (.tuple #[dv, f]) ∧ VlsOk (Ev.evs T s l) w w' dv f ∧ Below w.heap.size w w' := by
  have ha := alloc_below w (.cells #[sv, .int .i64 c] TbT)
  obtain ⟨Z1, hr1, hL1⟩ := make_tasks (w.alloc (.cells #[sv, .int .i64 c] TbT))
  have hz : (w.alloc (.cells #[sv, .int .i64 c] TbT)).heap.size = w.heap.size + 1 := by simp
  have hc0 : (w.alloc (.cells #[sv, .int .i64 c] TbT)).cell? ⟨w.heap.size, 0, none⟩ = some sv := by simp
  have hc1 : (w.alloc (.cells #[sv, .int .i64 c] TbT)).cell? ⟨w.heap.size, 1, none⟩ = some (.int .i64 c) := by simp
  have hb1 := alloc_below (w.alloc (.cells #[sv, .int .i64 c] TbT)) (.cells Z1 TKE)
  have hlL := hL1 (w.heap.size + 1) (by omega)
  obtain ⟨sa, sc, rfl⟩ := hs.shape
  obtain ⟨ta, tc, rfl⟩ := hst.shape
  have HT := hide (And.intro hs (And.intro ht hst))
  have HAH := hide (ahead_any ((w.alloc (.cells #[.slice sa T.length sc, .int .i64 c] TbT)).alloc (.cells Z1 TKE)) w (w.heap.size + 1) _ [] lv l hlL (by have := hb1.size; omega) hl (by omega) (by simp))
  obtain ⟨la, lc, rfl⟩ := hl.shape
  generalize hTn : T.length = tn at *
  generalize hlnn : l.length = ln at *
  generalize hsn : s.length = sn at *
  clear hs ht hst hl hL1 hlL
  rw [hz] at hr1 HAH
  go_enter Tryd.func23, Tryd.ntmps23
  go_wp2_with fail
  refine (unhide HAH).mono ?_
  rintro ev w1 ⟨v1, es, rfl, hL1, hes, hok, hO1⟩
  rw [List.append_nil] at hL1
  have hg1 := grown_old (bthen ha hb1) hO1.grown (fun k e => by
    have e2 : w.heap.size + 1 = k := Option.some.inj e
    omega)
  have hz1 : ((w.alloc (.cells #[.slice sa tn sc, .int .i64 c] TbT)).alloc (.cells Z1 TKE)).heap.size ≥ w.heap.size + 1 := by have := hb1.size; omega
  have hs1 : w.heap.size + 1 ≤ w1.heap.size := Nat.le_trans hz1 hO1.grown.size
  have q0 := (hg1.2 hz1 0).trans ((hb1.cell (p := ⟨w.heap.size, 0, none⟩) (by show w.heap.size < _; omega)).trans hc0)
  have q1 := (hg1.2 hz1 1).trans ((hb1.cell (p := ⟨w.heap.size, 1, none⟩) (by show w.heap.size < _; omega)).trans hc1)
  obtain ⟨Z2, hr2, hD2⟩ := make_done w1 ln (by omega)
  have hb2 := alloc_below w1 (.cells Z2 INT)
  have HM : Hid (VM w (w1.alloc (.cells Z2 INT)) T s l (.slice sa tn sc) c v1 (.slice (some ⟨w1.heap.size, 0, none⟩) 0 (ln + 1)) es []) := hide ⟨below_own hL1 hb2, hD2 _ hs1, hok, by rw [hes]; exact den_start T s l, by rw [hes]; exact fit_start l, bthen hg1.1 hb2, (hb2.cell (p := ⟨w.heap.size, 0, none⟩) (cell_lt q0)).trans q0, (hb2.cell (p := ⟨w.heap.size, 1, none⟩) (cell_lt q1)).trans q1, by rw [hes, Ev.wt_fresh]; simp; omega⟩
  have hgw : Ev.wt (es.map Ent.tk) ≤ 90000 := by rw [hes, Ev.wt_fresh]; exact hn
  obtain ⟨va1, vc1, hvs1⟩ := hL1.shape
  subst hvs1
  clear hL1 hes hok hO1 hg1 hD2 hb2 q0 q1 hc0 hc1 hb1 hr1 HAH ha hz hz1
  go_wp2_with fail
  generalize (w1.alloc (.cells Z2 INT)) = W0 at *
  clear hr2
  go_loopg [8, 9] (Ev.wt (es.map Ent.tk)) (fun k v d wr => k ≤ 90000 ∧ ∃ (K : List Ent) (D : List Int), Ev.wt (K.map Ent.tk) = k ∧ Hid (VM w wr T s l (.slice sa tn sc) c v d K D))
  case atStart => exact ⟨hgw, _, _, rfl, HM⟩
  case round =>
    obtain ⟨hgk, K, D, hk, HMM⟩ := hrel
    obtain ⟨da, dc, hds⟩ := (unhide HMM).done.shape
    subst hds
    cases K with
    | nil =>
      obtain ⟨va, vc, hvs⟩ := (unhide HMM).left.shape
      rw [List.length_nil] at hvs
      subst hvs
      have hR : Ev.evs T s l = .inr D := by rw [← (unhide HMM).dn]; rfl
      have HR := hide hR
      clear hR
      generalize hdl : D.length = dn at *
      go_wp2_with fail
      go_ret2
      exact ⟨_, _, rfl, by rw [unhide HR]; exact ⟨rfl, own_ints (unhide HMM).done⟩, (unhide HMM).old⟩
    | cons t K =>
      obtain ⟨g, cap, hv, hcap, hg1, hg2, c0, c1, -, -, -, -⟩ := (unhide HMM).left.top
      subst hv
      have ha2 := alloc_below wr (.cells #[.pointer (some ⟨t.b, t.o, none⟩), .bool t.k] TKE)
      have HM2 := hide ((unhide HMM).below ha2)
      have het := (unhide HMM).ok t (by simp)
      have HPT := hide (parts_any _ t.b t.o t.x t.sx ((het.below (unhide HM2).old).at_))
      have hpf := partV_forest het.parts
      obtain ⟨pa, pc, hpv⟩ := hpf.shape
      rw [hpv] at HPT
      have b0 : (wr.alloc (.cells #[.pointer (some ⟨t.b, t.o, none⟩), .bool t.k] TKE)).cell? ⟨wr.heap.size, 0, none⟩ = some (.pointer (some ⟨t.b, t.o, none⟩)) := by simp
      have b1 : (wr.alloc (.cells #[.pointer (some ⟨t.b, t.o, none⟩), .bool t.k] TKE)).cell? ⟨wr.heap.size, 1, none⟩ = some (.bool t.k) := by simp
      have hKl : K.length + 1 ≤ 90000 := by have := Ev.wt_len ((t :: K).map Ent.tk); rw [List.length_map, List.length_cons] at this; omega
      have hcap2 : (K.length : Int) + 1 ≤ cap := by omega
      have hfew := (unhide HMM).few
      have HB2 := hide ha2
      clear ha2
      by_cases hcs : t.k = false ∧ 0 < (Ev.parts t.x).length
      · obtain ⟨hkf, hnp⟩ := hcs
        rw [hkf] at c1 b1 HPT HM2 b0 HB2
        have hnl : (Ev.parts t.x).length ≤ 90000 := by
          have h1 : Ev.wt ((t :: K).map Ent.tk) = 2 * Ev.sz t.x + Ev.wt (K.map Ent.tk) := by rw [List.map_cons, Ent.tk, hkf, Ev.wt]
          have h2 := Ev.szs_parts t.x
          have h3 := Ev.szs_len (Ev.parts t.x)
          omega
        have hzw : w.heap.size + 1 ≤ wr.heap.size := (unhide HMM).sz
        generalize hW2 : (wr.alloc (.cells #[.pointer (some ⟨t.b, t.o, none⟩), .bool false] TKE)) = W2 at *
        have HW2 := hide hW2
        clear hW2
        obtain ⟨g', cap', hv', hcap', hg1', hg2', d0, d1, df, dpop, dmark, dgrown⟩ := (unhide HM2).left.top
        injection hv' with e1 e2 e3
        injection e1 with e1
        injection e1 with e1
        subst e1 e3
        have HAH2 := hide (ahead_any (W2.setCell ⟨g, K.length * 2 + 1, none⟩ (.bool true)) w (w.heap.size + 1) _ (⟨t.b, t.o, t.sx, t.x, true⟩ :: K) (.slice pa (Ev.parts t.x).length pc) (Ev.parts t.x) dmark (by have := dgrown.size; have := (unhide HM2).sz; omega) (hpv ▸ hpf) (by omega) (by rw [List.length_cons]; omega))
        have HPU : Hid (∀ w4 v4 es4, Left (w.heap.size + 1) w4 v4 (es4 ++ ⟨t.b, t.o, t.sx, t.x, true⟩ :: K) → es4.map Ent.tk = Ev.fresh (Ev.parts t.x) → (∀ u ∈ es4, EntOk w u) → Oth (W2.setCell ⟨g, K.length * 2 + 1, none⟩ (.bool true)) w4 (.slice (some ⟨g, 0, none⟩) (K.length + 1) cap) v4 → VM w w4 T s l (.slice sa tn sc) c v4 (.slice da D.length dc) (es4 ++ ⟨t.b, t.o, t.sx, t.x, true⟩ :: K) D ∧ Ev.wt ((es4 ++ ⟨t.b, t.o, t.sx, t.x, true⟩ :: K).map Ent.tk) < gk) := hide (fun w4 v4 es4 a1 a2 a3 a4 => by
          have := (unhide HM2).pushed hkf g rfl dgrown a4 a1 a2 a3
          rw [hk] at this
          exact this)
        have hnp2 : (0 : Int) < (Ev.parts t.x).length := by omega
        rw [hkf] at d1
        clear d0 dpop dmark dgrown hpf hfew hk het HB2
        generalize (Ev.parts t.x).length = np at *
        generalize hKn : K.length = kn at *
        generalize hdl : D.length = dn at *
        go_wp2_with fail
        rw [unhide HW2]
        refine (unhide HPT).mono ?_
        rintro ev w9 ⟨rfl, rfl⟩
        go_wp2_with fail
        refine (unhide HAH2).mono ?_
        rintro ev w4 ⟨v4, es4, rfl, hL4, hes4, hok4, hO4⟩
        obtain ⟨hM4, hlt⟩ := unhide HPU w4 v4 es4 hL4 hes4 hok4 hO4
        have HM4 := hide hM4
        clear hM4 hL4 hes4 hok4 hO4 HAH2 HPU
        go_wp2
        go_roundg (Ev.wt ((es4 ++ ⟨t.b, t.o, t.sx, t.x, true⟩ :: K).map Ent.tk))
        case measure => exact hlt
        case rel => exact ⟨by omega, _, _, rfl, HM4⟩
      · have hready : t.k = true ∨ Ev.parts t.x = [] := by
          cases hkk : t.k with
          | true => exact .inl rfl
          | false => exact .inr (by
              rcases Nat.eq_zero_or_pos (Ev.parts t.x).length with h | h
              · exact List.length_eq_zero_iff.1 h
              · exact absurd ⟨hkk, h⟩ hcs)
        have hzw : w.heap.size + 1 ≤ wr.heap.size := (unhide HMM).sz
        generalize hW2 : (wr.alloc (.cells #[.pointer (some ⟨t.b, t.o, none⟩), .bool t.k] TKE)) = W2 at *
        have HW2 := hide hW2
        clear hW2
        obtain ⟨g', cap', hv', hcap', hg1', hg2', d0, d1, df, dpop, -, -⟩ := (unhide HM2).left.top
        injection hv' with e1 e2 e3
        injection e1 with e1
        injection e1 with e1
        subst e1 e3
        obtain ⟨r1, r2, r3, r4, r5⟩ := (unhide HM2).ready hready
        have hDn := (unhide HM2).done
        have hdc : D.length ≤ dc := by
          rcases hDn.2 with ⟨e, h5⟩ | ⟨_, _, _, e, _, _, h6, _⟩
          · injection e with _ _ e3; omega
          · injection e with _ _ e3; omega
        have hID := (own_ints hDn).drop (D.length - (Ev.parts t.x).length) (by omega)
        have hs2 := (unhide HM2).sz
        have hst := unhide HT
        have hval := fun n => value_any (W2.drewN n) (.slice sa tn sc) c T (.slice ta sn tc) s t.b t.o t.x t.sx _ _ (hst.1.below (below_drewN (unhide HM2).old n)) hst.2.1 (hst.2.2.below (below_drewN (unhide HM2).old n)) (by omega) ((het.below (below_drewN (unhide HM2).old n)).at_) (hID.below (below_drewN (Below.refl _ _) n)) (by rw [List.length_drop]; omega)
        have HST : Hid (∀ w4 w5 dv', (Ev.valP T s t.x (D.drop (D.length - (Ev.parts t.x).length))).err = 0 → Below W2.heap.size W2 w5 → Oth w5 w4 (.slice da (D.length - (Ev.parts t.x).length) dc) dv' → Dn (w.heap.size + 1) w4 dv' (D.take (D.length - (Ev.parts t.x).length) ++ [(Ev.valP T s t.x (D.drop (D.length - (Ev.parts t.x).length))).v]) → VM w w4 T s l (.slice sa tn sc) c (.slice (some ⟨g, 0, none⟩) K.length cap) dv' K (D.take (D.length - (Ev.parts t.x).length) ++ [(Ev.valP T s t.x (D.drop (D.length - (Ev.parts t.x).length))).v])) := hide (fun w4 w5 dv' a1 a2 a3 a4 => (unhide HM2).stepped hready a1 a2 (below_own dpop a2) (below_own (hDn.take (by omega)) a2) a3 a4)
        have HAD : Hid (∀ w5, Below W2.heap.size W2 w5 → ∃ v' w', (Builtin.append_ #[INTS, INTS] INTS #[.slice da (D.length - (Ev.parts t.x).length) dc, .slice (some ⟨w5.heap.size, 0, none⟩) 1 1]).run Tryd.prog (w5.alloc (.cells #[.int .i64 (Ev.valP T s t.x (D.drop (D.length - (Ev.parts t.x).length))).v] INT)) = .ok v' w' ∧ Dn (w.heap.size + 1) w' v' (D.take (D.length - (Ev.parts t.x).length) ++ [(Ev.valP T s t.x (D.drop (D.length - (Ev.parts t.x).length))).v]) ∧ Oth w5 w' (.slice da (D.length - (Ev.parts t.x).length) dc) v') := hide (fun w5 a2 => append_done (below_own (hDn.take (by omega)) a2) (by have := a2.size; omega) (by rw [List.length_take]; omega) _)
        have HOLD := hide (unhide HM2).old
        have hwtK : Ev.wt (K.map Ent.tk) < gk := by omega
        generalize hV : Ev.valP T s t.x (D.drop (D.length - (Ev.parts t.x).length)) = V at *
        generalize hnpp : (Ev.parts t.x).length = np at *
        generalize hDM : D.take (D.length - np) = DM at *
        generalize hdl : D.length = dn at *
        have hsl1 : ∀ W, (Instr.slice INTS (.slice da dn dc) (some (.int .i64 ((dn : Int) - np))) none none).run Tryd.prog W = .ok (.slice (if dc = dn - np then da else da.map (·.add (dn - np))) (dn - (dn - np)) (dc - (dn - np))) W := fun W => by
          rw [show (dn : Int) - np = ((dn - np : Nat) : Int) by omega]
          exact runI_slice1 _ _ _ _ (by omega) hdc
        have hsl0 : ∀ W, (Instr.slice INTS (.slice da dn dc) none (some (.int .i64 ((dn : Int) - np))) none).run Tryd.prog W = .ok (.slice da (dn - np) dc) W := fun W => by
          rw [show (dn : Int) - np = ((dn - np : Nat) : Int) by omega]
          exact runI_slice0 _ _ _ _ (by omega)
        have HVAL := hide hval
        generalize (if dc = dn - np then da else da.map (·.add (dn - np))) = da2 at *
        generalize dn - (dn - np) = n2 at *
        generalize dc - (dn - np) = c2 at *
        have r1' : (np : Int) ≤ dn := by omega
        have HR3 := hide r3
        clear hval hID hDn dpop r2 r3 r4 hst hV
        generalize dn - np = m at *
        have t0 := (unhide HM2).t0
        have t1 := (unhide HM2).t1
        by_cases hkk : t.k = true
        · rw [hkk] at c1 b1 HW2
          clear hkk hcs hready
          go_wp2_with fail
          rw [unhide HW2]
          refine (unhide HPT).mono ?_
          rintro ev w9 ⟨rfl, hw9⟩
          have hw9 := hw9.symm
          subst hw9
          go_wp2_with fail
          refine wp_regionE (fun W => W.cell? ⟨w.heap.size, 0, none⟩ = some (.slice sa tn sc) ∧ W.cell? ⟨w.heap.size, 1, none⟩ = some (.int .i64 c) ∧ W.cell? ⟨wr.heap.size, 0, none⟩ = some (.pointer (some ⟨t.b, t.o, none⟩))) (fun j => decide (j < 13)) (by kernel_rfl) ⟨t0, t1, b0⟩ (fun hS => ?_)
          have HV1 := hide (unhide HVAL 1)
          clear t0 t1 b0 b1 HVAL
          refine anyE_take 0 (v := ?_) rfl (by kernel_rfl) (by kernel_rfl) (by kernel_rfl) (by kernel_rfl) (fun _ _ _ h => h) hS (Or.inl ⟨by rfl, ?_⟩) ?_
          rotate_left
          · intro w' hS'
            obtain ⟨e1, e2, e3⟩ := hS'
            go_simp
            try with_reducible rfl
          try simp only [List.getElem_toArray, List.getElem_cons_zero, Act.put, List.setIfInBounds_toArray, List.set_cons_zero, List.set_cons_succ]
          refine anyE_take 1 (v := ?_) rfl (by kernel_rfl) (by kernel_rfl) (by kernel_rfl) (by kernel_rfl) (fun _ _ _ h => h) hS (Or.inl ⟨by rfl, ?_⟩) ?_
          rotate_left
          · intro w' hS'
            obtain ⟨e1, e2, e3⟩ := hS'
            go_simp
            try with_reducible rfl
          try simp only [List.getElem_toArray, List.getElem_cons_succ, List.getElem_cons_zero, Act.put, List.setIfInBounds_toArray, List.set_cons_zero, List.set_cons_succ]
          refine anyE_take 2 (v := ?_) rfl (by kernel_rfl) (by kernel_rfl) (by kernel_rfl) (by kernel_rfl) (fun _ _ _ h => h) hS (Or.inl ⟨by rfl, ?_⟩) ?_
          rotate_left
          · intro w' hS'
            obtain ⟨e1, e2, e3⟩ := hS'
            go_simp
            try with_reducible rfl
          try simp only [List.getElem_toArray, List.getElem_cons_succ, List.getElem_cons_zero, Act.put, List.setIfInBounds_toArray, List.set_cons_zero, List.set_cons_succ]
          refine anyE_take 3 (v := ?_) rfl (by kernel_rfl) (by kernel_rfl) (by kernel_rfl) (by kernel_rfl) (fun _ _ _ h => h) hS (Or.inl ⟨by rfl, ?_⟩) ?_
          rotate_left
          · intro w' hS'
            obtain ⟨e1, e2, e3⟩ := hS'
            go_simp
            try with_reducible rfl
          try simp only [List.getElem_toArray, List.getElem_cons_succ, List.getElem_cons_zero, Act.put, List.setIfInBounds_toArray, List.set_cons_zero, List.set_cons_succ]
          refine anyE_take 4 (v := ?_) rfl (by kernel_rfl) (by kernel_rfl) (by kernel_rfl) (by kernel_rfl) (fun _ _ _ h => h) hS (Or.inl ⟨by rfl, ?_⟩) ?_
          rotate_left
          · intro w' hS'
            obtain ⟨e1, e2, e3⟩ := hS'
            go_simp
            try with_reducible rfl
          try simp only [List.getElem_toArray, List.getElem_cons_succ, List.getElem_cons_zero, Act.put, List.setIfInBounds_toArray, List.set_cons_zero, List.set_cons_succ]
          refine anyE_take 5 (v := ?_) rfl (by kernel_rfl) (by kernel_rfl) (by kernel_rfl) (by kernel_rfl) (fun _ _ _ h => h) hS (Or.inl ⟨by rfl, ?_⟩) ?_
          rotate_left
          · intro w' hS'
            obtain ⟨e1, e2, e3⟩ := hS'
            go_simp
            try with_reducible rfl
          try simp only [List.getElem_toArray, List.getElem_cons_succ, List.getElem_cons_zero, Act.put, List.setIfInBounds_toArray, List.set_cons_zero, List.set_cons_succ]
          refine anyE_take 6 (v := ?_) rfl (by kernel_rfl) (by kernel_rfl) (by kernel_rfl) (by kernel_rfl) (fun _ _ _ h => h) hS (Or.inl ⟨by rfl, ?_⟩) ?_
          rotate_left
          · intro w' hS'
            obtain ⟨e1, e2, e3⟩ := hS'
            go_simp
            try with_reducible rfl
          try simp only [List.getElem_toArray, List.getElem_cons_succ, List.getElem_cons_zero, Act.put, List.setIfInBounds_toArray, List.set_cons_zero, List.set_cons_succ]
          refine anyE_ready [7] (by kernel_rfl) (by simp) (ReadyE.cons rfl (fun K' hK => ?_) ReadyE.nil)
          go_simp
          go_at_call 31
          refine (unhide HV1).mono ?_
          rintro ev w5 ⟨f5, rfl, hf5, hb5⟩
          have hb6 : Below W2.heap.size W2 w5 := (below_drewN (Below.refl _ _) 1).trans hb5
          have hS5 : w5.cell? ⟨w.heap.size, 0, none⟩ = some (.slice sa tn sc) ∧ w5.cell? ⟨w.heap.size, 1, none⟩ = some (.int .i64 c) ∧ w5.cell? ⟨wr.heap.size, 0, none⟩ = some (.pointer (some ⟨t.b, t.o, none⟩)) := ⟨(hb5.cell (p := ⟨w.heap.size, 0, none⟩) (cell_lt hS.1)).trans hS.1, (hb5.cell (p := ⟨w.heap.size, 1, none⟩) (cell_lt hS.2.1)).trans hS.2.1, (hb5.cell (p := ⟨wr.heap.size, 0, none⟩) (cell_lt hS.2.2)).trans hS.2.2⟩
          have HF5 := hide (says_mono hf5 (show w.heap.size ≤ (W2.drewN 1).heap.size by show w.heap.size ≤ W2.heap.size; omega))
          have HB5 := hide hb6
          have HS5 := hide hS5
          clear hf5 hb5 hb6 hS5
          dsimp only
          try go_simp
          refine hK _ _ (fun _ => unhide HS5) ?_
          clear hK K'
          try simp only [List.getElem_toArray, List.getElem_cons_succ, List.getElem_cons_zero, Act.put, List.setIfInBounds_toArray, List.set_cons_zero, List.set_cons_succ]
          clear hS
          have hS := unhide HS5
          refine anyE_take 8 (v := ?_) rfl (by kernel_rfl) (by kernel_rfl) (by kernel_rfl) (by kernel_rfl) (fun _ _ _ h => h) hS (Or.inl ⟨by rfl, ?_⟩) ?_
          rotate_left
          · intro w' hS'
            obtain ⟨e1, e2, e3⟩ := hS'
            go_simp
            try with_reducible rfl
          try simp only [List.getElem_toArray, List.getElem_cons_succ, List.getElem_cons_zero, Act.put, List.setIfInBounds_toArray, List.set_cons_zero, List.set_cons_succ]
          refine anyE_take 9 (v := ?_) rfl (by kernel_rfl) (by kernel_rfl) (by kernel_rfl) (by kernel_rfl) (fun _ _ _ h => h) hS (Or.inl ⟨by rfl, ?_⟩) ?_
          rotate_left
          · intro w' hS'
            obtain ⟨e1, e2, e3⟩ := hS'
            go_simp
            try with_reducible rfl
          try simp only [List.getElem_toArray, List.getElem_cons_succ, List.getElem_cons_zero, Act.put, List.setIfInBounds_toArray, List.set_cons_zero, List.set_cons_succ]
          refine anyE_take 10 (v := ?_) rfl (by kernel_rfl) (by kernel_rfl) (by kernel_rfl) (by kernel_rfl) (fun _ _ _ h => h) hS (Or.inl ⟨by rfl, ?_⟩) ?_
          rotate_left
          · intro w' hS'
            obtain ⟨e1, e2, e3⟩ := hS'
            go_simp
            try with_reducible rfl
          try simp only [List.getElem_toArray, List.getElem_cons_succ, List.getElem_cons_zero, Act.put, List.setIfInBounds_toArray, List.set_cons_zero, List.set_cons_succ]
          refine anyE_take 11 (v := ?_) rfl (by kernel_rfl) (by kernel_rfl) (by kernel_rfl) (by kernel_rfl) (fun _ _ _ h => h) hS (Or.inl ⟨by rfl, ?_⟩) ?_
          rotate_left
          · intro w' hS'
            obtain ⟨e1, e2, e3⟩ := hS'
            go_simp
            try with_reducible rfl
          try simp only [List.getElem_toArray, List.getElem_cons_succ, List.getElem_cons_zero, Act.put, List.setIfInBounds_toArray, List.set_cons_zero, List.set_cons_succ]
          refine anyE_take 12 (v := ?_) rfl (by kernel_rfl) (by kernel_rfl) (by kernel_rfl) (by kernel_rfl) (fun _ _ _ h => h) hS (Or.inl ⟨by rfl, ?_⟩) ?_
          rotate_left
          · intro w' hS'
            obtain ⟨e1, e2, e3⟩ := hS'
            go_simp
            try with_reducible rfl
          try simp only [List.getElem_toArray, List.getElem_cons_succ, List.getElem_cons_zero, Act.put, List.setIfInBounds_toArray, List.set_cons_zero, List.set_cons_succ]
          refine anyE_done (by kernel_rfl) ?_ _
          have hR3 := unhide HR3
          rcases unhide HF5 with ⟨z5, rfl⟩ | ⟨z5, bb, _, rfl, _, _, _⟩
          · obtain ⟨v6, w6, hr6, hD6, hO6⟩ := unhide HAD w5 (unhide HB5)
            have HM6 := hide (unhide HST w6 w5 v6 z5 (unhide HB5) hO6 hD6)
            clear hD6 hO6 hR3 hS hsl1
            go_wp2_with (at_builtin; refine wpList_append_runG INTS rfl _ _ rfl rfl _ _ rfl rfl _ w6 hr6 ?_)
            go_roundg (Ev.wt (K.map Ent.tk))
            case measure => exact hwtK
            case rel => exact ⟨by omega, _, _, rfl, HM6⟩
          · rw [if_pos z5] at hR3
            have HR5 := hide hR3
            clear hR3 hS hsl0 hsl1
            go_wp2_with fail
            go_ret2
            exact ⟨_, _, rfl, by rw [unhide HR5]; exact ⟨rfl, z5, unhide HF5⟩, bthen (unhide HOLD) (unhide HB5)⟩
        · have hkf : t.k = false := by simpa using hkk
          have hnp0 : np = 0 := by
            rcases Nat.eq_zero_or_pos np with h | h
            · exact h
            · exact absurd ⟨hkf, h⟩ hcs
          have hnp1 : ¬ (0 : Int) < np := by omega
          rw [hkf] at c1 b1 HW2
          clear hkk hkf hcs hready hnp0
          go_wp2_with fail
          rw [unhide HW2]
          refine (unhide HPT).mono ?_
          rintro ev w9 ⟨rfl, hw9⟩
          have hw9 := hw9.symm
          subst hw9
          go_wp2_with fail
          refine wp_regionE (fun W => W.cell? ⟨w.heap.size, 0, none⟩ = some (.slice sa tn sc) ∧ W.cell? ⟨w.heap.size, 1, none⟩ = some (.int .i64 c) ∧ W.cell? ⟨wr.heap.size, 0, none⟩ = some (.pointer (some ⟨t.b, t.o, none⟩))) (fun j => decide (j < 13)) (by kernel_rfl) ⟨t0, t1, b0⟩ (fun hS => ?_)
          have HV1 := hide (unhide HVAL 1)
          clear t0 t1 b0 b1 HVAL
          refine anyE_take 0 (v := ?_) rfl (by kernel_rfl) (by kernel_rfl) (by kernel_rfl) (by kernel_rfl) (fun _ _ _ h => h) hS (Or.inl ⟨by rfl, ?_⟩) ?_
          rotate_left
          · intro w' hS'
            obtain ⟨e1, e2, e3⟩ := hS'
            go_simp
            try with_reducible rfl
          try simp only [List.getElem_toArray, List.getElem_cons_zero, Act.put, List.setIfInBounds_toArray, List.set_cons_zero, List.set_cons_succ]
          refine anyE_take 1 (v := ?_) rfl (by kernel_rfl) (by kernel_rfl) (by kernel_rfl) (by kernel_rfl) (fun _ _ _ h => h) hS (Or.inl ⟨by rfl, ?_⟩) ?_
          rotate_left
          · intro w' hS'
            obtain ⟨e1, e2, e3⟩ := hS'
            go_simp
            try with_reducible rfl
          try simp only [List.getElem_toArray, List.getElem_cons_succ, List.getElem_cons_zero, Act.put, List.setIfInBounds_toArray, List.set_cons_zero, List.set_cons_succ]
          refine anyE_take 2 (v := ?_) rfl (by kernel_rfl) (by kernel_rfl) (by kernel_rfl) (by kernel_rfl) (fun _ _ _ h => h) hS (Or.inl ⟨by rfl, ?_⟩) ?_
          rotate_left
          · intro w' hS'
            obtain ⟨e1, e2, e3⟩ := hS'
            go_simp
            try with_reducible rfl
          try simp only [List.getElem_toArray, List.getElem_cons_succ, List.getElem_cons_zero, Act.put, List.setIfInBounds_toArray, List.set_cons_zero, List.set_cons_succ]
          refine anyE_take 3 (v := ?_) rfl (by kernel_rfl) (by kernel_rfl) (by kernel_rfl) (by kernel_rfl) (fun _ _ _ h => h) hS (Or.inl ⟨by rfl, ?_⟩) ?_
          rotate_left
          · intro w' hS'
            obtain ⟨e1, e2, e3⟩ := hS'
            go_simp
            try with_reducible rfl
          try simp only [List.getElem_toArray, List.getElem_cons_succ, List.getElem_cons_zero, Act.put, List.setIfInBounds_toArray, List.set_cons_zero, List.set_cons_succ]
          refine anyE_take 4 (v := ?_) rfl (by kernel_rfl) (by kernel_rfl) (by kernel_rfl) (by kernel_rfl) (fun _ _ _ h => h) hS (Or.inl ⟨by rfl, ?_⟩) ?_
          rotate_left
          · intro w' hS'
            obtain ⟨e1, e2, e3⟩ := hS'
            go_simp
            try with_reducible rfl
          try simp only [List.getElem_toArray, List.getElem_cons_succ, List.getElem_cons_zero, Act.put, List.setIfInBounds_toArray, List.set_cons_zero, List.set_cons_succ]
          refine anyE_take 5 (v := ?_) rfl (by kernel_rfl) (by kernel_rfl) (by kernel_rfl) (by kernel_rfl) (fun _ _ _ h => h) hS (Or.inl ⟨by rfl, ?_⟩) ?_
          rotate_left
          · intro w' hS'
            obtain ⟨e1, e2, e3⟩ := hS'
            go_simp
            try with_reducible rfl
          try simp only [List.getElem_toArray, List.getElem_cons_succ, List.getElem_cons_zero, Act.put, List.setIfInBounds_toArray, List.set_cons_zero, List.set_cons_succ]
          refine anyE_take 6 (v := ?_) rfl (by kernel_rfl) (by kernel_rfl) (by kernel_rfl) (by kernel_rfl) (fun _ _ _ h => h) hS (Or.inl ⟨by rfl, ?_⟩) ?_
          rotate_left
          · intro w' hS'
            obtain ⟨e1, e2, e3⟩ := hS'
            go_simp
            try with_reducible rfl
          try simp only [List.getElem_toArray, List.getElem_cons_succ, List.getElem_cons_zero, Act.put, List.setIfInBounds_toArray, List.set_cons_zero, List.set_cons_succ]
          refine anyE_ready [7] (by kernel_rfl) (by simp) (ReadyE.cons rfl (fun K' hK => ?_) ReadyE.nil)
          go_simp
          go_at_call 31
          refine (unhide HV1).mono ?_
          rintro ev w5 ⟨f5, rfl, hf5, hb5⟩
          have hb6 : Below W2.heap.size W2 w5 := (below_drewN (Below.refl _ _) 1).trans hb5
          have hS5 : w5.cell? ⟨w.heap.size, 0, none⟩ = some (.slice sa tn sc) ∧ w5.cell? ⟨w.heap.size, 1, none⟩ = some (.int .i64 c) ∧ w5.cell? ⟨wr.heap.size, 0, none⟩ = some (.pointer (some ⟨t.b, t.o, none⟩)) := ⟨(hb5.cell (p := ⟨w.heap.size, 0, none⟩) (cell_lt hS.1)).trans hS.1, (hb5.cell (p := ⟨w.heap.size, 1, none⟩) (cell_lt hS.2.1)).trans hS.2.1, (hb5.cell (p := ⟨wr.heap.size, 0, none⟩) (cell_lt hS.2.2)).trans hS.2.2⟩
          have HF5 := hide (says_mono hf5 (show w.heap.size ≤ (W2.drewN 1).heap.size by show w.heap.size ≤ W2.heap.size; omega))
          have HB5 := hide hb6
          have HS5 := hide hS5
          clear hf5 hb5 hb6 hS5
          dsimp only
          try go_simp
          refine hK _ _ (fun _ => unhide HS5) ?_
          clear hK K'
          try simp only [List.getElem_toArray, List.getElem_cons_succ, List.getElem_cons_zero, Act.put, List.setIfInBounds_toArray, List.set_cons_zero, List.set_cons_succ]
          clear hS
          have hS := unhide HS5
          refine anyE_take 8 (v := ?_) rfl (by kernel_rfl) (by kernel_rfl) (by kernel_rfl) (by kernel_rfl) (fun _ _ _ h => h) hS (Or.inl ⟨by rfl, ?_⟩) ?_
          rotate_left
          · intro w' hS'
            obtain ⟨e1, e2, e3⟩ := hS'
            go_simp
            try with_reducible rfl
          try simp only [List.getElem_toArray, List.getElem_cons_succ, List.getElem_cons_zero, Act.put, List.setIfInBounds_toArray, List.set_cons_zero, List.set_cons_succ]
          refine anyE_take 9 (v := ?_) rfl (by kernel_rfl) (by kernel_rfl) (by kernel_rfl) (by kernel_rfl) (fun _ _ _ h => h) hS (Or.inl ⟨by rfl, ?_⟩) ?_
          rotate_left
          · intro w' hS'
            obtain ⟨e1, e2, e3⟩ := hS'
            go_simp
            try with_reducible rfl
          try simp only [List.getElem_toArray, List.getElem_cons_succ, List.getElem_cons_zero, Act.put, List.setIfInBounds_toArray, List.set_cons_zero, List.set_cons_succ]
          refine anyE_take 10 (v := ?_) rfl (by kernel_rfl) (by kernel_rfl) (by kernel_rfl) (by kernel_rfl) (fun _ _ _ h => h) hS (Or.inl ⟨by rfl, ?_⟩) ?_
          rotate_left
          · intro w' hS'
            obtain ⟨e1, e2, e3⟩ := hS'
            go_simp
            try with_reducible rfl
          try simp only [List.getElem_toArray, List.getElem_cons_succ, List.getElem_cons_zero, Act.put, List.setIfInBounds_toArray, List.set_cons_zero, List.set_cons_succ]
          refine anyE_take 11 (v := ?_) rfl (by kernel_rfl) (by kernel_rfl) (by kernel_rfl) (by kernel_rfl) (fun _ _ _ h => h) hS (Or.inl ⟨by rfl, ?_⟩) ?_
          rotate_left
          · intro w' hS'
            obtain ⟨e1, e2, e3⟩ := hS'
            go_simp
            try with_reducible rfl
          try simp only [List.getElem_toArray, List.getElem_cons_succ, List.getElem_cons_zero, Act.put, List.setIfInBounds_toArray, List.set_cons_zero, List.set_cons_succ]
          refine anyE_take 12 (v := ?_) rfl (by kernel_rfl) (by kernel_rfl) (by kernel_rfl) (by kernel_rfl) (fun _ _ _ h => h) hS (Or.inl ⟨by rfl, ?_⟩) ?_
          rotate_left
          · intro w' hS'
            obtain ⟨e1, e2, e3⟩ := hS'
            go_simp
            try with_reducible rfl
          try simp only [List.getElem_toArray, List.getElem_cons_succ, List.getElem_cons_zero, Act.put, List.setIfInBounds_toArray, List.set_cons_zero, List.set_cons_succ]
          refine anyE_done (by kernel_rfl) ?_ _
          have hR3 := unhide HR3
          rcases unhide HF5 with ⟨z5, rfl⟩ | ⟨z5, bb, _, rfl, _, _, _⟩
          · obtain ⟨v6, w6, hr6, hD6, hO6⟩ := unhide HAD w5 (unhide HB5)
            have HM6 := hide (unhide HST w6 w5 v6 z5 (unhide HB5) hO6 hD6)
            clear hD6 hO6 hR3 hS hsl1
            go_wp2_with (at_builtin; refine wpList_append_runG INTS rfl _ _ rfl rfl _ _ rfl rfl _ w6 hr6 ?_)
            go_roundg (Ev.wt (K.map Ent.tk))
            case measure => exact hwtK
            case rel => exact ⟨by omega, _, _, rfl, HM6⟩
          · rw [if_pos z5] at hR3
            have HR5 := hide hR3
            clear hR3 hS hsl0 hsl1
            go_wp2_with fail
            go_ret2
            exact ⟨_, _, rfl, by rw [unhide HR5]; exact ⟨rfl, z5, unhide HF5⟩, bthen (unhide HOLD) (unhide HB5)⟩
end Go.Proofs.YtomnbidppkpfiaaDoor.Line
