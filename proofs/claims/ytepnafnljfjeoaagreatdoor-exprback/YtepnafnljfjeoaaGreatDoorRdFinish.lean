/- The contract of the project's reader: finish. -/
import Derived.Test.YtepnafnljfjeoaaGreatDoorRdFinM
import Derived.Deep.RegionLaw
namespace Go.Proofs.YtepnafnljfjeoaaGreatDoor.Line
open Go.ChangeShapes Go.WideShapes Go.ChangeAt Go.RowKit
open Ex (E St M Cfg Res)
set_option linter.unusedVariables false

theorem deepOf_le (k : E) (d : Nat) : Ex.deepOf k d ≤ d := by unfold Ex.deepOf; split <;> omega
theorem step_end {T : List Words.T} {p d : Nat} {y : E × Value} {K : List (E × Value)} {x : E} (h : endsB (y :: K) (Ex.opOf (Ex.sg T p)) = true) : Ex.step T (.F p ((y :: K).map (·.1)) d x) = .inl (.F p (K.map (·.1)) (Ex.deepOf y.1 d) (Ex.whole y.1 x)) := by
  simp only [endsB, Bool.and_eq_true, decide_eq_true_eq] at h
  simp only [List.map_cons, Ex.step]
  rw [if_pos h]
theorem not_ends {nx : Int} {y : E × Value} {K : List (E × Value)} (h : endsB (y :: K) nx = false) : ¬ (0 < Ex.bindOf y.1.kind ∧ Ex.bindOf nx ≤ Ex.bindOf y.1.kind) := by
  simp only [endsB] at h
  intro hc
  rw [decide_eq_true hc.1, decide_eq_true hc.2] at h
  cases h
set_option maxHeartbeats 2000000 in
/-- one more that has its first part -/
theorem push_e {w W : World} {base rb z q : Nat} {X : Nat → Prop} {L : Value} {p d : Nat} {v : Value} {K : List (E × Value)} {hi : Nat} {x : E} {sx : Value} (k : Int) (h : Rd w base rb X L p d v K hi) (hx : Forest w (fun b => hi ≤ b ∧ ¬ (some b = v.ownBlock ∨ X b)) x.a sx) (hW : Below w.heap.size w W) (hz : W.heap[z]? = some (.cells zeroE PET (0, 0))) (hq : W.heap[q]? = some (.cells (cellsE x sx) PET (0, 0))) (hq1 : w.heap.size ≤ q) (hk0 : k ≠ 0) (hk4 : k ≠ 4) (hk : K.length + 1 ≤ p) (hp1 : p ≤ 1000001) :
    ∃ g9 c9 w9, (Builtin.append_ #[PES, PES] PES #[v, .slice (some ⟨z, 0, none⟩) 1 1]).run Tryz.prog W = .ok (.slice (some ⟨g9, 0, none⟩) (K.length + 1) c9) w9 ∧ ¬ rb = g9 ∧ ¬ g9 = rb ∧ w9.cell? ⟨rb, 2, none⟩ = some v ∧ w9.frozen? ⟨rb, 2, none⟩ = false ∧
      (w9.cell? ⟨g9, K.length * 4, none⟩ = some (.int .i64 0) ∧ w9.cell? ⟨g9, K.length * 4 + 1, none⟩ = some (.int .i64 0) ∧ w9.cell? ⟨g9, K.length * 4 + 2, none⟩ = some (.string ⟨#[]⟩) ∧ w9.cell? ⟨g9, K.length * 4 + 3, none⟩ = some (.slice none 0 0)) ∧ (∀ o, w9.frozen? ⟨g9, o, none⟩ = false) ∧
      (∀ Wf, (Wf = (((((w9.setCell ⟨g9, K.length * 4, none⟩ (.int .i64 k)).setCell ⟨g9, K.length * 4 + 1, none⟩ (.int .i64 0)).setCell ⟨g9, K.length * 4 + 2, none⟩ (.string ⟨#[]⟩)).setCell ⟨g9, K.length * 4 + 3, none⟩ (.slice (some ⟨q, 0, none⟩) 1 1)).setCell ⟨rb, 2, none⟩ (.slice (some ⟨g9, 0, none⟩) (K.length + 1) c9)) ∨
        Wf = (((((w9.setCell ⟨rb, 2, none⟩ (.slice (some ⟨g9, 0, none⟩) (K.length + 1) c9)).setCell ⟨g9, K.length * 4, none⟩ (.int .i64 k)).setCell ⟨g9, K.length * 4 + 1, none⟩ (.int .i64 0)).setCell ⟨g9, K.length * 4 + 2, none⟩ (.string ⟨#[]⟩)).setCell ⟨g9, K.length * 4 + 3, none⟩ (.slice (some ⟨q, 0, none⟩) 1 1))) →
        Rd Wf base rb X L p d (.slice (some ⟨g9, 0, none⟩) (K.length + 1) c9) ((.mk k 0 [] [x], .slice (some ⟨q, 0, none⟩) 1 1) :: K) Wf.heap.size ∧ Kept rb base X w Wf) := by
  have hrl : rb < w.heap.size := by have := h.lt; have := h.bs; omega
  have hr := hW.block rb hrl
  have hc : ∀ o, W.cell? ⟨rb, o, none⟩ = w.cell? ⟨rb, o, none⟩ := fun o => World.cell?_of_block (a := ⟨rb, o, none⟩) hr
  have hf : ∀ o, W.frozen? ⟨rb, o, none⟩ = false := fun o => (World.frozen?_of_block (a := ⟨rb, o, none⟩) hr).trans (h.fr o)
  have hqW : q < W.heap.size := (Array.getElem?_eq_some_iff.1 hq).1
  have hhi := h.hi_le
  have hWs := hW.size
  have hgl : ∀ k, v.ownBlock = some k → k < w.heap.size := fun k hk => (h.row.lt k hk).2
  have hcnt : d = cnt (((.mk k 0 [] [x] : E), .slice (some ⟨q, 0, none⟩) 1 1) :: K) := by
    have := h.dp
    simp only [cnt]
    rw [if_neg (by simp [E.kind, hk0, hk4]), ← this]
    omega
  have hown : OwnF PET hi W (fun b => hi ≤ b ∧ b < W.heap.size ∧ ¬ (some b = v.ownBlock ∨ X b)) (.slice (some ⟨q, 0, none⟩) 1 1) [(x, sx)] := by
    refine ⟨⟨rfl, .inr ⟨q, 1, cellsE x sx, rfl, by omega, hq, Nat.le_refl _, by decide, rfl, rfl⟩⟩, fun t ht => ?_⟩
    rw [List.mem_singleton.1 ht]
    exact (hx.mono (S' := fun b => (hi ≤ b ∧ b < W.heap.size ∧ ¬ (some b = v.ownBlock ∨ X b)) ∧ some b ≠ Value.ownBlock (.slice (some ⟨q, 0, none⟩) 1 1)) (fun b hs hl => ⟨⟨hs.1, by omega, hs.2⟩, fun e => by have : b = q := Option.some.inj (show some b = some q from e); omega⟩)).old hW
  obtain ⟨g9, c9, w9, r1, r2, r3, r4, r5, r6, r7, r8⟩ := push_mem (W := W) (z := z) (pos' := p) (d' := d) (m := hi) (y := .mk k 0 [] [x]) (yv := .slice (some ⟨q, 0, none⟩) 1 1) (ps := [(x, sx)]) h hW.os hW.tape hW.output hWs (fun b hb _ => hW.block b hb) hz ((hc 0).trans h.c0) ((hc 1).trans h.c1) ((hc 2).trans h.c2) ((hc 3).trans h.c3) hf (Nat.le_refl _) (by omega) rfl hown (fun k hk e => by
      have : q = k := Option.some.inj hk
      subst this
      rcases e with e | e
      · have := hgl q e.symm; omega
      · have := h.xl q e; omega) hcnt hk (by simp [E.a]) hp1
  exact ⟨g9, c9, w9, r1, r2, r3, r4, r5, r6, r7, fun Wf hW => ⟨(r8 Wf hW).1, (r8 Wf hW).2.1⟩⟩
set_option maxHeartbeats 8000000 in
set_option maxRecDepth 100000 in
theorem finish_any (T : List Words.T) (L : Value) (w : World) (base rb : Nat) (X : Nat → Prop) (p0 d0 : Nat) (v0 : Value) (K0 : List (E × Value)) (hi0 : Nat) (x0 : E) (sx0 : Value) (hR : Rd w base rb X L p0 d0 v0 K0 hi0) (hx : Forest w (fun b => hi0 ≤ b ∧ ¬ (some b = v0.ownBlock ∨ X b)) x0.a sx0) (hT : Tks w L T) (hL : ∀ q, L.ownBlock = some q → q < base ∧ q ≠ rb) (hl : T.length ≤ 1000000) (hp0 : p0 ≤ T.length) (hd0 : d0 ≤ 20) :
    Calls Tryz.prog 54 #[.pointer (some ⟨rb, 0, none⟩), treeV x0 sx0] w fun e w' => FinishPost T L w base rb X p0 d0 K0 x0 e w' := by
  have HM := hide (midFin_start hR hx hT hL)
  have hrl : rb < w.heap.size := by have := hR.lt; have := hR.bs; omega
  have hneH : ¬ rb = w.heap.size := by omega
  have hneH' : ¬ w.heap.size = rb := by omega
  have hneR : ¬ rb = w.heap.size + 1 := by omega
  have hneR' : ¬ w.heap.size + 1 = rb := by omega
  have HXL := hide hR.xl
  obtain ⟨la, lc, hLs⟩ := hT.shape
  obtain ⟨xa0, xc0, hxs⟩ := hx.shape
  clear hR hT hL hx
  subst hLs hxs
  generalize hxl0 : x0.a.length = xl0 at *
  go_enter Tryz.func54, Tryz.ntmps54
  go_wp2_with fail
  generalize (w.alloc (.cells #[.int .i64 x0.kind, .int .i64 x0.n, .string ⟨x0.name.toArray⟩, .slice xa0 xl0 xc0] PET)).alloc (.cells zeroE PET) = W0 at *
  go_loopw [7] (fun _ wr => ∃ (p d : Nat) (v : Value) (K : List (E × Value)) (hi : Nat) (x : E) (sx : Value), p0 ≤ p ∧ p ≤ T.length ∧ d ≤ 20 ∧ Hid (MidFin T (.slice la T.length lc) w base rb X wr p d v K hi x sx) ∧ Hid (∀ r, M T (.F p (K.map (·.1)) d x) r → M T (.F p0 (K0.map (·.1)) d0 x0) r)) (fun _ wr => 2 * (T.length - posOf rb wr) + openOf rb wr)
  case atStart => exact ⟨p0, d0, v0, K0, hi0, x0, _, Nat.le_refl _, hp0, hd0, HM, hide (fun r h => h)⟩
  case round =>
    obtain ⟨p, d1, v1, K1, hi1, x1, sx1, hp1, hp2, hd1, HM1, HRS1⟩ := hrel
    have HPW := hide (unhide HM1).rd.pos1
    have HOW := hide (unhide HM1).rd.openOf
    have HS1 := hide (rsign_any T _ wr base rb _ p d1 v1 K1 hi1 (unhide HM1).rd (unhide HM1).tks hl (by omega))
    generalize hsg : Ex.sg T p = c at *
    have HSG := hide hsg
    clear hsg
    go_wp2_with fail
    refine (unhide HS1).mono ?_
    rintro ev W1 ⟨rfl, n1, rfl⟩
    have HM2 := hide ((unhide HM1).below (below_drewN (Below.refl _ _) n1))
    have HPW1 : Hid (posOf rb wr = p) := HPW
    generalize wr.drewN n1 = W1 at *
    go_wp2_with fail
    refine (kindOf_any c _).mono ?_
    rintro ev W1' ⟨rfl, hw1⟩
    have hw1 := hw1.symm
    subst hw1
    generalize hnx : Ex.opOf c = nx at *
    have HNX := hide hnx
    clear hnx HS1
    go_wp2_with fail
    go_loopw [13] (fun _ wi => ∃ (d : Nat) (v : Value) (K : List (E × Value)) (hi : Nat) (x : E) (sx : Value), d ≤ 20 ∧ K.length ≤ K1.length ∧ Hid (MidFin T (.slice la T.length lc) w base rb X wi p d v K hi x sx) ∧ Hid (∀ r, M T (.F p (K.map (·.1)) d x) r → M T (.F p0 (K0.map (·.1)) d0 x0) r)) (fun _ wi => openOf rb wi)
    case atStart => exact ⟨d1, v1, K1, hi1, x1, sx1, hd1, Nat.le_refl _, HM2, HRS1⟩
    case round =>
      obtain ⟨d, v, K, hi, x, sx, hd, hkl1, HMM, HRS⟩ := hrel
      have HOE := hide (opEnds_any _ wr base rb _ p d v K hi nx (unhide HMM).rd (by omega))
      have HOW2 := hide (unhide HMM).rd.openOf
      cases hb : endsB K nx
      · rw [hb] at HOE
        have HNE := hide hb
        clear hb
        go_wp2_with fail
        refine (unhide HOE).mono ?_
        rintro ev W2 ⟨rfl, n2, rfl⟩
        have HM3 := hide ((unhide HMM).below (below_drewN (Below.refl _ _) n2))
        clear HOW2
        generalize wr.drewN n2 = W2 at *
        clear HMM HOE HM2
        by_cases hn0 : nx = 0
        · subst hn0
          cases K with
          | nil =>
            obtain ⟨va, vc, hv⟩ := (unhide HM3).rd.shape
            have a2 := (unhide HM3).rd.c2
            rw [hv] at a2
            obtain ⟨sa, sc, hsx⟩ := (unhide HM3).fo.shape
            generalize hxl : x.a.length = xl at *
            subst hsx
            obtain ⟨b0, b1, b2, b3, -, -, -, -, -⟩ := (unhide HM3).box
            obtain ⟨e0, e1, e2, e3, g0, g1, g2, g3, hbl⟩ := (unhide HM3).res
            go_wp2
            refine bodyPost_ret (v := .tuple #[treeV x (.slice sa xl sc), .bool true, .nilIface]) (by simp [results, Tryz.results54, go_sem, e0, e1, e2, e3]) rfl ?_
            obtain ⟨r1, r2, r3⟩ := (unhide HM3).done rfl (unhide HXL)
            exact .inl ⟨x, p, _, rfl, r3.mono (fun b hs _ => ⟨by have := (unhide HM3).rd.stk.le; omega, fun e => hs.2 (.inr e)⟩), unhide HRS _ (Ex.m_stop (by simp only [List.map_nil, Ex.step]; rw [unhide HSG, unhide HNX]; simp)), r1.c1, hp2, r2⟩
          | cons y K =>
            obtain ⟨va, vc, hv⟩ := (unhide HM3).rd.shape
            have a2 := (unhide HM3).rd.c2
            rw [hv] at a2
            have hln : (((y :: K).length : Int) == 0) = false := by rw [beq_eq_false_iff_ne, List.length_cons]; omega
            generalize hkn : (y :: K).length = kn at *
            have HSB := hide (rsign_any T _ W2 base rb _ p d v (y :: K) hi (unhide HM3).rd (unhide HM3).tks hl (by omega))
            rw [unhide HSG] at HSB
            go_wp2_with fail
            refine (unhide HSB).mono ?_
            rintro ev W4 ⟨rfl, n4, rfl⟩
            have HM4 := hide ((unhide HM3).below (below_drewN (Below.refl _ _) n4))
            clear a2 HSB
            generalize W2.drewN n4 = W4 at *
            obtain ⟨sa, sc, hsx⟩ := (unhide HM4).fo.shape
            generalize hxl : x.a.length = xl at *
            subst hsx
            by_cases c1 : c = [41]
            · subst c1
              have hplt : p < T.length := by
                rcases Nat.lt_or_ge p T.length with h | h
                · exact h
                · have := unhide HSG; rw [sg_out (by omega)] at this; cases this
              have HM5 := hide (unhide HM4).move1
              have HE := hide (end_any _ _ base rb _ (p + 1) d v y K hi x (.slice sa xl sc) (unhide HM5).rd (by rw [hxl.symm]; exact hxl ▸ (unhide HM5).fo) (by omega))
              have a1 := (unhide HM4).rd.c1
              have f1 := (unhide HM4).rd.fr 1
              obtain ⟨b0, b1, b2, b3, -, -, -, -, -⟩ := (unhide HM4).box
              go_wp2_with fail
              refine (unhide HE).mono ?_
              rintro ev W6 ⟨sz, v6, m6, rfl, hR6, hf6, hk6⟩
              have hB6 := (unhide HM5).box.keep (hk6.block _ (unhide HM5).box.lt (by omega) (.inr (.inr (.inl rfl)))) hk6.size
              obtain ⟨za, zc, hsz⟩ := hf6.shape
              generalize hzl : (Ex.whole y.1 x).a.length = zl at *
              subst hsz
              have HM7 := hide ((unhide HM5).step hk6 hR6 hf6 rfl)
              have HO7 := hide (unhide HM7).rd.openOf
              have HP7 := hide (unhide HM7).rd.pos1
              have HRN : Hid (∀ r, M T (.F (p + 1) (K.map (·.1)) (Ex.deepOf y.1 d) (Ex.whole y.1 x)) r → M T (.F p0 (K0.map (·.1)) d0 x0) r) := hide (fun r hr => unhide HRS r (Ex.m_step (by
                simp only [List.map_cons, Ex.step]
                rw [unhide HSG, unhide HNX, if_neg (not_ends (unhide HNE)), if_neg (by simp), if_pos rfl]) hr))
              clear b0 b1 b2 b3 a1 f1 hR6 hf6 hk6 HE
              obtain ⟨b0, b1, b2, b3, g0, g1, g2, g3, hbl⟩ := hB6
              have hdd := deepOf_le y.1 d
              rw [List.length_cons] at hkn
              generalize Ex.deepOf y.1 d = d4 at *
              generalize Ex.whole y.1 x = z at *
              go_wp2
              go_roundw
              case rel => exact ⟨p + 1, d4, v6, K, m6, z, _, by omega, by omega, by omega, HM7, HRN⟩
              case measure => rw [unhide HO7, unhide HP7, unhide HPW, unhide HOW]; omega
            · have hc1 : (c == [41]) = false := beq_eq_false_iff_ne.2 c1
              have HC1 := hide c1
              clear c1
              have HSC := hide (rsign_any T _ W4 base rb _ p d v (y :: K) hi (unhide HM4).rd (unhide HM4).tks hl (by omega))
              rw [unhide HSG] at HSC
              go_wp2_with fail
              refine (unhide HSC).mono ?_
              rintro ev W5 ⟨rfl, n5, rfl⟩
              have HM5 := hide ((unhide HM4).below (below_drewN (Below.refl _ _) n5))
              clear HSC HM4 HM3
              generalize W4.drewN n5 = W5 at *
              by_cases c2 : c = [44]
              · subst c2
                have hplt : p < T.length := by
                  rcases Nat.lt_or_ge p T.length with h | h
                  · exact h
                  · have := unhide HSG; rw [sg_out (by omega)] at this; cases this
                have HCO := hide (comma_any _ W5 base rb _ p d v y K hi x (.slice sa xl sc) (unhide HM5).rd (unhide HM5).fo (by omega))
                obtain ⟨b0, b1, b2, b3, -, -, -, -, -⟩ := (unhide HM5).box
                go_wp2_with fail
                refine (unhide HCO).mono ?_
                rintro ev W6 (⟨hk3, rfl, hat, hk6⟩ | ⟨hk3, hk4, rfl, hat, hk6⟩ | ⟨hk3, hk4, rfl, v6, yv6, hi6, hR6, hk6⟩)
                · obtain ⟨e0, e1, e2, e3, g0, g1, g2, g3, hbl⟩ := (unhide HM5).after hk6
                  have HK6 := hide hk6
                  have HA6 := hide hat
                  clear b0 b1 b2 b3 hk6 hat
                  go_wp2
                  refine bodyPost_ret (v := .tuple #[.agg #[.int .i64 0, .int .i64 0, .string ⟨#[]⟩, .slice none 0 0], .bool false, .iface 95 (.int .i64 2)]) (by simp [results, Tryz.results54, go_sem, e0, e1, e2, e3]) rfl ?_
                  obtain ⟨r1, r2, r3⟩ := (unhide HM5).leave (unhide HK6) rfl
                  exact .inr (.inr ⟨2, p, rfl, by decide, unhide HRS _ (Ex.m_stop (by
                    simp only [List.map_cons, Ex.step]
                    rw [unhide HSG, unhide HNX, if_neg (not_ends (unhide HNE)), if_neg (by simp), if_neg (by decide), if_pos rfl, if_pos hk3])), (r2 1).trans (unhide HA6), r1⟩)
                · obtain ⟨e0, e1, e2, e3, g0, g1, g2, g3, hbl⟩ := (unhide HM5).after hk6
                  have HK6 := hide hk6
                  have HA6 := hide hat
                  clear b0 b1 b2 b3 hk6 hat
                  go_wp2
                  refine bodyPost_ret (v := .tuple #[.agg #[.int .i64 0, .int .i64 0, .string ⟨#[]⟩, .slice none 0 0], .bool false, .iface 95 (.int .i64 4)]) (by simp [results, Tryz.results54, go_sem, e0, e1, e2, e3]) rfl ?_
                  obtain ⟨r1, r2, r3⟩ := (unhide HM5).leave (unhide HK6) rfl
                  exact .inr (.inr ⟨4, p, rfl, by decide, unhide HRS _ (Ex.m_stop (by
                    simp only [List.map_cons, Ex.step]
                    rw [unhide HSG, unhide HNX, if_neg (not_ends (unhide HNE)), if_neg (by simp), if_neg (by decide), if_pos rfl, if_neg (by simp [hk3]), if_pos hk4])), (r2 1).trans (unhide HA6), r1⟩)
                · obtain ⟨e0, e1, e2, e3, g0, g1, g2, g3, hbl⟩ := (unhide HM5).after hk6
                  have HK6 := hide hk6
                  have HR6 := hide hR6
                  clear b0 b1 b2 b3 hk6 hR6
                  go_wp2
                  refine bodyPost_ret (v := .tuple #[.agg #[.int .i64 0, .int .i64 0, .string ⟨#[]⟩, .slice none 0 0], .bool false, .nilIface]) (by simp [results, Tryz.results54, go_sem, e0, e1, e2, e3]) rfl ?_
                  obtain ⟨r1, r2, r3⟩ := (unhide HM5).leave (unhide HK6) rfl
                  exact .inr (.inl ⟨p + 1, d, _, _, _, rfl, r3 (unhide HXL) _ _ _ _ _ (unhide HR6), fun r hr => unhide HRS _ (Ex.m_step (by
                    simp only [List.map_cons, Ex.step]
                    rw [unhide HSG, unhide HNX, if_neg (not_ends (unhide HNE)), if_neg (by simp), if_neg (by decide), if_pos rfl, if_neg (by simp [hk3]), if_neg hk4]) hr), by omega, by omega, hd, r1⟩)
              · have hc2 : (c == [44]) = false := beq_eq_false_iff_ne.2 c2
                have HC2 := hide c2
                clear c2
                obtain ⟨e0, e1, e2, e3, g0, g1, g2, g3, hbl⟩ := (unhide HM5).res
                go_wp2
                refine bodyPost_ret (v := .tuple #[.agg #[.int .i64 0, .int .i64 0, .string ⟨#[]⟩, .slice none 0 0], .bool false, .iface 95 (.int .i64 2)]) (by simp [results, Tryz.results54, go_sem, e0, e1, e2, e3]) rfl ?_
                obtain ⟨r1, r2, r3⟩ := (unhide HM5).leave (Kept.refl _ _ _ _) rfl
                exact .inr (.inr ⟨2, p, rfl, by decide, unhide HRS _ (Ex.m_stop (by
                  simp only [List.map_cons, Ex.step]
                  rw [unhide HSG, unhide HNX, if_neg (not_ends (unhide HNE)), if_neg (by simp), if_neg (unhide HC1), if_neg (unhide HC2)])), (r2 1).trans (unhide HM5).rd.c1, r1⟩)
        · have hn1 : (nx == 0) = false := beq_eq_false_iff_ne.2 hn0
          have hn2 : (nx != 0) = true := by simp [bne, hn1]
          have hplt : p < T.length := by
            rcases Nat.lt_or_ge p T.length with h | h
            · exact h
            · have h1 := unhide HSG; have h2 := unhide HNX; rw [sg_out (by omega)] at h1; rw [← h1] at h2; exact absurd h2.symm hn0
          have hn4 : nx ≠ 4 := by
            have h2 := unhide HNX
            unfold Ex.opOf at h2
            intro e
            rw [e] at h2
            revert h2
            split
            · decide
            · split
              · decide
              · split
                · decide
                · split <;> decide
          have a1 := (unhide HM3).rd.c1
          have f1 := (unhide HM3).rd.fr 1
          have HM4 := hide (unhide HM3).move1
          have hkl3 := (unhide HM3).rd.kl
          go_upto_region 7 with (fail)
          generalize W2.setCell ⟨rb, 1, none⟩ (.int .i64 ((p : Int) + 1)) = W4 at *
          clear a1 f1 HM3
          obtain ⟨va, vc, hv⟩ := (unhide HM4).rd.shape
          subst hv
          have a2 := (unhide HM4).rd.c2
          have hA1 : Below W4.heap.size W4 ((W4.alloc (.cells (cellsE x sx) PET)).alloc (.cells zeroE PET)).drew := (bthen (alloc_below W4 (.cells (cellsE x sx) PET)) (alloc_below _ _)).trans ⟨rfl, rfl, rfl, Nat.le_refl _, fun _ _ => rfl⟩
          have hA2 : Below W4.heap.size W4 ((W4.alloc (.cells zeroE PET)).alloc (.cells (cellsE x sx) PET)).drew := (bthen (alloc_below W4 (.cells zeroE PET)) (alloc_below _ _)).trans ⟨rfl, rfl, rfl, Nat.le_refl _, fun _ _ => rfl⟩
          have hzA : (W4.alloc (.cells (cellsE x sx) PET)).heap.size = W4.heap.size + 1 := by simp
          have hzZ : (W4.alloc (.cells zeroE PET)).heap.size = W4.heap.size + 1 := by simp
          have z1 : ((W4.alloc (.cells (cellsE x sx) PET)).alloc (.cells zeroE PET)).drew.heap[W4.heap.size + 1]? = some (.cells zeroE PET (0, 0)) := by have := alloc_new (W4.alloc (.cells (cellsE x sx) PET)) zeroE PET; rw [hzA] at this; exact this
          have z2 : ((W4.alloc (.cells (cellsE x sx) PET)).alloc (.cells zeroE PET)).drew.heap[W4.heap.size]? = some (.cells (cellsE x sx) PET (0, 0)) := ((alloc_below (W4.alloc (.cells (cellsE x sx) PET)) (.cells zeroE PET)).block W4.heap.size (by omega)).trans (alloc_new W4 (cellsE x sx) PET)
          have z3 : ((W4.alloc (.cells zeroE PET)).alloc (.cells (cellsE x sx) PET)).drew.heap[W4.heap.size + 1]? = some (.cells (cellsE x sx) PET (0, 0)) := by have := alloc_new (W4.alloc (.cells zeroE PET)) (cellsE x sx) PET; rw [hzZ] at this; exact this
          have z4 : ((W4.alloc (.cells zeroE PET)).alloc (.cells (cellsE x sx) PET)).drew.heap[W4.heap.size]? = some (.cells zeroE PET (0, 0)) := ((alloc_below (W4.alloc (.cells zeroE PET)) (.cells (cellsE x sx) PET)).block W4.heap.size (by omega)).trans (alloc_new W4 zeroE PET)
          obtain ⟨ga, ca, wa, hra, hnea, hnea', za2, zaf, ⟨ya0, ya1, ya2, ya3⟩, xaf, hfa⟩ := push_e nx (unhide HM4).rd (unhide HM4).fo hA1 z1 z2 (by omega) hn0 hn4 (by omega) (by omega)
          obtain ⟨gb, cb, wb, hrb, hneb, hneb', zb2, zbf, ⟨yb0, yb1, yb2, yb3⟩, xbf, hfb⟩ := push_e nx (unhide HM4).rd (unhide HM4).fo hA2 z4 z3 (by omega) hn0 hn4 (by omega) (by omega)
          obtain ⟨sa, sc, hsx⟩ := (unhide HM4).fo.shape
          generalize hxl : x.a.length = xl at *
          subst hsx
          obtain ⟨b0, b1, b2, b3, -, -, -, -, hbl⟩ := (unhide HM4).box
          have xa0 := xaf (K.length * 4)
          have xa1 := xaf (K.length * 4 + 1)
          have xa2 := xaf (K.length * 4 + 2)
          have xa3 := xaf (K.length * 4 + 3)
          have xb0 := xbf (K.length * 4)
          have xb1 := xbf (K.length * 4 + 1)
          have xb2 := xbf (K.length * 4 + 2)
          have xb3 := xbf (K.length * 4 + 3)
          have hrW4 : rb < W4.heap.size := cell_lt a2
          dsimp only [cellsE] at hra hrb
          have HRA := hide hra
          have HRB := hide hrb
          have HFA := hide hfa
          have HFB := hide hfb
          have HRN : Hid (∀ r, M T (.B (p + 1) (.mk nx 0 [] [x] :: K.map (·.1)) d) r → M T (.F p0 (K0.map (·.1)) d0 x0) r) := hide (fun r hr => unhide HRS r (by
            refine Ex.f_push (o := nx) (by rw [unhide HSG]; exact unhide HNX) hn0 (fun k K' hk => ?_) hr
            cases K with
            | nil => cases hk
            | cons y K2 => injection hk with h1 h2; subst h1; exact not_ends (unhide HNE)))
          clear hra hrb hfa hfb xaf xbf hA1 hA2 hzA hzZ z1 z2 z3 z4 hn4
          generalize hn : K.length = n at *
          have hnn : (n : Int) < n + 1 := by omega
          go_region_law (first
            | (refine step_append_runP rfl _ _ rfl rfl (.slice va n vc) (.slice (some ⟨W4.heap.size + 1, 0, none⟩) 1 1) rfl rfl (.slice (some ⟨ga, 0, none⟩) (n + 1) ca) wa (unhide HRA) ?_)
            | (refine step_append_runP rfl _ _ rfl rfl (.slice va n vc) (.slice (some ⟨W4.heap.size, 0, none⟩) 1 1) rfl rfl (.slice (some ⟨gb, 0, none⟩) (n + 1) cb) wb (unhide HRB) ?_))
          all_goals (
            refine at_world (F := fun W => ∃ v' y' hi', Rd W base rb (X2 w X) (.slice la T.length lc) (p + 1) d v' ((.mk nx 0 [] [x], y') :: K) hi' ∧ Kept rb base (X2 w X) W4 W) (by first
              | exact ⟨_, _, _, unhide HFA _ (.inl (by with_reducible rfl))⟩
              | exact ⟨_, _, _, unhide HFA _ (.inr (by with_reducible rfl))⟩
              | exact ⟨_, _, _, unhide HFB _ (.inl (by with_reducible rfl))⟩
              | exact ⟨_, _, _, unhide HFB _ (.inr (by with_reducible rfl))⟩) ?_
            rintro W6 ⟨v6, y6, hi6, hR6, hk6⟩
            obtain ⟨e0, e1, e2, e3, g0, g1, g2, g3, hbl6⟩ := (unhide HM4).after hk6
            have HK6 := hide hk6
            have HR6 := hide hR6
            clear hk6 hR6 xa0 xa1 xa2 xa3 xb0 xb1 xb2 xb3 ya0 ya1 ya2 ya3 yb0 yb1 yb2 yb3 za2 zaf zb2 zbf
            go_wp2
            refine bodyPost_ret (v := .tuple #[.agg #[.int .i64 0, .int .i64 0, .string ⟨#[]⟩, .slice none 0 0], .bool false, .nilIface]) (by simp [results, Tryz.results54, go_sem, e0, e1, e2, e3]) rfl ?_
            obtain ⟨r1, r2, r3⟩ := (unhide HM4).leave (unhide HK6) rfl
            exact .inr (.inl ⟨p + 1, d, _, _, _, rfl, r3 (unhide HXL) _ _ _ _ _ (unhide HR6), unhide HRN, by omega, by omega, hd, r1⟩))
      · cases K with
        | nil => exact absurd hb (by simp [endsB])
        | cons y K =>
        rw [hb] at HOE
        have HNE := hide hb
        clear hb
        go_wp2_with fail
        refine (unhide HOE).mono ?_
        rintro ev W2 ⟨rfl, n2, rfl⟩
        have HM3 := hide ((unhide HMM).below (below_drewN (Below.refl _ _) n2))
        generalize wr.drewN n2 = W2 at *
        clear HMM HOE HM2
        have HE := hide (end_any _ W2 base rb _ p d v y K hi x sx (unhide HM3).rd (unhide HM3).fo (by omega))
        obtain ⟨sa, sc, hsx⟩ := (unhide HM3).fo.shape
        generalize hxl : x.a.length = xl at *
        subst hsx
        obtain ⟨b0, b1, b2, b3, g0, g1, g2, g3, hbl⟩ := (unhide HM3).box
        go_wp2_with fail
        refine (unhide HE).mono ?_
        rintro ev W3 ⟨sz, v3, m3, rfl, hR3, hf3, hk3⟩
        have hB3 := (unhide HM3).box.keep (hk3.block _ (unhide HM3).box.lt (by omega) (.inr (.inr (.inl rfl)))) hk3.size
        obtain ⟨za, zc, hsz⟩ := hf3.shape
        generalize hzl : (Ex.whole y.1 x).a.length = zl at *
        subst hsz
        have HM4 := hide ((unhide HM3).step hk3 hR3 hf3 rfl)
        have HO4 := hide (unhide HM4).rd.openOf
        have HRN : Hid (∀ r, M T (.F p (K.map (·.1)) (Ex.deepOf y.1 d) (Ex.whole y.1 x)) r → M T (.F p0 (K0.map (·.1)) d0 x0) r) := hide (fun r hr => unhide HRS r (Ex.m_step (step_end (by rw [unhide HSG, unhide HNX]; exact unhide HNE)) hr))
        clear b0 b1 b2 b3 g0 g1 g2 g3 hbl hR3 hf3 hk3 HE
        obtain ⟨b0, b1, b2, b3, g0, g1, g2, g3, hbl⟩ := hB3
        have hdd := deepOf_le y.1 d
        simp only [List.length_cons] at hkl1
        generalize Ex.deepOf y.1 d = d4 at *
        generalize Ex.whole y.1 x = z at *
        go_wp2
        go_roundw
        case rel => exact ⟨d4, v3, K, m3, z, _, by omega, by omega, HM4, HRN⟩
        case measure => rw [unhide HO4, unhide HOW2, List.length_cons]; omega
end Go.Proofs.YtepnafnljfjeoaaGreatDoor.Line
