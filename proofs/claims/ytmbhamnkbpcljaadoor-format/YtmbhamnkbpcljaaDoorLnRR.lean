/- The contract of the reference's Range. -/
import Derived.Test.YtmbhamnkbpcljaaDoorLnRg
import Derived.Test.YtmbhamnkbpcljaaDoorLnTx
import Derived.Test.YtmbhamnkbpcljaaDoorLnOwn
namespace Go.Proofs.YtmbhamnkbpcljaaDoor.Line
open Go.ChangeShapes Go.WideShapes Go.ChangeAt Go.RowKit
set_option linter.unusedVariables false

theorem boxP_len2 {n : Nat} {lo hi : List Int} (h : ¬ (n = lo.length ∧ lo.length = hi.length)) : boxP n lo hi = false := boxP_len (fun e => h ⟨e.1.symm, e.1.trans e.2.symm⟩)
theorem take_next {l : List Int} {i : Nat} (h : i < l.length) : l.take (i + 1) = l.take i ++ [l[i]] := List.take_succ_eq_append_getElem h
theorem lowL_rng : ∀ (c a b : List Int), Rng a → Rng b → Rng (lowL c a b)
  | [], _, _, _, _ => fun x hx => by simp [lowL] at hx
  | c :: cs, [], _, _, _ => fun x hx => by simp [lowL] at hx
  | c :: cs, a :: r1, [], _, _ => fun x hx => by simp [lowL] at hx
  | c :: cs, a :: r1, b :: r2, ha, hb => fun x hx => by
    simp only [lowL, List.mem_cons] at hx
    rcases hx with rfl | hx
    · split
      · exact hb _ (List.mem_cons_self ..)
      · exact ha _ (List.mem_cons_self ..)
    · exact lowL_rng cs r1 r2 (fun y hy => ha y (List.mem_cons_of_mem _ hy)) (fun y hy => hb y (List.mem_cons_of_mem _ hy)) x hx
set_option maxHeartbeats 16000000 in
set_option maxRecDepth 1000000 in
theorem refRange_any (w : World) (av lv hv : Value) (a lo hi : List Int) (ka : Int) (ha : Ints w av a) (hl : Ints w lv lo) (hh : Ints w hv hi) (ra : Rng a) (rl : Rng lo) (rh : Rng hi) (ia : In64 ka) (hn : a.length ≤ 1000) (h1 : lo.length ≤ 1000) (h2 : hi.length ≤ 1000) :
    Calls Tryd.prog 22 #[formV av ka, lv, hv] w fun e w' => ∃ g gn gc, e = .returned (.tuple #[.int .i64 (rngV a lo hi ka).1, .int .i64 (rngV a lo hi ka).2, .agg #[.slice g gn gc, .int .i64 (rngE a lo hi ka)]]) ∧ Told w.heap.size w' (.agg #[.slice g gn gc, .int .i64 (rngE a lo hi ka)]) wForm 0 (rngE a lo hi ka) ∧ Below w.heap.size w w' := by
  have HF1 := hide unlike_any
  have HF5 := hide over_any
  have HO := hide (And.intro ha (And.intro hl hh))
  have HR := hide (And.intro ra (And.intro rl rh))
  obtain ⟨aa, ac, rfl⟩ := ha.shape
  obtain ⟨la, lc, rfl⟩ := hl.shape
  obtain ⟨ha', hc, rfl⟩ := hh.shape
  have hx1 := Bx.new (w.alloc (.cells #[.slice aa a.length ac, .int .i64 ka] RfT)) (.slice none 0 0) (.int .i64 0) WrT
  rw [size_ac] at hx1
  have HST := hide (And.intro ((Bx.new w (.slice aa a.length ac) (.int .i64 ka) RfT).keep (alloc_below _ (.cells #[.slice none 0 0, .int .i64 0] WrT))) (And.intro hx1 (bthen (alloc_below w (.cells #[.slice aa a.length ac, .int .i64 ka] RfT)) (alloc_below _ (.cells #[.slice none 0 0, .int .i64 0] WrT)))))
  clear ha hl hh ra rl rh hx1
  generalize hna : a.length = n at *
  generalize hnl : lo.length = n1 at *
  generalize hnh : hi.length = n2 at *
  have HLS := hide (And.intro hna (And.intro hnl hnh))
  clear hna hnl hnh
  by_cases hlens : n = n1 ∧ n1 = n2
  · obtain ⟨e1, e2⟩ := hlens
    subst e1
    subst e2
    have heq : ((n : Int) != (n : Int)) = false := by simp
    go_enter Tryd.func22, Tryd.ntmps22
    go_wp2_with fail
    generalize (w.alloc (.cells #[.slice aa n ac, .int .i64 ka] RfT)).alloc (.cells #[.slice none 0 0, .int .i64 0] WrT) = W0 at *
    generalize hxr : w.heap.size + 1 = xr at *
    go_loopw [9] (fun x wr => ∃ (i : Nat), x = .int .i64 i ∧ i ≤ n ∧ Hid (∀ j, j < i → lo.getD j 0 ≤ hi.getD j 0) ∧ Hid (Bx wr w.heap.size (.slice aa n ac) (.int .i64 ka) ∧ Bx wr xr (.slice none 0 0) (.int .i64 0) ∧ Below w.heap.size w wr)) (fun x _ => n - (intOf x).toNat)
    case atStart => exact ⟨0, rfl, Nat.zero_le _, hide (fun j hj => by omega), HST⟩
    case round =>
      obtain ⟨i, rfl, hi', HJ, HA⟩ := hrel
      clear HST
      by_cases hlt : i < n
      · have hlt' : (i : Int) < (n : Int) := by omega
        have hn9 : n ≤ 9223372036854775807 := by omega
        have hi9 : i < 9223372036854775807 := by omega
        have hbl := (unhide HA).2.2
        have hl2 := (unhide HO).2.1.below hbl
        have hh2 := (unhide HO).2.2.below hbl
        have jl : i < lo.length := by rw [(unhide HLS).2.1]; exact hlt
        have jh : i < hi.length := by rw [(unhide HLS).2.2]; exact hlt
        rw [← (unhide HLS).2.1] at hl2
        have hl3 : Ints wr (.slice la n lc) lo := (unhide HO).2.1.below hbl
        obtain ⟨db, do_, dcap, hv1', _, _, hcd⟩ := hl3.at (by omega)
        injection hv1' with hv1' hv2' hv3'
        subst hv1'
        have hh3 : Ints wr (.slice ha' n hc) hi := (unhide HO).2.2.below hbl
        obtain ⟨eb, eo_, ecap, hv1'', _, _, hce⟩ := hh3.at (by omega)
        injection hv1'' with hv1'' hv2'' hv3''
        subst hv1''
        have cd := hcd i jl
        have ce := hce i jh
        obtain ⟨p, hp⟩ : ∃ p, p = lo.getD i 0 := ⟨_, rfl⟩
        obtain ⟨q, hq⟩ : ∃ q, q = hi.getD i 0 := ⟨_, rfl⟩
        rw [← getD_lt lo i jl, ← hp] at cd
        rw [← getD_lt hi i jh, ← hq] at ce
        have HPQ := hide (And.intro hp hq)
        clear hp hq hcd hce hv2' hv3' hv2'' hv3'' hl2 hh2 hl3 hh3 jl jh
        go_wp2_with fail
        go_quiet (fail)
        have HA2 : Hid (Bx (wr.drewN nq) w.heap.size (.slice aa n ac) (.int .i64 ka) ∧ Bx (wr.drewN nq) xr (.slice none 0 0) (.int .i64 0) ∧ Below w.heap.size w (wr.drewN nq)) := hide ⟨(unhide HA).1.keep (below_drewN (Below.refl _ _) nq), (unhide HA).2.1.keep (below_drewN (Below.refl _ _) nq), below_drewN hbl nq⟩
        clear cd ce hbl HA
        generalize wr.drewN nq = w1 at *
        by_cases hg : q < p
        · have hgd : decide (q < p) = true := decide_eq_true hg
          have HF := hide (rngE_box (c := a) (lo := lo) (hi := hi) (k := ka) (boxP_out i (by rw [(unhide HLS).1]; exact hlt) (by rw [← (unhide HPQ).1, ← (unhide HPQ).2]; omega)))
          have HS5 := hide (unhide HF1 w1)
          go_wp2_with fail
          refine (unhide HS5).mono ?_
          rintro e w6 ⟨b6, rfl, ht, hb⟩
          have hbx := ((unhide HA2).2.1).keep hb
          have HBLW := (unhide HA2).2.2
          have HBX6 := hide hbx
          have HFZ := (hbx.set0 (.slice (some ⟨b6, 0, none⟩) 1 1)).set1 (.int .i64 1)
          have HT := hide (((ht.setCell ⟨xr, 0, none⟩ ((unhide HA2).2.1).lt (.slice (some ⟨b6, 0, none⟩) 1 1)).setCell ⟨xr, 1, none⟩ ((unhide HA2).2.1).lt (.int .i64 1)).mono HBLW.size)
          have HB2 := hide (((HBLW.trans (hb.mono HBLW.size)).setCell (p := ⟨xr, 0, none⟩) (by show w.heap.size ≤ xr; omega) (.slice (some ⟨b6, 0, none⟩) 1 1)).setCell (p := ⟨xr, 1, none⟩) (by show w.heap.size ≤ xr; omega) (.int .i64 1))
          clear hb ht hbx HBLW
          obtain ⟨z0, z1, z2, z3, z4⟩ := unhide HBX6
          go_wp2_with fail
          rw [(unhide HF).1, (unhide HF).2]
          exact bodyPost_ret (v := .tuple #[.int .i64 0, .int .i64 0, .agg #[.slice (some ⟨b6, 0, none⟩) 1 1, .int .i64 1]]) (by simp [results, Tryd.results22, go_sem, HFZ.c0, HFZ.c1]) rfl ⟨some ⟨b6, 0, none⟩, 1, 1, rfl, unhide HT, unhide HB2⟩
        · have hgd : decide (q < p) = false := decide_eq_false hg
          go_wp2_with fail
          go_roundw
          case rel => exact ⟨i + 1, by go_num, by omega, hide fun j hj => by
            rcases Nat.lt_or_ge j i with h | h
            · exact unhide HJ j h
            · have : j = i := by omega
              subst this
              rw [← (unhide HPQ).1, ← (unhide HPQ).2]
              omega, HA2⟩
          case measure => simp [intOf]; omega
      · have hin : i = n := by omega
        subst hin
        have hlt' : ¬ (i : Int) < (i : Int) := by omega
        have HBOX := hide (boxP_in (n := a.length) (lo := lo) (hi := hi) (by rw [(unhide HLS).1, (unhide HLS).2.1]) (by rw [(unhide HLS).1, (unhide HLS).2.2]) (by rw [(unhide HLS).1]; exact unhide HJ))
        clear HJ
        go_wp2_with fail
        have HLl := hide (lowL_len a lo hi (by rw [(unhide HLS).1, (unhide HLS).2.1]) (by rw [(unhide HLS).2.1, (unhide HLS).2.2]))
        have HMl := hide (lowL_len a hi lo (by rw [(unhide HLS).1, (unhide HLS).2.2]) (by rw [(unhide HLS).2.1, (unhide HLS).2.2]))
        have HB0 := hide (unhide HA)
        generalize wr = W0 at *
        obtain ⟨⟨y0, y1, y2, y3, y4⟩, -⟩ := unhide HB0
        clear y0 y1 y2 y3 y4
        go_loopw [10, 11, 12] (fun ux uy x wr => ∃ (j : Nat) (sx sy : Value), ux = sx ∧ uy = sy ∧ x = .int .i64 j ∧ j ≤ i ∧ Hid (OwnI W0.heap.size wr sx ((lowL a lo hi).take j) ∧ OwnI W0.heap.size wr sy ((lowL a hi lo).take j) ∧ (∀ g, sx.ownBlock = some g → sy.ownBlock ≠ some g) ∧ Below W0.heap.size W0 wr)) (fun _ _ x _ => i - (intOf x).toNat)
        case atStart =>
          have hnil : ∀ g : Nat, (Value.slice none 0 0).ownBlock = some g → (Value.slice none 0 0).ownBlock ≠ some g := fun g h => by simp [Value.ownBlock] at h
          exact ⟨0, _, _, rfl, rfl, rfl, Nat.zero_le _, hide (by first | exact ⟨OwnI.nil _ _, OwnI.nil _ _, hnil, Below.refl _ _⟩ | exact ⟨OwnI.nil _ _, hnil, Below.refl _ _⟩)⟩
        case round =>
          obtain ⟨j, sx, sy, hu, hv, rfl, hj', HX⟩ := hrel
          have hu := hu.symm
          have hv := hv.symm
          subst hu
          subst hv
          have hb0 := (unhide HX).2.2.2.size
          have hbx := (unhide HB0).1.keep ((unhide HX).2.2.2)
          have hbl := (unhide HB0).2.2.trans ((unhide HX).2.2.2.mono (unhide HB0).2.2.size)
          by_cases hlt : j < i
          · have hlt2 : (j : Int) < (i : Int) := by omega
            have hn9 : i ≤ 9223372036854775807 := by omega
            have hi9 : j < 9223372036854775807 := by omega
            have ja : j < a.length := by rw [(unhide HLS).1]; exact hlt
            have jl : j < lo.length := by rw [(unhide HLS).2.1]; exact hlt
            have jh : j < hi.length := by rw [(unhide HLS).2.2]; exact hlt
            have HLi : Hid (j < (lowL a lo hi).length ∧ j < (lowL a hi lo).length) := hide ⟨by rw [unhide HLl]; exact ja, by rw [unhide HMl]; exact ja⟩
            have hLa := lowL_at a lo hi j (by rw [(unhide HLS).1, (unhide HLS).2.1]) (by rw [(unhide HLS).2.1, (unhide HLS).2.2]) ja
            have hMa := lowL_at a hi lo j (by rw [(unhide HLS).1, (unhide HLS).2.2]) (by rw [(unhide HLS).2.1, (unhide HLS).2.2]) ja
            have HLM0 := hide (And.intro hLa hMa)
            have ha3 : Ints wr (.slice aa i ac) a := (unhide HO).1.below hbl
            have hl3 : Ints wr (.slice la i lc) lo := (unhide HO).2.1.below hbl
            have hh3 : Ints wr (.slice ha' i hc) hi := (unhide HO).2.2.below hbl
            obtain ⟨lb, lo', lcap, hv1, _, _, hcl⟩ := ha3.at (by omega)
            injection hv1 with hv1 hv2 hv3
            subst hv1
            obtain ⟨db, do_, dcap, hv1', _, _, hcd⟩ := hl3.at (by omega)
            injection hv1' with hv1' hv2' hv3'
            subst hv1'
            obtain ⟨eb, eo_, ecap, hv1'', _, _, hce⟩ := hh3.at (by omega)
            injection hv1'' with hv1'' hv2'' hv3''
            subst hv1''
            have cl := hcl j ja
            have cd := hcd j jl
            have ce := hce j jh
            have HXL : Hid (((lowL a lo hi).take j).length ≤ j) := hide (List.length_take_le _ _)
            have HYL : Hid (((lowL a hi lo).take j).length ≤ j) := hide (List.length_take_le _ _)
            clear hcl hcd hce hv2 hv3 hv2' hv3' hv2'' hv3'' ha3 hl3 hh3 hLa hMa
            generalize a[j]'ja = c at *
            generalize lo[j]'jl = p at *
            generalize hi[j]'jh = q at *
            obtain ⟨h0, h1', h2', h3', h4'⟩ := hbx
            by_cases hneg : c < 0
            · have hdn : decide (c < 0) = true := decide_eq_true hneg
              have HLM : Hid (q = (lowL a lo hi)[j]'(unhide HLi).1 ∧ p = (lowL a hi lo)[j]'(unhide HLi).2) := hide ⟨by rw [(unhide HLM0).1, if_pos hneg], by rw [(unhide HLM0).2, if_pos hneg]⟩
              clear HLM0
              obtain ⟨v1', w1, hr1, ho1, hg1, hat1⟩ := append_i (n := q) (unhide HX).1 hb0 (by have := unhide HXL; omega)
              have ho2 := (unhide HX).2.1.kept hg1 (by
                cases hv : sy.ownBlock with
                | none => exact .inl rfl
                | some g => exact .inr (fun e => (unhide HX).2.2.1 g e.symm hv))
              have hbw1 : W0.heap.size ≤ w1.heap.size := Nat.le_trans hb0 hg1.size
              obtain ⟨v2', w2, hr2, ho3, hg2, hat2⟩ := append_i (n := p) ho2 hbw1 (by have := unhide HYL; omega)
              have ho4 := ho1.kept hg2 (by
                cases hv : v1'.ownBlock with
                | none => exact .inl rfl
                | some g =>
                  refine .inr (fun e => ?_)
                  rcases hat1 with h | h
                  · exact (unhide HX).2.2.1 g (h.symm.trans hv) e.symm
                  · have := ((unhide HX).2.1.lt e.symm).2
                    rw [h] at hv
                    injection hv with hv
                    omega)
              have hdis : ∀ g, v1'.ownBlock = some g → v2'.ownBlock ≠ some g := fun g hv e => by
                rcases hat2 with h | h
                · rw [h] at e
                  rcases hat1 with h' | h'
                  · exact (unhide HX).2.2.1 g (h'.symm.trans hv) e
                  · have := ((unhide HX).2.1.lt e).2
                    rw [h'] at hv
                    injection hv with hv
                    omega
                · have := (ho1.lt hv).2
                  rw [h] at e
                  injection e with e
                  omega
              have hbelow : Below W0.heap.size W0 w2 := below_grown (below_grown (unhide HX).2.2.2 hg1 hb0 (fun g hv => ((unhide HX).1.lt hv).1)) hg2 hbw1 (fun g hv => (ho2.lt hv).1)
              have HX2 : Hid (OwnI W0.heap.size w2 v1' ((lowL a lo hi).take (j + 1)) ∧ OwnI W0.heap.size w2 v2' ((lowL a hi lo).take (j + 1)) ∧ (∀ g, v1'.ownBlock = some g → v2'.ownBlock ≠ some g) ∧ Below W0.heap.size W0 w2) := hide ⟨by rw [take_next (unhide HLi).1, ← (unhide HLM).1]; exact ho4, by rw [take_next (unhide HLi).2, ← (unhide HLM).2]; exact ho3, hdis, hbelow⟩
              have R1 := hide hr1
              have R2 := hide hr2
              clear hr1 ho1 hg1 hat1 ho2 hbw1 hr2 ho3 hg2 hat2 ho4 hdis hbelow HX
              go_wp2_with (first | (at_builtin; refine wpList_append_runT IST IST rfl _ _ rfl rfl _ _ rfl rfl _ _ (unhide R1) ?_) | (at_builtin; refine wpList_append_runT IST IST rfl _ _ rfl rfl _ _ rfl rfl _ _ (unhide R2) ?_))
              go_roundw
              case rel => exact ⟨j + 1, v1', v2', rfl, rfl, by go_num, by omega, HX2⟩
              case measure => simp [intOf]; omega
            · have hdn : decide (c < 0) = false := decide_eq_false hneg
              have HLM : Hid (p = (lowL a lo hi)[j]'(unhide HLi).1 ∧ q = (lowL a hi lo)[j]'(unhide HLi).2) := hide ⟨by rw [(unhide HLM0).1, if_neg hneg], by rw [(unhide HLM0).2, if_neg hneg]⟩
              clear HLM0
              obtain ⟨v1', w1, hr1, ho1, hg1, hat1⟩ := append_i (n := p) (unhide HX).1 hb0 (by have := unhide HXL; omega)
              have ho2 := (unhide HX).2.1.kept hg1 (by
                cases hv : sy.ownBlock with
                | none => exact .inl rfl
                | some g => exact .inr (fun e => (unhide HX).2.2.1 g e.symm hv))
              have hbw1 : W0.heap.size ≤ w1.heap.size := Nat.le_trans hb0 hg1.size
              obtain ⟨v2', w2, hr2, ho3, hg2, hat2⟩ := append_i (n := q) ho2 hbw1 (by have := unhide HYL; omega)
              have ho4 := ho1.kept hg2 (by
                cases hv : v1'.ownBlock with
                | none => exact .inl rfl
                | some g =>
                  refine .inr (fun e => ?_)
                  rcases hat1 with h | h
                  · exact (unhide HX).2.2.1 g (h.symm.trans hv) e.symm
                  · have := ((unhide HX).2.1.lt e.symm).2
                    rw [h] at hv
                    injection hv with hv
                    omega)
              have hdis : ∀ g, v1'.ownBlock = some g → v2'.ownBlock ≠ some g := fun g hv e => by
                rcases hat2 with h | h
                · rw [h] at e
                  rcases hat1 with h' | h'
                  · exact (unhide HX).2.2.1 g (h'.symm.trans hv) e
                  · have := ((unhide HX).2.1.lt e).2
                    rw [h'] at hv
                    injection hv with hv
                    omega
                · have := (ho1.lt hv).2
                  rw [h] at e
                  injection e with e
                  omega
              have hbelow : Below W0.heap.size W0 w2 := below_grown (below_grown (unhide HX).2.2.2 hg1 hb0 (fun g hv => ((unhide HX).1.lt hv).1)) hg2 hbw1 (fun g hv => (ho2.lt hv).1)
              have HX2 : Hid (OwnI W0.heap.size w2 v1' ((lowL a lo hi).take (j + 1)) ∧ OwnI W0.heap.size w2 v2' ((lowL a hi lo).take (j + 1)) ∧ (∀ g, v1'.ownBlock = some g → v2'.ownBlock ≠ some g) ∧ Below W0.heap.size W0 w2) := hide ⟨by rw [take_next (unhide HLi).1, ← (unhide HLM).1]; exact ho4, by rw [take_next (unhide HLi).2, ← (unhide HLM).2]; exact ho3, hdis, hbelow⟩
              have R1 := hide hr1
              have R2 := hide hr2
              clear hr1 ho1 hg1 hat1 ho2 hbw1 hr2 ho3 hg2 hat2 ho4 hdis hbelow HX
              go_wp2_with (first | (at_builtin; refine wpList_append_runT IST IST rfl _ _ rfl rfl _ _ rfl rfl _ _ (unhide R1) ?_) | (at_builtin; refine wpList_append_runT IST IST rfl _ _ rfl rfl _ _ rfl rfl _ _ (unhide R2) ?_))
              go_roundw
              case rel => exact ⟨j + 1, v1', v2', rfl, rfl, by go_num, by omega, HX2⟩
              case measure => simp [intOf]; omega
          · have hji : j = i := by omega
            subst hji
            have hlt2 : ¬ (j : Int) < (j : Int) := by omega
            have hoL : OwnI W0.heap.size wr sx (lowL a lo hi) := by have := (unhide HX).1; rwa [List.take_of_length_le (by rw [unhide HLl, (unhide HLS).1]; exact Nat.le_refl _)] at this
            have hoM : OwnI W0.heap.size wr sy (lowL a hi lo) := by have := (unhide HX).2.1; rwa [List.take_of_length_le (by rw [unhide HMl, (unhide HLS).1]; exact Nat.le_refl _)] at this
            have HOO := hide (And.intro hoL hoM)
            have HBX := hide hbx
            have HRX := hide (hbl : Below w.heap.size w wr)
            have HRS := hide ((unhide HB0).2.1.keep (unhide HX).2.2.2)
            obtain ⟨h0, h1', h2', h3', h4'⟩ := hbx
            have HA1 := hide (refAt_any wr (.slice aa j ac) sx a (lowL a lo hi) ka ((unhide HO).1.below hbl) hoL.ints (unhide HR).1 (lowL_rng _ _ _ (unhide HR).2.1 (unhide HR).2.2) ia (by rw [(unhide HLS).1]; exact hn) (by rw [unhide HLl, (unhide HLS).1]; exact hn))
            have HA2 := hide (fun W (hW : Below wr.heap.size wr W) => refAt_any W (.slice aa j ac) sy a (lowL a hi lo) ka ((unhide HO).1.below (hbl.trans (hW.mono hbl.size))) (hoM.below hW).ints (unhide HR).1 (lowL_rng _ _ _ (unhide HR).2.2 (unhide HR).2.1) ia (by rw [(unhide HLS).1]; exact hn) (by rw [unhide HMl, (unhide HLS).1]; exact hn))
            clear hoL hoM hb0 hbl HX HB0
            go_upto_region 21 with (go_at_call 20; refine (unhide HA1).mono ?_; rintro ev w1 ⟨g1, gn1, gc1, rfl, ht1, hb1⟩; have h0 := ((unhide HBX).keep hb1).c0; have h1' := ((unhide HBX).keep hb1).c1)
            have hB1 := alloc_below w1 (.cells #[.slice g1 gn1 gc1, .int .i64 (atE a (lowL a lo hi) ka)] WrT)
            have HW1 := hide (bthen hb1 hB1)
            have HX16 := hide (Bx.new w1 (.slice g1 gn1 gc1) (.int .i64 (atE a (lowL a lo hi) ka)) WrT)
            have HA3 := hide (unhide HA2 (w1.alloc (.cells #[.slice g1 gn1 gc1, .int .i64 (atE a (lowL a lo hi) ka)] WrT)) (unhide HW1))
            have HBX2 := hide ((unhide HBX).keep (unhide HW1))
            have HRS2 := hide ((unhide HRS).keep (unhide HW1))
            have HRX2 := hide ((unhide HRX).trans ((unhide HW1).mono (unhide HRX).size))
            clear h0 h1' h2' h3' h4' hb1 hB1 ht1 HA1 HA2 HW1 HBX HRS HRX
            generalize w1.alloc (.cells #[.slice g1 gn1 gc1, .int .i64 (atE a (lowL a lo hi) ka)] WrT) = W1 at *
            generalize w1.heap.size = b16 at *
            obtain ⟨h0, h1', h2', h3', h4'⟩ := unhide HBX2
            go_upto_region 22 with (go_at_call 20; refine (unhide HA3).mono ?_; rintro ev w2 ⟨g2, gn2, gc2, rfl, ht2, hb2⟩)
            have hB2 := alloc_below w2 (.cells #[.slice g2 gn2 gc2, .int .i64 (atE a (lowL a hi lo) ka)] WrT)
            have HX16b := hide ((unhide HX16).keep (bthen hb2 hB2))
            have HX18 := hide (Bx.new w2 (.slice g2 gn2 gc2) (.int .i64 (atE a (lowL a hi lo) ka)) WrT)
            have HRS3 := hide ((unhide HRS2).keep (bthen hb2 hB2))
            have HRX3 := hide ((unhide HRX2).trans ((bthen hb2 hB2).mono (unhide HRX2).size))
            clear h0 h1' h2' h3' h4' hb2 hB2 ht2 HA3 HX16 HBX2 HRS2 HRX2
            generalize w2.alloc (.cells #[.slice g2 gn2 gc2, .int .i64 (atE a (lowL a hi lo) ka)] WrT) = W2 at *
            generalize w2.heap.size = b18 at *
            have HLE1 : Hid (a.length = (lowL a lo hi).length) := hide (unhide HLl).symm
            have HLE2 : Hid (a.length = (lowL a hi lo).length) := hide (unhide HMl).symm
            have HS5 := hide (unhide HF5 W2)
            cases hp1 : atP a (lowL a lo hi) ka with
            | none =>
              have HE1 := hide (atE_none (unhide HLE1) hp1)
              have HF := hide (rngE_none (unhide HBOX) (.inl hp1))
              rw [(unhide HE1).1] at HX16b
              clear hp1
              obtain ⟨k0, k1, k2, k3, k4⟩ := unhide HX16b
              generalize atE a (lowL a hi lo) ka = E2 at *
              go_wp2_with fail
              refine (unhide HS5).mono ?_
              rintro e w6 ⟨b6, rfl, ht, hb⟩
              clear k0 k1 k2 k3 k4
              have hbx := ((unhide HRS3)).keep hb
              have HBLW := (unhide HRX3)
              have HBX6 := hide hbx
              have HFZ := (hbx.set0 (.slice (some ⟨b6, 0, none⟩) 1 1)).set1 (.int .i64 5)
              have HT := hide (((ht.setCell ⟨xr, 0, none⟩ ((unhide HRS3)).lt (.slice (some ⟨b6, 0, none⟩) 1 1)).setCell ⟨xr, 1, none⟩ ((unhide HRS3)).lt (.int .i64 5)).mono HBLW.size)
              have HB2 := hide (((HBLW.trans (hb.mono HBLW.size)).setCell (p := ⟨xr, 0, none⟩) (by show w.heap.size ≤ xr; omega) (.slice (some ⟨b6, 0, none⟩) 1 1)).setCell (p := ⟨xr, 1, none⟩) (by show w.heap.size ≤ xr; omega) (.int .i64 5))
              clear hb ht hbx HBLW
              obtain ⟨z0, z1, z2, z3, z4⟩ := unhide HBX6
              go_wp2_with fail
              rw [(unhide HF).1, (unhide HF).2]
              exact bodyPost_ret (v := .tuple #[.int .i64 0, .int .i64 0, .agg #[.slice (some ⟨b6, 0, none⟩) 1 1, .int .i64 5]]) (by simp [results, Tryd.results22, go_sem, HFZ.c0, HFZ.c1]) rfl ⟨some ⟨b6, 0, none⟩, 1, 1, rfl, unhide HT, unhide HB2⟩
            | some u =>
              have HE1 := hide (atE_some (unhide HLE1) hp1)
              rw [(unhide HE1).1] at HX16b
              cases hp2 : atP a (lowL a hi lo) ka with
              | none =>
                have HE2 := hide (atE_none (unhide HLE2) hp2)
                have HF := hide (rngE_none (unhide HBOX) (.inr hp2))
                rw [(unhide HE2).1] at HX18
                clear hp1 hp2
                obtain ⟨k0, k1, k2, k3, k4⟩ := unhide HX16b
                obtain ⟨m0, m1, m2, m3, m4⟩ := unhide HX18
                go_wp2_with fail
                refine (unhide HS5).mono ?_
                rintro e w6 ⟨b6, rfl, ht, hb⟩
                clear k0 k1 k2 k3 k4 m0 m1 m2 m3 m4
                have hbx := ((unhide HRS3)).keep hb
                have HBLW := (unhide HRX3)
                have HBX6 := hide hbx
                have HFZ := (hbx.set0 (.slice (some ⟨b6, 0, none⟩) 1 1)).set1 (.int .i64 5)
                have HT := hide (((ht.setCell ⟨xr, 0, none⟩ ((unhide HRS3)).lt (.slice (some ⟨b6, 0, none⟩) 1 1)).setCell ⟨xr, 1, none⟩ ((unhide HRS3)).lt (.int .i64 5)).mono HBLW.size)
                have HB2 := hide (((HBLW.trans (hb.mono HBLW.size)).setCell (p := ⟨xr, 0, none⟩) (by show w.heap.size ≤ xr; omega) (.slice (some ⟨b6, 0, none⟩) 1 1)).setCell (p := ⟨xr, 1, none⟩) (by show w.heap.size ≤ xr; omega) (.int .i64 5))
                clear hb ht hbx HBLW
                obtain ⟨z0, z1, z2, z3, z4⟩ := unhide HBX6
                go_wp2_with fail
                rw [(unhide HF).1, (unhide HF).2]
                exact bodyPost_ret (v := .tuple #[.int .i64 0, .int .i64 0, .agg #[.slice (some ⟨b6, 0, none⟩) 1 1, .int .i64 5]]) (by simp [results, Tryd.results22, go_sem, HFZ.c0, HFZ.c1]) rfl ⟨some ⟨b6, 0, none⟩, 1, 1, rfl, unhide HT, unhide HB2⟩
              | some v =>
                have HE2 := hide (atE_some (unhide HLE2) hp2)
                have HF := hide (rngE_some (unhide HBOX) hp1 hp2)
                rw [(unhide HE2).1] at HX18
                clear hp1 hp2
                obtain ⟨k0, k1, k2, k3, k4⟩ := unhide HX16b
                obtain ⟨m0, m1, m2, m3, m4⟩ := unhide HX18
                obtain ⟨z0, z1, z2, z3, z4⟩ := unhide HRS3
                have HFZ := ((unhide HRS3).set0 (.slice none 0 0)).set1 (.int .i64 0)
                have HB2 := hide (((unhide HRX3).setCell (p := ⟨xr, 0, none⟩) (by show w.heap.size ≤ xr; omega) (.slice none 0 0)).setCell (p := ⟨xr, 1, none⟩) (by show w.heap.size ≤ xr; omega) (.int .i64 0))
                rw [(unhide HE1).2, (unhide HE2).2]
                go_wp2_with fail
                rw [(unhide HF).1, (unhide HF).2]
                exact bodyPost_ret (v := .tuple #[.int .i64 u, .int .i64 v, .agg #[.slice none 0 0, .int .i64 0]]) (by simp [results, Tryd.results22, go_sem, HFZ.c0, HFZ.c1]) rfl ⟨none, 0, 0, rfl, .inl ⟨rfl, rfl⟩, unhide HB2⟩
  · have HE := hide (rngE_box (c := a) (lo := lo) (hi := hi) (k := ka) (by rw [(unhide HLS).1]; exact boxP_len2 (by rw [(unhide HLS).2.1, (unhide HLS).2.2]; exact hlens)))
    have hne : ((n : Int) != (n1 : Int)) = true ∨ ((n : Int) != (n1 : Int)) = false ∧ ((n1 : Int) != (n2 : Int)) = true := by
      by_cases h : n = n1
      · exact .inr ⟨by simp [h], by simp; omega⟩
      · exact .inl (by simp; omega)
    generalize rngE a lo hi ka = E at *
    generalize rngV a lo hi ka = V at *
    obtain ⟨rfl, rfl⟩ := unhide HE
    have HST1 := HST
    rcases hne with hne | ⟨hne, hne2⟩
    · go_enter Tryd.func22, Tryd.ntmps22
      go_wp2_with fail
      have HS5 := hide (unhide HF1 ((w.alloc (.cells #[.slice aa n ac, .int .i64 ka] RfT)).alloc (.cells #[.slice none 0 0, .int .i64 0] WrT)))
      generalize (w.alloc (.cells #[.slice aa n ac, .int .i64 ka] RfT)).alloc (.cells #[.slice none 0 0, .int .i64 0] WrT) = W0 at *
      generalize hxr : w.heap.size + 1 = xr at *
      refine (unhide HS5).mono ?_
      rintro e w6 ⟨b6, rfl, ht, hb⟩
      have hbx := ((unhide HST1).2.1).keep hb
      have HBLW := (unhide HST1).2.2
      have HBX6 := hide hbx
      have HFZ := (hbx.set0 (.slice (some ⟨b6, 0, none⟩) 1 1)).set1 (.int .i64 1)
      have HT := hide (((ht.setCell ⟨xr, 0, none⟩ ((unhide HST1).2.1).lt (.slice (some ⟨b6, 0, none⟩) 1 1)).setCell ⟨xr, 1, none⟩ ((unhide HST1).2.1).lt (.int .i64 1)).mono HBLW.size)
      have HB2 := hide (((HBLW.trans (hb.mono HBLW.size)).setCell (p := ⟨xr, 0, none⟩) (by show w.heap.size ≤ xr; omega) (.slice (some ⟨b6, 0, none⟩) 1 1)).setCell (p := ⟨xr, 1, none⟩) (by show w.heap.size ≤ xr; omega) (.int .i64 1))
      clear hb ht hbx HBLW
      obtain ⟨z0, z1, z2, z3, z4⟩ := unhide HBX6
      go_wp2_with fail
      exact bodyPost_ret (v := .tuple #[.int .i64 0, .int .i64 0, .agg #[.slice (some ⟨b6, 0, none⟩) 1 1, .int .i64 1]]) (by simp [results, Tryd.results22, go_sem, HFZ.c0, HFZ.c1]) rfl ⟨some ⟨b6, 0, none⟩, 1, 1, rfl, unhide HT, unhide HB2⟩
    · go_enter Tryd.func22, Tryd.ntmps22
      go_wp2_with fail
      have HS5 := hide (unhide HF1 ((w.alloc (.cells #[.slice aa n ac, .int .i64 ka] RfT)).alloc (.cells #[.slice none 0 0, .int .i64 0] WrT)))
      generalize (w.alloc (.cells #[.slice aa n ac, .int .i64 ka] RfT)).alloc (.cells #[.slice none 0 0, .int .i64 0] WrT) = W0 at *
      generalize hxr : w.heap.size + 1 = xr at *
      refine (unhide HS5).mono ?_
      rintro e w6 ⟨b6, rfl, ht, hb⟩
      have hbx := ((unhide HST1).2.1).keep hb
      have HBLW := (unhide HST1).2.2
      have HBX6 := hide hbx
      have HFZ := (hbx.set0 (.slice (some ⟨b6, 0, none⟩) 1 1)).set1 (.int .i64 1)
      have HT := hide (((ht.setCell ⟨xr, 0, none⟩ ((unhide HST1).2.1).lt (.slice (some ⟨b6, 0, none⟩) 1 1)).setCell ⟨xr, 1, none⟩ ((unhide HST1).2.1).lt (.int .i64 1)).mono HBLW.size)
      have HB2 := hide (((HBLW.trans (hb.mono HBLW.size)).setCell (p := ⟨xr, 0, none⟩) (by show w.heap.size ≤ xr; omega) (.slice (some ⟨b6, 0, none⟩) 1 1)).setCell (p := ⟨xr, 1, none⟩) (by show w.heap.size ≤ xr; omega) (.int .i64 1))
      clear hb ht hbx HBLW
      obtain ⟨z0, z1, z2, z3, z4⟩ := unhide HBX6
      go_wp2_with fail
      exact bodyPost_ret (v := .tuple #[.int .i64 0, .int .i64 0, .agg #[.slice (some ⟨b6, 0, none⟩) 1 1, .int .i64 1]]) (by simp [results, Tryd.results22, go_sem, HFZ.c0, HFZ.c1]) rfl ⟨some ⟨b6, 0, none⟩, 1, 1, rfl, unhide HT, unhide HB2⟩
end Go.Proofs.YtmbhamnkbpcljaaDoor.Line
