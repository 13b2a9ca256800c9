/- The contract of the program's Range. -/
import Derived.Test.YtmbhamnkbpcljaaDoorLnBxo
namespace Go.Proofs.YtmbhamnkbpcljaaDoor.Line
open Go.ChangeShapes Go.WideShapes Go.ChangeAt Go.RowKit
set_option linter.unusedVariables false

set_option maxHeartbeats 16000000 in
set_option maxRecDepth 100000 in
theorem linRange_any (w : World) (av lv hv : Value) (a lo hi : List Int) (ka : Int) (ha : Ints w av a) (hl : Ints w lv lo) (hh : Ints w hv hi) (ra : Rng a) (rl : Rng lo) (rh : Rng hi) (ia : In64 ka) (hn : a.length ≤ 1000) (h1 : lo.length ≤ 1000) (h2 : hi.length ≤ 1000) :
    Calls Tryd.prog 21 #[formV av ka, lv, hv] w fun e w' => ∃ f, e = .returned (.tuple #[.int .i64 (rngV a lo hi ka).1, .int .i64 (rngV a lo hi ka).2, f]) ∧ Says w.heap.size w' f wForm 0 (rngE a lo hi ka) ∧ Below w.heap.size w w' := by
  have HF := hide fault_any
  have HIB := hide (fun W (hW : Below w.heap.size w W) => isBox_any W a.length lv hv lo hi (hl.below hW) (hh.below hW) hn h1 h2)
  have HO := hide (And.intro ha (And.intro hl hh))
  have HR := hide (And.intro ra (And.intro rl rh))
  obtain ⟨aa, ac, rfl⟩ := ha.shape
  obtain ⟨la, lc, rfl⟩ := hl.shape
  obtain ⟨ha', hc, rfl⟩ := hh.shape
  have HW1 := hide (alloc_below w (.cells #[.slice aa a.length ac, .int .i64 ka] FmT))
  have HX1 := hide (Bx.new w (.slice aa a.length ac) (.int .i64 ka) FmT)
  have HRS := hide (RS.new (unhide HW1))
  rw [size_al] at HRS
  clear ha hl hh ra rl rh
  generalize hna : a.length = n at *
  generalize hnl : lo.length = n1 at *
  generalize hnh : hi.length = n2 at *
  have HLS := hide (And.intro hna (And.intro hnl hnh))
  clear hna hnl hnh
  cases hbox : boxP n lo hi
  · have HE := hide (rngE_box (c := a) (lo := lo) (hi := hi) (k := ka) (by rw [(unhide HLS).1]; exact hbox))
    have HIB2 := hide (unhide HIB _ (unhide HW1))
    rw [hbox] at HIB2
    clear HIB hbox
    generalize rngE a lo hi ka = E at *
    generalize rngV a lo hi ka = V at *
    obtain ⟨rfl, rfl⟩ := unhide HE
    go_enter Tryd.func21, Tryd.ntmps21
    go_wp2_with fail
    refine (unhide HIB2).mono ?_
    rintro e w1 ⟨rfl, hw⟩
    subst hw
    go_wp2_with fail
    generalize w.alloc (.cells #[.slice aa n ac, .int .i64 ka] FmT) = W0 at *
    refine (unhide HF 1 (by decide) _).mono ?_
    rintro e w2 ⟨f, rfl, hs, hB⟩
    have HS := hide (hs.mono (unhide HW1).size)
    have HB2 := hide (bthen (unhide HW1) hB)
    clear hs hB
    go_wp2_with fail
    exact bodyPost_ret (v := .tuple #[.int .i64 0, .int .i64 0, f]) (by simp [results, Tryd.results21, go_sem]) rfl ⟨f, rfl, unhide HS, unhide HB2⟩
  · have hlens := boxP_lens hbox
    rw [(unhide HLS).2.1, (unhide HLS).2.2] at hlens
    obtain ⟨e1, e2⟩ := hlens
    subst e1
    subst e2
    have HIB2 := hide (unhide HIB _ (unhide HW1))
    have HBOX := hide (by rw [← (unhide HLS).1] at hbox; exact hbox : boxP a.length lo hi = true)
    rw [hbox] at HIB2
    clear HIB hbox
    go_enter Tryd.func21, Tryd.ntmps21
    go_wp2_with fail
    refine (unhide HIB2).mono ?_
    rintro e w1 ⟨rfl, hw⟩
    subst hw
    have HA0 := hide (And.intro (unhide HRS) ((unhide HX1).keep (alloc_below _ (.cells #[.bool false] RcT))))
    go_wp2_with fail
    clear HX1 HRS HIB2
    generalize (w.alloc (.cells #[.slice aa n2 ac, .int .i64 ka] FmT)).alloc (.cells #[.bool false] RcT) = W0 at *
    generalize hrb : w.heap.size + 1 = rb at *
    go_loopw [10, 11, 27] (fun u v x wr => ∃ (i : Nat) (o : Bool) (s t : Int), u = .int .i64 s ∧ v = .int .i64 t ∧ x = .int .i64 i ∧ i ≤ n2 ∧ Hid (In64 s ∧ In64 t) ∧ Hid (RS w wr rb o ∧ Bx wr w.heap.size (.slice aa n2 ac) (.int .i64 ka)) ∧ Hid (RgI a (lowL a lo hi) (lowL a hi lo) i o s t)) (fun _ _ x _ => n2 - (intOf x).toNat)
    case atStart => exact ⟨0, false, 0, 0, rfl, rfl, rfl, Nat.zero_le _, hide ⟨⟨by decide, by decide⟩, ⟨by decide, by decide⟩⟩, HA0, hide (RgI.zero _ _ _)⟩
    case round =>
      obtain ⟨i, o, s, t, rfl, rfl, rfl, hi', HV, HA, HI⟩ := hrel
      clear HA0
      by_cases hlt : i < n2
      · have hlt' : (i : Int) < (n2 : Int) := by omega
        have hn9 : n2 ≤ 9223372036854775807 := by omega
        have hi9 : i < 9223372036854775807 := by omega
        have hal := (unhide HLS).1
        have hll := (unhide HLS).2.1
        have hhl := (unhide HLS).2.2
        have hbl := (unhide HA).1.bl
        have ha2 := (unhide HO).1.below hbl
        have hl2 := (unhide HO).2.1.below hbl
        have hh2 := (unhide HO).2.2.below hbl
        have ja : i < a.length := by omega
        have jl : i < lo.length := by omega
        have jh : i < hi.length := by omega
        have hLl := lowL_len a lo hi (by omega) (by omega)
        have hMl := lowL_len a hi lo (by omega) (by omega)
        have hLa := lowL_at a lo hi i (by omega) (by omega) (by omega)
        have hMa := lowL_at a hi lo i (by omega) (by omega) (by omega)
        have hc64 := (unhide HR).1.at ja
        have hp64 := (unhide HR).2.1.at jl
        have hq64 := (unhide HR).2.2.at jh
        have hnx := (unhide HI).next ja (by omega) (by omega)
        have hnz := (unhide HI).none ja (by omega) (by omega)
        rw [← hal] at ha2
        rw [← hll] at hl2
        rw [← hhl] at hh2
        obtain ⟨lb, lo', lcap, hv1, _, _, hcl⟩ := ha2.at (by omega)
        injection hv1 with hv1 hv2 hv3
        subst hv1
        obtain ⟨db, do_, dcap, hv1', _, _, hcd⟩ := hl2.at (by omega)
        injection hv1' with hv1' hv2' hv3'
        subst hv1'
        obtain ⟨eb, eo_, ecap, hv1'', _, _, hce⟩ := hh2.at (by omega)
        injection hv1'' with hv1'' hv2'' hv3''
        subst hv1''
        have cl : wr.cell? ⟨lb, lo' + i, none⟩ = some (.int .i64 (a[i]'ja)) := hcl i ja
        have cd : wr.cell? ⟨db, do_ + i, none⟩ = some (.int .i64 (lo[i]'jl)) := hcd i jl
        have ce : wr.cell? ⟨eb, eo_ + i, none⟩ = some (.int .i64 (hi[i]'jh)) := hce i jh
        rw [hLa, hMa] at hnx
        have HNN : Hid (∀ c p q, c = a[i]'ja → p = lo[i]'jl → q = hi[i]'jh → (∀ x y, x = (if c < 0 then q else p) → y = (if c < 0 then p else q) → RgI a (lowL a lo hi) (lowL a hi lo) (i + 1) ((((o || !fitO (c * x)) || !fitO (s + fitV (c * x))) || !fitO (c * y)) || !fitO (t + fitV (c * y))) (fitV (s + fitV (c * x))) (fitV (t + fitV (c * y)))) ∧ (c = 0 → RgI a (lowL a lo hi) (lowL a hi lo) (i + 1) o s t)) := hide (fun c p q hc hp hq => by
          subst hc hp hq
          exact ⟨fun x y hx hy => hnx _ x y rfl hx hy, fun h0 => hnz h0 (unhide HV).1 (unhide HV).2⟩)
        have hN := (unhide HNN) _ _ _ rfl rfl rfl
        clear hcl hcd hce hv2 hv3 hv2' hv3' hv2'' hv3'' ha2 hl2 hh2 hLl hMl hLa hMa hnx hnz HNN
        generalize a[i]'ja = c at *
        generalize lo[i]'jl = p at *
        generalize hi[i]'jh = q at *
        have HC := hide (And.intro hc64 (And.intro hp64 hq64))
        have HN0 := hide hN
        clear hN hc64 hp64 hq64 hal hll hhl ja jl jh
        go_wp2_with fail
        go_quiet (fail)
        have HA1 : Hid (RS w (wr.drewN nq) rb o ∧ Bx (wr.drewN nq) w.heap.size (.slice (some ⟨lb, lo', none⟩) n2 ac) (.int .i64 ka)) := hide ⟨(unhide HA).1.keep (below_drewN (Below.refl _ _) nq), (unhide HA).2.keep (below_drewN (Below.refl _ _) nq)⟩
        clear cl cd ce hbl HA
        generalize wr.drewN nq = w1 at *
        by_cases hneg : c < 0
        · have hdn : decide (c < 0) = true := decide_eq_true hneg
          have HN := hide (fun x y hx hy => (unhide HN0).1 x y (by rw [if_pos hneg]; exact hx) (by rw [if_pos hneg]; exact hy))
          clear HN0
          go_wp2_with fail
          refine (rmul_any w1 rb (o) c q (unhide HA1).1.ro (unhide HA1).1.rf (unhide HC).1 (unhide HC).2.2).mono ?_
          rintro ev wz ⟨rfl, hw⟩
          subst hw
          have HA2 := hide (And.intro ((unhide HA1).1.mark (o || !fitO (c * q))) ((unhide HA1).2.other ⟨rb, 0, none⟩ (by show rb ≠ w.heap.size; omega) (.bool (o || !fitO (c * q)))))
          clear HA1
          generalize w1.setCell ⟨rb, 0, none⟩ (.bool (o || !fitO (c * q))) = w2 at *
          go_wp2_with fail
          refine (radd_any w2 rb (o || !fitO (c * q)) s (fitV (c * q)) (unhide HA2).1.ro (unhide HA2).1.rf (unhide HV).1 (fitV_in64 _)).mono ?_
          rintro ev wz ⟨rfl, hw⟩
          subst hw
          have HA3 := hide (And.intro ((unhide HA2).1.mark ((o || !fitO (c * q)) || !fitO (s + fitV (c * q)))) ((unhide HA2).2.other ⟨rb, 0, none⟩ (by show rb ≠ w.heap.size; omega) (.bool ((o || !fitO (c * q)) || !fitO (s + fitV (c * q))))))
          clear HA2
          generalize w2.setCell ⟨rb, 0, none⟩ (.bool ((o || !fitO (c * q)) || !fitO (s + fitV (c * q)))) = w3 at *
          go_wp2_with fail
          refine (rmul_any w3 rb (((o || !fitO (c * q)) || !fitO (s + fitV (c * q)))) c p (unhide HA3).1.ro (unhide HA3).1.rf (unhide HC).1 (unhide HC).2.1).mono ?_
          rintro ev wz ⟨rfl, hw⟩
          subst hw
          have HA4 := hide (And.intro ((unhide HA3).1.mark (((o || !fitO (c * q)) || !fitO (s + fitV (c * q))) || !fitO (c * p))) ((unhide HA3).2.other ⟨rb, 0, none⟩ (by show rb ≠ w.heap.size; omega) (.bool (((o || !fitO (c * q)) || !fitO (s + fitV (c * q))) || !fitO (c * p)))))
          clear HA3
          generalize w3.setCell ⟨rb, 0, none⟩ (.bool (((o || !fitO (c * q)) || !fitO (s + fitV (c * q))) || !fitO (c * p))) = w4 at *
          go_wp2_with fail
          refine (radd_any w4 rb (((o || !fitO (c * q)) || !fitO (s + fitV (c * q))) || !fitO (c * p)) t (fitV (c * p)) (unhide HA4).1.ro (unhide HA4).1.rf (unhide HV).2 (fitV_in64 _)).mono ?_
          rintro ev wz ⟨rfl, hw⟩
          subst hw
          have HA5 := hide (And.intro ((unhide HA4).1.mark ((((o || !fitO (c * q)) || !fitO (s + fitV (c * q))) || !fitO (c * p)) || !fitO (t + fitV (c * p)))) ((unhide HA4).2.other ⟨rb, 0, none⟩ (by show rb ≠ w.heap.size; omega) (.bool ((((o || !fitO (c * q)) || !fitO (s + fitV (c * q))) || !fitO (c * p)) || !fitO (t + fitV (c * p))))))
          clear HA4
          generalize w4.setCell ⟨rb, 0, none⟩ (.bool ((((o || !fitO (c * q)) || !fitO (s + fitV (c * q))) || !fitO (c * p)) || !fitO (t + fitV (c * p)))) = w5 at *
          go_wp2_with fail
          go_roundw
          case rel => exact ⟨i + 1, _, _, _, rfl, rfl, by go_num, by omega, hide ⟨fitV_in64 _, fitV_in64 _⟩, HA5, hide ((unhide HN) q p rfl rfl)⟩
          case measure => simp [intOf]; omega
        · have hdn : decide (c < 0) = false := decide_eq_false hneg
          by_cases hpos : 0 < c
          · have hdp : decide (0 < c) = true := decide_eq_true hpos
            have HN := hide (fun x y hx hy => (unhide HN0).1 x y (by rw [if_neg hneg]; exact hx) (by rw [if_neg hneg]; exact hy))
            clear HN0
            go_wp2_with fail
            refine (rmul_any w1 rb (o) c p (unhide HA1).1.ro (unhide HA1).1.rf (unhide HC).1 (unhide HC).2.1).mono ?_
            rintro ev wz ⟨rfl, hw⟩
            subst hw
            have HA2 := hide (And.intro ((unhide HA1).1.mark (o || !fitO (c * p))) ((unhide HA1).2.other ⟨rb, 0, none⟩ (by show rb ≠ w.heap.size; omega) (.bool (o || !fitO (c * p)))))
            clear HA1
            generalize w1.setCell ⟨rb, 0, none⟩ (.bool (o || !fitO (c * p))) = w2 at *
            go_wp2_with fail
            refine (radd_any w2 rb (o || !fitO (c * p)) s (fitV (c * p)) (unhide HA2).1.ro (unhide HA2).1.rf (unhide HV).1 (fitV_in64 _)).mono ?_
            rintro ev wz ⟨rfl, hw⟩
            subst hw
            have HA3 := hide (And.intro ((unhide HA2).1.mark ((o || !fitO (c * p)) || !fitO (s + fitV (c * p)))) ((unhide HA2).2.other ⟨rb, 0, none⟩ (by show rb ≠ w.heap.size; omega) (.bool ((o || !fitO (c * p)) || !fitO (s + fitV (c * p))))))
            clear HA2
            generalize w2.setCell ⟨rb, 0, none⟩ (.bool ((o || !fitO (c * p)) || !fitO (s + fitV (c * p)))) = w3 at *
            go_wp2_with fail
            refine (rmul_any w3 rb (((o || !fitO (c * p)) || !fitO (s + fitV (c * p)))) c q (unhide HA3).1.ro (unhide HA3).1.rf (unhide HC).1 (unhide HC).2.2).mono ?_
            rintro ev wz ⟨rfl, hw⟩
            subst hw
            have HA4 := hide (And.intro ((unhide HA3).1.mark (((o || !fitO (c * p)) || !fitO (s + fitV (c * p))) || !fitO (c * q))) ((unhide HA3).2.other ⟨rb, 0, none⟩ (by show rb ≠ w.heap.size; omega) (.bool (((o || !fitO (c * p)) || !fitO (s + fitV (c * p))) || !fitO (c * q)))))
            clear HA3
            generalize w3.setCell ⟨rb, 0, none⟩ (.bool (((o || !fitO (c * p)) || !fitO (s + fitV (c * p))) || !fitO (c * q))) = w4 at *
            go_wp2_with fail
            refine (radd_any w4 rb (((o || !fitO (c * p)) || !fitO (s + fitV (c * p))) || !fitO (c * q)) t (fitV (c * q)) (unhide HA4).1.ro (unhide HA4).1.rf (unhide HV).2 (fitV_in64 _)).mono ?_
            rintro ev wz ⟨rfl, hw⟩
            subst hw
            have HA5 := hide (And.intro ((unhide HA4).1.mark ((((o || !fitO (c * p)) || !fitO (s + fitV (c * p))) || !fitO (c * q)) || !fitO (t + fitV (c * q)))) ((unhide HA4).2.other ⟨rb, 0, none⟩ (by show rb ≠ w.heap.size; omega) (.bool ((((o || !fitO (c * p)) || !fitO (s + fitV (c * p))) || !fitO (c * q)) || !fitO (t + fitV (c * q))))))
            clear HA4
            generalize w4.setCell ⟨rb, 0, none⟩ (.bool ((((o || !fitO (c * p)) || !fitO (s + fitV (c * p))) || !fitO (c * q)) || !fitO (t + fitV (c * q)))) = w5 at *
            go_wp2_with fail
            go_roundw
            case rel => exact ⟨i + 1, _, _, _, rfl, rfl, by go_num, by omega, hide ⟨fitV_in64 _, fitV_in64 _⟩, HA5, hide ((unhide HN) p q rfl rfl)⟩
            case measure => simp [intOf]; omega
          · have hdp : decide (0 < c) = false := decide_eq_false hpos
            have HN := hide ((unhide HN0).2 (by omega))
            clear HN0
            go_wp2_with fail
            go_roundw
            case rel => exact ⟨i + 1, _, _, _, rfl, rfl, by go_num, by omega, HV, HA1, HN⟩
            case measure => simp [intOf]; omega
      · have hin : i = n2 := by omega
        subst hin
        have hlt' : ¬ (i : Int) < (i : Int) := by omega
        have HFI := hide ((unhide HI).fin ka (by rw [(unhide HLS).1]; exact Nat.le_refl _))
        go_wp2_with fail
        have hd : Below wr.heap.size wr wr.drew := below_drewN (Below.refl _ _) 1
        have HA1 := hide (And.intro ((unhide HA).1.keep hd) ((unhide HA).2.keep hd))
        refine wp_regionE (fun W => Bx W w.heap.size (.slice aa i ac) (.int .i64 ka)) (fun j => decide (j < 10)) (by kernel_rfl) (unhide HA1).2 (fun hS => ?_)
        clear HA hd
        generalize wr.drew = w1 at *
        refine anyE_take 0 (v := ?_) rfl (by kernel_rfl) (by kernel_rfl) (by kernel_rfl) (by kernel_rfl) (fun _ _ _ h => h) hS (Or.inl ⟨by rfl, ?_⟩) ?_
        rotate_left
        · intro w' hS'
          obtain ⟨e0, e1, _, _, _⟩ := hS'
          go_simp
          try with_reducible rfl
        try simp only [List.getElem_toArray, List.getElem_cons_zero, Act.put, List.setIfInBounds_toArray, List.set_cons_zero, List.set_cons_succ]
        refine anyE_take 1 (v := ?_) rfl (by kernel_rfl) (by kernel_rfl) (by kernel_rfl) (by kernel_rfl) (fun _ _ _ h => h) hS (Or.inl ⟨by rfl, ?_⟩) ?_
        rotate_left
        · intro w' hS'
          obtain ⟨e0, e1, _, _, _⟩ := hS'
          go_simp
          try with_reducible rfl
        try simp only [List.getElem_toArray, List.getElem_cons_succ, List.getElem_cons_zero, Act.put, List.setIfInBounds_toArray, List.set_cons_zero, List.set_cons_succ]
        refine anyE_take 2 (v := ?_) rfl (by kernel_rfl) (by kernel_rfl) (by kernel_rfl) (by kernel_rfl) (fun _ _ _ h => h) hS (Or.inl ⟨by rfl, ?_⟩) ?_
        rotate_left
        · intro w' hS'
          obtain ⟨e0, e1, _, _, _⟩ := hS'
          go_simp
          try with_reducible rfl
        try simp only [List.getElem_toArray, List.getElem_cons_succ, List.getElem_cons_zero, Act.put, List.setIfInBounds_toArray, List.set_cons_zero, List.set_cons_succ]
        refine anyE_take 4 (v := ?_) rfl (by kernel_rfl) (by kernel_rfl) (by kernel_rfl) (by kernel_rfl) (fun _ _ _ h => h) hS (Or.inl ⟨by rfl, ?_⟩) ?_
        rotate_left
        · intro w' hS'
          obtain ⟨e0, e1, _, _, _⟩ := hS'
          go_simp
          try with_reducible rfl
        try simp only [List.getElem_toArray, List.getElem_cons_succ, List.getElem_cons_zero, Act.put, List.setIfInBounds_toArray, List.set_cons_zero, List.set_cons_succ]
        refine anyE_take 5 (v := ?_) rfl (by kernel_rfl) (by kernel_rfl) (by kernel_rfl) (by kernel_rfl) (fun _ _ _ h => h) hS (Or.inl ⟨by rfl, ?_⟩) ?_
        rotate_left
        · intro w' hS'
          obtain ⟨e0, e1, _, _, _⟩ := hS'
          go_simp
          try with_reducible rfl
        try simp only [List.getElem_toArray, List.getElem_cons_succ, List.getElem_cons_zero, Act.put, List.setIfInBounds_toArray, List.set_cons_zero, List.set_cons_succ]
        refine anyE_take 6 (v := ?_) rfl (by kernel_rfl) (by kernel_rfl) (by kernel_rfl) (by kernel_rfl) (fun _ _ _ h => h) hS (Or.inl ⟨by rfl, ?_⟩) ?_
        rotate_left
        · intro w' hS'
          obtain ⟨e0, e1, _, _, _⟩ := hS'
          go_simp
          try with_reducible rfl
        try simp only [List.getElem_toArray, List.getElem_cons_succ, List.getElem_cons_zero, Act.put, List.setIfInBounds_toArray, List.set_cons_zero, List.set_cons_succ]
        refine anyE_ready [3] (by kernel_rfl) (by simp) (ReadyE.cons rfl (fun K' hK => ?_) ReadyE.nil)
        go_simp
        go_at_call 31
        refine (radd_any w1 rb o s ka (unhide HA1).1.ro (unhide HA1).1.rf (unhide HV).1 ia).mono ?_
        rintro ev wz ⟨rfl, hw⟩
        have HA2 := hide (And.intro ((unhide HA1).1.mark (o || !fitO (s + ka))) ((unhide HA1).2.other ⟨rb, 0, none⟩ (by show rb ≠ w.heap.size; omega) (.bool (o || !fitO (s + ka)))))
        subst hw
        dsimp only
        try go_simp
        refine hK _ _ (fun _ => (unhide HA2).2) ?_
        clear hK K' HA1 hS
        try simp only [List.getElem_toArray, List.getElem_cons_succ, List.getElem_cons_zero, Act.put, List.setIfInBounds_toArray, List.set_cons_zero, List.set_cons_succ]
        generalize w1.setCell ⟨rb, 0, none⟩ (.bool (o || !fitO (s + ka))) = w2 at *
        have hS := (unhide HA2).2
        refine anyE_ready [7] (by kernel_rfl) (by simp) (ReadyE.cons rfl (fun K' hK => ?_) ReadyE.nil)
        go_simp
        go_at_call 31
        refine (radd_any w2 rb (o || !fitO (s + ka)) t ka (unhide HA2).1.ro (unhide HA2).1.rf (unhide HV).2 ia).mono ?_
        rintro ev wz ⟨rfl, hw⟩
        have HA3 := hide (And.intro ((unhide HA2).1.mark ((o || !fitO (s + ka)) || !fitO (t + ka))) ((unhide HA2).2.other ⟨rb, 0, none⟩ (by show rb ≠ w.heap.size; omega) (.bool ((o || !fitO (s + ka)) || !fitO (t + ka)))))
        subst hw
        dsimp only
        try go_simp
        refine hK _ _ (fun _ => (unhide HA3).2) ?_
        clear hK K' HA2 hS
        try simp only [List.getElem_toArray, List.getElem_cons_succ, List.getElem_cons_zero, Act.put, List.setIfInBounds_toArray, List.set_cons_zero, List.set_cons_succ]
        generalize w2.setCell ⟨rb, 0, none⟩ (.bool ((o || !fitO (s + ka)) || !fitO (t + ka))) = w3 at *
        have hS := (unhide HA3).2
        refine anyE_take 8 (v := ?_) rfl (by kernel_rfl) (by kernel_rfl) (by kernel_rfl) (by kernel_rfl) (fun _ _ _ h => h) hS (Or.inl ⟨by rfl, ?_⟩) ?_
        rotate_left
        · intro w' hS'
          obtain ⟨e0, e1, _, _, _⟩ := hS'
          go_simp
          try with_reducible rfl
        try simp only [List.getElem_toArray, List.getElem_cons_succ, List.getElem_cons_zero, Act.put, List.setIfInBounds_toArray, List.set_cons_zero, List.set_cons_succ]
        refine anyE_take 9 (v := ?_) rfl (by kernel_rfl) (by kernel_rfl) (by kernel_rfl) (by kernel_rfl) (fun _ _ _ h => h) hS (Or.inl ⟨by rfl, ?_⟩) ?_
        rotate_left
        · intro w' hS'
          obtain ⟨e0, e1, _, _, _⟩ := hS'
          go_simp
          try with_reducible rfl
        try simp only [List.getElem_toArray, List.getElem_cons_succ, List.getElem_cons_zero, Act.put, List.setIfInBounds_toArray, List.set_cons_zero, List.set_cons_succ]
        refine anyE_done (by kernel_rfl) ?_ _
        clear hS
        generalize hoo : ((o || !fitO (s + ka)) || !fitO (t + ka)) = oo at *
        obtain ⟨⟨hro, hrf, hrl, hrB, hbl⟩, -⟩ := unhide HA3
        have HB := hide hbl
        clear hrl hrB hbl HA3
        cases oo
        · have hp := rngE_some (unhide HBOX) ((unhide HFI).1 rfl).1 ((unhide HFI).1 rfl).2
          have HP := hide hp
          clear hp
          go_wp2_with fail
          rw [(unhide HP).1, (unhide HP).2]
          exact bodyPost_ret (v := .tuple #[.int .i64 (fitV (s + ka)), .int .i64 (fitV (t + ka)), .nilIface]) (by simp [results, Tryd.results21, go_sem]) rfl ⟨.nilIface, rfl, .inl ⟨rfl, rfl⟩, unhide HB⟩
        · have hp := rngE_none (unhide HBOX) ((unhide HFI).2 rfl)
          have HP := hide hp
          clear hp
          go_wp2_with fail
          refine (unhide HF 5 (by decide) _).mono ?_
          rintro e w4 ⟨f, rfl, hs, hB⟩
          have HS := hide (hs.mono (unhide HB).size)
          have HB2 := hide ((unhide HB).trans (hB.mono (unhide HB).size))
          clear hs hB
          go_wp2_with fail
          rw [(unhide HP).1, (unhide HP).2]
          exact bodyPost_ret (v := .tuple #[.int .i64 0, .int .i64 0, f]) (by simp [results, Tryd.results21, go_sem]) rfl ⟨f, rfl, unhide HS, unhide HB2⟩
end Go.Proofs.YtmbhamnkbpcljaaDoor.Line
