/- Contracts of the reference's Add and Scale. -/
import Derived.Test.YtmbhamnkbpcljaaDoorLnRAd
import Derived.Test.YtmbhamnkbpcljaaDoorLnCst
import Derived.Deep.DeepCutAuto
namespace Go.Proofs.YtmbhamnkbpcljaaDoor.Line
open Go.ChangeShapes Go.WideShapes Go.ChangeAt Go.RowKit
set_option linter.unusedVariables false


set_option maxHeartbeats 16000000 in
set_option maxRecDepth 1000000 in
theorem refScaleF_any (w : World) (av : Value) (a : List Int) (ka k : Int) (ha : Ints w av a) (ra : Rng a) (ia : In64 ka) (ib : In64 k) (hn : a.length ≤ 1000) :
    Calls Tryd.prog 15 #[formV av ka, .int .i64 k] w fun e w' => ∃ cv g gn gc, e = .returned (.tuple #[formV cv (mulK a ka k), .agg #[.slice g gn gc, .int .i64 (mulE a ka k)]]) ∧ Ints w' cv (mulC a ka k) ∧ (∀ b o m c, cv = .slice (some ⟨b, o, none⟩) m c → w.heap.size ≤ b) ∧ Told w.heap.size w' (.agg #[.slice g gn gc, .int .i64 (mulE a ka k)]) wForm 0 (mulE a ka k) ∧ Below w.heap.size w w' := by
  have HF1 := hide unlike_any
  have HF5 := hide over_any
  obtain ⟨aa, ac, rfl⟩ := ha.shape
  have HST : Hid (RA w (((w.alloc (.cells #[.slice aa a.length ac, .int .i64 ka] RfT)).alloc (.cells #[.slice none 0 0, .int .i64 0] RfT)).alloc (.cells #[.slice none 0 0, .int .i64 0] WrT)) w.heap.size (w.heap.size + 1) (w.heap.size + 2) (.slice aa a.length ac) (.slice aa a.length ac) ka ka) := hide (by
    have b0 := alloc_below w (.cells #[.slice aa a.length ac, .int .i64 ka] RfT)
    have b1 := alloc_below (w.alloc (.cells #[.slice aa a.length ac, .int .i64 ka] RfT)) (.cells #[.slice none 0 0, .int .i64 0] RfT)
    have b2 := alloc_below ((w.alloc (.cells #[.slice aa a.length ac, .int .i64 ka] RfT)).alloc (.cells #[.slice none 0 0, .int .i64 0] RfT)) (.cells #[.slice none 0 0, .int .i64 0] WrT)
    have x0 := ((Bx.new w (.slice aa a.length ac) (.int .i64 ka) RfT).keep b1).keep b2
    have x4 := (Bx.new (w.alloc (.cells #[.slice aa a.length ac, .int .i64 ka] RfT)) (.slice none 0 0) (.int .i64 0) RfT).keep b2
    have x5 := Bx.new ((w.alloc (.cells #[.slice aa a.length ac, .int .i64 ka] RfT)).alloc (.cells #[.slice none 0 0, .int .i64 0] RfT)) (.slice none 0 0) (.int .i64 0) WrT
    simp only [size_ac] at x4 x5
    exact ⟨bthen (bthen b0 b1) b2, x0, x0, x4, x5⟩)
  have HO := hide ha
  have HR := hide ra
  clear ha ra
  by_cases hlen : True
  · have HLN := hide hlen
    generalize hna : a.length = n at *
    have HLS := hide (And.intro hna hna)
    clear hna
    have HSL : Hid ((mulL a k).length = n) := hide (by rw [mulL_len]; exact (unhide HLS).1)
    have HCN := hide (fun W => constR_any (n : Int) 0 W (by omega) (by omega))
    rw [Int.toNat_natCast] at HCN
    go_enter Tryd.func15, Tryd.ntmps15
    go_upto_region 1 with fail
    generalize ((w.alloc (.cells #[.slice aa n ac, .int .i64 ka] RfT)).alloc (.cells #[.slice none 0 0, .int .i64 0] RfT)).alloc (.cells #[.slice none 0 0, .int .i64 0] WrT) = W0 at *
    generalize hr5 : w.heap.size + 2 = r5 at *
    generalize hr4 : w.heap.size + 1 = r4 at *
    obtain ⟨e0, e1, e2, e3, e4⟩ := (unhide HST).ba
    go_upto_region 2 with (go_at_call 24; refine (unhide HCN W0).mono ?_; rintro ev w1 ⟨q, rfl, hwr, hq, hb1⟩)
    have hal := alloc_below w1 (.cells #[.slice (some ⟨q, 0, none⟩) n n, .int .i64 0] RfT)
    have HRA := hide ((unhide HST).keep (bthen hb1 hal))
    have HFB := hide (Bx.new w1 (.slice (some ⟨q, 0, none⟩) n n) (.int .i64 0) RfT)
    have HWR := hide (hwr.keep hal)
    have hq2 : q < w1.heap.size := hwr.lt
    have hz4 := (unhide HST).b4.lt
    have hz5 := (unhide HST).b5.lt
    have hza := (unhide HST).ba.lt
    have hzb := hza
    have hs1 := hb1.size
    clear e0 e1 e2 e3 e4 hwr hb1 hal HCN HST
    generalize w1.alloc (.cells #[.slice (some ⟨q, 0, none⟩) n n, .int .i64 0] RfT) = W1 at *
    generalize w1.heap.size = fb at *
    go_wp2_with fail
    go_loopw [7] (fun x wr => ∃ (i : Nat) (l : List Int), x = .int .i64 i ∧ i ≤ n ∧ Hid (l.length = n) ∧ Hid (RA w wr w.heap.size r4 r5 (.slice aa n ac) (.slice aa n ac) ka ka ∧ Bx wr fb (.slice (some ⟨q, 0, none⟩) n n) (.int .i64 0) ∧ Wr wr q l) ∧ Hid (l.take i = (mulL a k).take i ∧ allF ((mulL a k).take i) = true)) (fun x _ => n - (intOf x).toNat)
    case atStart => exact ⟨0, _, rfl, Nat.zero_le _, hide List.length_replicate, hide ⟨unhide HRA, unhide HFB, unhide HWR⟩, hide ⟨by simp, by simp [allF]⟩⟩
    case round =>
      obtain ⟨i, l, rfl, hi, HL, HA, HI⟩ := hrel
      clear HRA HFB HWR
      by_cases hlt : i < n
      · have hlt' : (i : Int) < (n : Int) := by omega
        have hn9 : n ≤ 9223372036854775807 := by omega
        have hi9 : i < 9223372036854775807 := by omega
        have hbl := (unhide HA).1.bl
        have ja : i < a.length := by rw [(unhide HLS).1]; exact hlt
        have ha2 : Ints wr (.slice aa n ac) a := (unhide HO).below hbl
        have hx64 := (unhide HR).at ja
        have hq' : (mulL a k)[i]'(by rw [unhide HSL]; exact hlt) = a[i]'ja * k := mulL_at a k i ja
        have hstep := allF_take (l := (mulL a k)) i (by rw [unhide HSL]; exact hlt)
        have hbadl := allF_false (l := (mulL a k)) i (by rw [unhide HSL]; exact hlt)
        have htk : (mulL a k).take (i + 1) = (mulL a k).take i ++ [(mulL a k)[i]'(by rw [unhide HSL]; exact hlt)] := List.take_succ_eq_append_getElem (by rw [unhide HSL]; exact hlt)
        rw [hq'] at hstep hbadl htk
        obtain ⟨lb, lo, lcap, hv, _, _, hcl⟩ := ha2.at (by omega)
        injection hv with hv1 hv2 hv3
        subst hv1
        have cl := hcl i ja
        clear hcl hv2 hv3 ha2 hq'
        generalize a[i]'ja = x at *
        have HX := hide (And.intro hx64 ib)
        have HSTP := hide (And.intro hstep (And.intro hbadl htk))
        clear hx64 hstep hbadl htk ja
        have hd : Below wr.heap.size wr wr.drew := below_drewN (Below.refl _ _) 1
        obtain ⟨h0, h1, h2, h3, h4⟩ := (unhide HA).1.ba
        have HA2 : Hid (RA w wr w.heap.size r4 r5 (.slice (some ⟨lb, lo, none⟩) n ac) (.slice (some ⟨lb, lo, none⟩) n ac) ka ka ∧ Bx wr fb (.slice (some ⟨q, 0, none⟩) n n) (.int .i64 0) ∧ Wr wr q l) := HA
        have HMU := hide (refMul_any x k wr (unhide HX).1.1 (unhide HX).1.2 (unhide HX).2.1 (unhide HX).2.2)
        go_wp2_with fail
        refine (unhide HMU).mono ?_
        rintro ev w5 ⟨rfl, hw⟩
        have hw := hw.symm
        subst hw
        clear h0 h1 h2 h3 h4 cl hd hbl HA HMU
        generalize wr = wd at *
        cases ho : fitO (x * k)
        · have HBAD := hide (show (allF (mulL a k) && fitO (ka * k)) = false by rw [(unhide HSTP).2.1 ho, Bool.false_and])
          have HS5 := hide (unhide HF5 wd)
          have HR2 := hide (unhide HA2).1
          clear ho HSTP HA2
          go_wp2_with fail
          refine (unhide HS5).mono ?_
          rintro e w6 ⟨b6, rfl, ht, hb⟩
          have HR6 := hide ((unhide HR2).keep hb)
          have hE := mulE_bad (a := a) (unhide HBAD)
          have HE := hide hE
          clear hE
          have HT := hide (((((ht.setCell ⟨r4, 0, none⟩ (unhide HR2).b4.lt (.slice none 0 0)).setCell ⟨r4, 1, none⟩ (unhide HR2).b4.lt (.int .i64 0)).setCell ⟨r5, 0, none⟩ (unhide HR2).b5.lt (.slice (some ⟨b6, 0, none⟩) 1 1)).setCell ⟨r5, 1, none⟩ (unhide HR2).b5.lt (.int .i64 5)).mono (unhide HR2).bl.size)
          have HB6 := hide (((((unhide HR6).bl.setCell (p := ⟨r4, 0, none⟩) (by show w.heap.size ≤ r4; omega) (.slice none 0 0)).setCell (p := ⟨r4, 1, none⟩) (by show w.heap.size ≤ r4; omega) (.int .i64 0)).setCell (p := ⟨r5, 0, none⟩) (by show w.heap.size ≤ r5; omega) (.slice (some ⟨b6, 0, none⟩) 1 1)).setCell (p := ⟨r5, 1, none⟩) (by show w.heap.size ≤ r5; omega) (.int .i64 5))
          have HF4 := (((((unhide HR6).b4.set0 (.slice none 0 0)).set1 (.int .i64 0)).other ⟨r5, 0, none⟩ (by show r5 ≠ r4; omega) (.slice (some ⟨b6, 0, none⟩) 1 1)).other ⟨r5, 1, none⟩ (by show r5 ≠ r4; omega) (.int .i64 5))
          have HF5 := (((((unhide HR6).b5.other ⟨r4, 0, none⟩ (by show r4 ≠ r5; omega) (.slice none 0 0)).other ⟨r4, 1, none⟩ (by show r4 ≠ r5; omega) (.int .i64 0)).set0 (.slice (some ⟨b6, 0, none⟩) 1 1)).set1 (.int .i64 5))
          clear hb ht
          obtain ⟨z0, z1, z2, z3, z4⟩ := (unhide HR6).b4
          obtain ⟨y0, y1, y2, y3, y4⟩ := (unhide HR6).b5
          have hne45 : r4 ≠ r5 := by omega
          go_wp2_with fail
          rw [(unhide HE).1, (unhide HE).2.1, (unhide HE).2.2]
          exact bodyPost_ret (v := .tuple #[formV (.slice none 0 0) 0, .agg #[.slice (some ⟨b6, 0, none⟩) 1 1, .int .i64 5]]) (by simp [results, Tryd.results15, go_sem, HF4.c0, HF4.c1, HF5.c0, HF5.c1]) rfl ⟨.slice none 0 0, some ⟨b6, 0, none⟩, 1, 1, rfl, Ints.nil _, (fun b o m c h => by cases h), unhide HT, unhide HB6⟩
        · have hfv := fitV_eq ho
          rw [hfv]
          have HN : Hid (allF ((mulL a k).take (i + 1)) = true ∧ (mulL a k).take (i + 1) = (mulL a k).take i ++ [x * k]) := hide ⟨by rw [(unhide HSTP).1, ho, (unhide HI).2]; rfl, (unhide HSTP).2.2⟩
          clear ho hfv HSTP
          generalize x * k = z at *
          obtain ⟨f0, f1, f2, f3, f4⟩ := (unhide HA2).2.1
          have cq := (unhide HA2).2.2.at i (by rw [unhide HL]; omega)
          have fq := (unhide HA2).2.2.free i
          have HA3 : Hid (RA w (wd.setCell ⟨q, i, none⟩ (.int .i64 z)) w.heap.size r4 r5 (.slice (some ⟨lb, lo, none⟩) n ac) (.slice (some ⟨lb, lo, none⟩) n ac) ka ka ∧ Bx (wd.setCell ⟨q, i, none⟩ (.int .i64 z)) fb (.slice (some ⟨q, 0, none⟩) n n) (.int .i64 0) ∧ Wr (wd.setCell ⟨q, i, none⟩ (.int .i64 z)) q (l.set i z)) := hide ⟨(unhide HA2).1.set ⟨q, i, none⟩ (by show q ≠ w.heap.size; omega) (by show q ≠ w.heap.size; omega) (by show q ≠ r4; omega) (by show q ≠ r5; omega) (by show w.heap.size ≤ q; omega) _, (unhide HA2).2.1.other ⟨q, i, none⟩ (by show q ≠ fb; omega) _, (unhide HA2).2.2.set i (by rw [unhide HL]; omega) z⟩
          have HL3 : Hid ((l.set i z).length = n) := hide (by rw [List.length_set]; exact unhide HL)
          have HI3 : Hid ((l.set i z).take (i + 1) = (mulL a k).take (i + 1) ∧ allF ((mulL a k).take (i + 1)) = true) := hide ⟨by rw [List.take_succ_eq_append_getElem (by rw [unhide HL3]; exact hlt), List.getElem_set_self, List.take_set_of_le (Nat.le_refl _), (unhide HI).1, (unhide HN).2], (unhide HN).1⟩
          go_wp2_with fail
          go_roundw
          case rel => exact ⟨i + 1, _, by go_num, by omega, HL3, HA3, HI3⟩
          case measure => simp [intOf]; omega
      · have hin : i = n := by omega
        subst hin
        have hlt' : ¬ (i : Int) < (i : Int) := by omega
        have hS : (mulL a k).take i = (mulL a k) := List.take_of_length_le (by rw [unhide HSL]; exact Nat.le_refl _)
        have hl : l = (mulL a k) := by
          have h1 := (unhide HI).1
          rw [hS, List.take_of_length_le (by rw [unhide HL]; exact Nat.le_refl _)] at h1
          exact h1
        have HALL := hide (by have h2 := (unhide HI).2; rw [hS] at h2; exact h2)
        have HLL := hide hl
        clear hS hl HI
        obtain ⟨h0, h1, h2, h3, h4⟩ := (unhide HA).1.ba
        skip
        have HP := hide (refMul_any ka k wr ia.1 ia.2 ib.1 ib.2)
        go_upto_region 10 with (go_at_call 36; refine (unhide HP).mono ?_; rintro ev w5 ⟨rfl, hw⟩; have hw := hw.symm; subst hw)
        clear h0 h1 h2 h3 h4 HP 
        cases ho : fitO (ka * k)
        · have HBAD := hide (show (allF (mulL a k) && fitO (ka * k)) = false by rw [ho, Bool.and_false])
          have HS5 := hide (unhide HF5 wr)
          have HR2 := hide (unhide HA).1
          clear ho HA HALL HLL
          go_wp2_with fail
          refine (unhide HS5).mono ?_
          rintro e w6 ⟨b6, rfl, ht, hb⟩
          have HR6 := hide ((unhide HR2).keep hb)
          have hE := mulE_bad (a := a) (unhide HBAD)
          have HE := hide hE
          clear hE
          have HT := hide (((((ht.setCell ⟨r4, 0, none⟩ (unhide HR2).b4.lt (.slice none 0 0)).setCell ⟨r4, 1, none⟩ (unhide HR2).b4.lt (.int .i64 0)).setCell ⟨r5, 0, none⟩ (unhide HR2).b5.lt (.slice (some ⟨b6, 0, none⟩) 1 1)).setCell ⟨r5, 1, none⟩ (unhide HR2).b5.lt (.int .i64 5)).mono (unhide HR2).bl.size)
          have HB6 := hide (((((unhide HR6).bl.setCell (p := ⟨r4, 0, none⟩) (by show w.heap.size ≤ r4; omega) (.slice none 0 0)).setCell (p := ⟨r4, 1, none⟩) (by show w.heap.size ≤ r4; omega) (.int .i64 0)).setCell (p := ⟨r5, 0, none⟩) (by show w.heap.size ≤ r5; omega) (.slice (some ⟨b6, 0, none⟩) 1 1)).setCell (p := ⟨r5, 1, none⟩) (by show w.heap.size ≤ r5; omega) (.int .i64 5))
          have HF4 := (((((unhide HR6).b4.set0 (.slice none 0 0)).set1 (.int .i64 0)).other ⟨r5, 0, none⟩ (by show r5 ≠ r4; omega) (.slice (some ⟨b6, 0, none⟩) 1 1)).other ⟨r5, 1, none⟩ (by show r5 ≠ r4; omega) (.int .i64 5))
          have HF5 := (((((unhide HR6).b5.other ⟨r4, 0, none⟩ (by show r4 ≠ r5; omega) (.slice none 0 0)).other ⟨r4, 1, none⟩ (by show r4 ≠ r5; omega) (.int .i64 0)).set0 (.slice (some ⟨b6, 0, none⟩) 1 1)).set1 (.int .i64 5))
          clear hb ht
          obtain ⟨z0, z1, z2, z3, z4⟩ := (unhide HR6).b4
          obtain ⟨y0, y1, y2, y3, y4⟩ := (unhide HR6).b5
          have hne45 : r4 ≠ r5 := by omega
          go_wp2_with fail
          rw [(unhide HE).1, (unhide HE).2.1, (unhide HE).2.2]
          exact bodyPost_ret (v := .tuple #[formV (.slice none 0 0) 0, .agg #[.slice (some ⟨b6, 0, none⟩) 1 1, .int .i64 5]]) (by simp [results, Tryd.results15, go_sem, HF4.c0, HF4.c1, HF5.c0, HF5.c1]) rfl ⟨.slice none 0 0, some ⟨b6, 0, none⟩, 1, 1, rfl, Ints.nil _, (fun b o m c h => by cases h), unhide HT, unhide HB6⟩
        · have hE := mulE_ok (a := a) (unhide HALL) ho
          have hfv := fitV_eq ho
          have HE := hide hE
          rw [hfv]
          clear ho hfv hE
          generalize hkk : ka * k = kk at *
          have HKK := hide hkk
          clear hkk
          have HW3 := hide (((((((unhide HA).2.2.other ⟨fb, 1, none⟩ (by show fb ≠ q; omega) (.int .i64 kk)).other ⟨r4, 0, none⟩ (by show r4 ≠ q; omega) (.slice (some ⟨q, 0, none⟩) i i)).other ⟨r4, 1, none⟩ (by show r4 ≠ q; omega) (.int .i64 kk)).other ⟨r5, 0, none⟩ (by show r5 ≠ q; omega) (.slice none 0 0)).other ⟨r5, 1, none⟩ (by show r5 ≠ q; omega) (.int .i64 0)).ints)
          have HB6 := hide ((((((unhide HA).1.bl.setCell (p := ⟨fb, 1, none⟩) (by show w.heap.size ≤ fb; omega) (.int .i64 kk)).setCell (p := ⟨r4, 0, none⟩) (by show w.heap.size ≤ r4; omega) (.slice (some ⟨q, 0, none⟩) i i)).setCell (p := ⟨r4, 1, none⟩) (by show w.heap.size ≤ r4; omega) (.int .i64 kk)).setCell (p := ⟨r5, 0, none⟩) (by show w.heap.size ≤ r5; omega) (.slice none 0 0)).setCell (p := ⟨r5, 1, none⟩) (by show w.heap.size ≤ r5; omega) (.int .i64 0))
          have HF4 := ((((((unhide HA).1.b4.other ⟨fb, 1, none⟩ (by show fb ≠ r4; omega) (.int .i64 kk)).set0 (.slice (some ⟨q, 0, none⟩) i i)).set1 (.int .i64 kk)).other ⟨r5, 0, none⟩ (by show r5 ≠ r4; omega) (.slice none 0 0)).other ⟨r5, 1, none⟩ (by show r5 ≠ r4; omega) (.int .i64 0))
          have HF5' := ((((((unhide HA).1.b5.other ⟨fb, 1, none⟩ (by show fb ≠ r5; omega) (.int .i64 kk)).other ⟨r4, 0, none⟩ (by show r4 ≠ r5; omega) (.slice (some ⟨q, 0, none⟩) i i)).other ⟨r4, 1, none⟩ (by show r4 ≠ r5; omega) (.int .i64 kk)).set0 (.slice none 0 0)).set1 (.int .i64 0))
          obtain ⟨f0, f1, f2, f3, f4⟩ := (unhide HA).2.1
          obtain ⟨z0, z1, z2, z3, z4⟩ := (unhide HA).1.b4
          obtain ⟨y0, y1, y2, y3, y4⟩ := (unhide HA).1.b5
          have hne45 : r4 ≠ r5 := by omega
          have hne4 : fb ≠ r4 := by omega
          have hne5 : fb ≠ r5 := by omega
          rw [unhide HL] at HW3
          go_wp2_with fail
          rw [(unhide HE).1, (unhide HE).2.1, (unhide HE).2.2]
          exact bodyPost_ret (v := .tuple #[formV (.slice (some ⟨q, 0, none⟩) i i) kk, .agg #[.slice none 0 0, .int .i64 0]]) (by simp [results, Tryd.results15, go_sem, HF4.c0, HF4.c1, HF5'.c0, HF5'.c1]) rfl ⟨.slice (some ⟨q, 0, none⟩) i i, none, 0, 0, by first | rfl | rw [unhide HKK], by rw [← unhide HLL]; exact unhide HW3, (fun b o m c h => by injection h with h; injection h with h; injection h with h; omega), .inl ⟨rfl, rfl⟩, unhide HB6⟩
  · exact absurd trivial hlen
end Go.Proofs.YtmbhamnkbpcljaaDoor.Line
