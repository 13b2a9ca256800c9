/- FormText, walked. -/
import Derived.Test.YtmbhamnkbpcljaaDoorLnKn
import Derived.Test.YtmbhamnkbpcljaaDoorLnOk
import Derived.Test.YtmbhamnkbpcljaaDoorLnRTt
namespace Go.Proofs.YtmbhamnkbpcljaaDoor.Line
open Go.ChangeShapes Go.WideShapes Go.ChangeAt Go.RowKit
set_option linter.unusedVariables false

set_option maxHeartbeats 32000000 in
set_option maxRecDepth 1000000 in
theorem formText_walk (w : World) (av nv : Value) (a : List Int) (ka p i : Int) (names : List (List UInt8)) (hG : Glob w) (hT : Tab w) (ha : Ints w av a) (hr : Row w nv names) (ra : Rng a) (ia : In64 ka) (hNB : ∀ x ∈ names, x.length ≤ 1048576) (ip : In64 p) (ii : In64 i) :
    Calls Tryd.prog 5 #[formV av ka, nv, .int .i64 p, .int .i64 i] w fun e w' => e = .returned (.bool true) ∧ Below w.heap.size w w' := by
  have HO := hide (And.intro ha (And.intro hr hT))
  have HR := hide (And.intro ra (And.intro ia (And.intro hNB (And.intro ip ii))))
  obtain ⟨aa, ac, rfl⟩ := ha.shape
  obtain ⟨na, nc, rfl⟩ : ∃ x z, nv = .slice x names.length z := by
    rcases hr with ⟨x, y, rfl, e⟩ | ⟨x, y, z, rfl, _⟩
    · exact ⟨_, _, by rw [e]; rfl⟩
    · exact ⟨_, _, rfl⟩
  have hbx := Bx.new w (.slice aa a.length ac) (.int .i64 ka) FmT
  have hb0 := alloc_below w (.cells #[.slice aa a.length ac, .int .i64 ka] FmT)
  have HKN := hide (known_any (w.alloc (.cells #[.slice aa a.length ac, .int .i64 ka] FmT)) (hG.below hb0) (hT.below hb0))
  have HK0 := hide (And.intro hb0 hbx)
  have hla : a.length ≤ 9223372036854775807 := by obtain ⟨_, c, _, h2, h3, _⟩ := ha; unfold maxLen at h3; omega
  clear ha hr ra ia hNB ip ii hbx hb0 hG hT
  generalize hna : a.length = n at *
  generalize hnm : names.length = m at *
  have HLS := hide (And.intro hna hnm)
  clear hna hnm
  have HFW := hide (fun W => few_any W aa n ac ka)
  go_enter Tryd.func5, Tryd.ntmps5
  go_wp2_with fail
  refine (unhide HKN).mono ?_
  rintro ev w1 ⟨rfl, hb1⟩
  have HK1 := hide (And.intro (bthen (unhide HK0).1 hb1) ((unhide HK0).2.keep hb1))
  clear hb1 HK0 HKN
  obtain ⟨c0, c1, c2, c3, c4⟩ := (unhide HK1).2
  go_wp2_with fail
  refine (unhide HFW w1).mono ?_
  rintro ev w2 ⟨rfl, hb2⟩
  have HK2 := hide (And.intro (bthen (unhide HK1).1 hb2) ((unhide HK1).2.keep hb2))
  clear hb2 c0 c1 c2 c3 c4 HK1 HFW
  by_cases h1 : n ≤ 20
  · have d1 : decide ((n : Int) ≤ 20) = true := decide_eq_true (by omega)
    rw [d1]
    by_cases h2 : m ≤ 20
    · have d2 : ¬ (20 : Int) < (m : Int) := by omega
      by_cases h3 : p ≤ 50
      · have d3 : ¬ (50 : Int) < p := by omega
        have HX := hide (fun W (hW : Below w.heap.size w W) => linText_any W (.slice aa n ac) (.slice na m nc) a ka names 1048576 ((unhide HO).1.below hW) ((unhide HO).2.1.below hW) (unhide HR).1 (unhide HR).2.1 (by rw [(unhide HLS).1]; omega) (by rw [(unhide HLS).2]; omega) (unhide HR).2.2.1 (by omega) ((unhide HO).2.2.below hW))
        have HX' := hide (fun W (hW : Below w.heap.size w W) => refTextF_any W (.slice aa n ac) (.slice na m nc) a ka names 1048576 ((unhide HO).1.below hW) ((unhide HO).2.1.below hW) (unhide HR).1 (unhide HR).2.1 (by rw [(unhide HLS).1]; omega) (by rw [(unhide HLS).2]; omega) (unhide HR).2.2.1 (by omega))
        have HC := hide (fun W => const_any p 7 W (unhide HR).2.2.2.1.1 (by omega))
        have HC' := hide (fun W => constR_any p 7 W (unhide HR).2.2.2.1.1 (by omega))
        have HI := hide (fun W => index_any p i W (unhide HR).2.2.2.1.1 (by omega) (unhide HR).2.2.2.2.1 (unhide HR).2.2.2.2.2)
        have HI' := hide (fun W => indexR_any p i W (unhide HR).2.2.2.1.1 (by omega) (unhide HR).2.2.2.2.1 (unhide HR).2.2.2.2.2)
        have HP9 : Hid (p.toNat ≤ 50) := hide (by omega)
        have HL0 : Hid ((List.replicate p.toNat (0 : Int)).length = p.toNat) := hide List.length_replicate
        have HL1 : Hid ((idxL p.toNat i).length = p.toNat) := hide (idxL_len _ _)
        generalize List.replicate p.toNat (0 : Int) = L0 at *
        generalize idxL p.toNat i = L1 at *
        generalize p.toNat = q at *
        generalize textF a ka names = tx at *
        clear HO HR HLS
        have HA := hide (And.intro (unhide HK2).1 (unhide HK2).2)
        clear HK2
        go_wp2_with fail
        refine (unhide HC w2).mono ?_
        rintro ev v1 ⟨q1, rfl, hq, hge, hb⟩
        go_upto_region 6 with fail
        have hal := alloc_below v1 (.cells #[.slice (some ⟨q1, 0, none⟩) q q, .int .i64 7] FmT)
        have hbb := bthen hb hal
        have hin := hq.ints
        rw [unhide HL0] at hin
        have Nb9 := hide (FB.new (K := 7) hin FmT)
        have NA := hide (And.intro (bthen (unhide HA).1 hbb) ((unhide HA).2.keep hbb))
        clear hal hbb hin hq hge hb HA HC 
        generalize v1.alloc (.cells #[.slice (some ⟨q1, 0, none⟩) q q, .int .i64 7] FmT) = W1 at *
        generalize v1.heap.size = b9 at *
        have Hb9 := Nb9
        have HA := NA
        clear Nb9 NA
        go_wp2_with fail
        refine (unhide HC' W1).mono ?_
        rintro ev v2 ⟨q2, rfl, hq, hge, hb⟩
        go_upto_region 7 with fail
        have hal := alloc_below v2 (.cells #[.slice (some ⟨q2, 0, none⟩) q q, .int .i64 7] RfT)
        have hbb := bthen hb hal
        have hin := hq.ints
        rw [unhide HL0] at hin
        have Nb10 := hide (FB.new (K := 7) hin RfT)
        have NA := hide (And.intro (bthen (unhide HA).1 hbb) ((unhide HA).2.keep hbb))
        have Nb9 := hide ((unhide Hb9).keep hbb)
        clear hal hbb hin hq hge hb HA HC' Hb9
        generalize v2.alloc (.cells #[.slice (some ⟨q2, 0, none⟩) q q, .int .i64 7] RfT) = W2 at *
        generalize v2.heap.size = b10 at *
        have Hb9 := Nb9
        have Hb10 := Nb10
        have HA := NA
        clear Nb9 Nb10 NA
        go_wp2_with fail
        refine (unhide HI W2).mono ?_
        rintro ev v3 ⟨q3, rfl, hq, hge, hb⟩
        go_upto_region 8 with fail
        have hal := alloc_below v3 (.cells #[.slice (some ⟨q3, 0, none⟩) q q, .int .i64 0] FmT)
        have hbb := bthen hb hal
        have hin := hq.ints
        rw [unhide HL1] at hin
        have Nb11 := hide (FB.new (K := 0) hin FmT)
        have NA := hide (And.intro (bthen (unhide HA).1 hbb) ((unhide HA).2.keep hbb))
        have Nb9 := hide ((unhide Hb9).keep hbb)
        have Nb10 := hide ((unhide Hb10).keep hbb)
        clear hal hbb hin hq hge hb HA HI Hb9 Hb10
        generalize v3.alloc (.cells #[.slice (some ⟨q3, 0, none⟩) q q, .int .i64 0] FmT) = W3 at *
        generalize v3.heap.size = b11 at *
        have Hb9 := Nb9
        have Hb10 := Nb10
        have Hb11 := Nb11
        have HA := NA
        clear Nb9 Nb10 Nb11 NA
        go_wp2_with fail
        refine (unhide HI' W3).mono ?_
        rintro ev v4 ⟨q4, rfl, hq, hge, hb⟩
        go_upto_region 9 with fail
        have hal := alloc_below v4 (.cells #[.slice (some ⟨q4, 0, none⟩) q q, .int .i64 0] RfT)
        have hbb := bthen hb hal
        have hin := hq.ints
        rw [unhide HL1] at hin
        have Nb12 := hide (FB.new (K := 0) hin RfT)
        have NA := hide (And.intro (bthen (unhide HA).1 hbb) ((unhide HA).2.keep hbb))
        have Nb9 := hide ((unhide Hb9).keep hbb)
        have Nb10 := hide ((unhide Hb10).keep hbb)
        have Nb11 := hide ((unhide Hb11).keep hbb)
        clear hal hbb hin hq hge hb HA HI' Hb9 Hb10 Hb11
        generalize v4.alloc (.cells #[.slice (some ⟨q4, 0, none⟩) q q, .int .i64 0] RfT) = W4 at *
        generalize v4.heap.size = b12 at *
        have Hb9 := Nb9
        have Hb10 := Nb10
        have Hb11 := Nb11
        have Hb12 := Nb12
        have HA := NA
        clear Nb9 Nb10 Nb11 Nb12 NA
        have hd : Below W4.heap.size W4 W4.drew := below_drewN (Below.refl _ _) 1
        have NA := hide (And.intro (bthen (unhide HA).1 hd) ((unhide HA).2.keep hd))
        have Nb9 := hide ((unhide Hb9).keep hd)
        have Nb10 := hide ((unhide Hb10).keep hd)
        have Nb11 := hide ((unhide Hb11).keep hd)
        have Nb12 := hide ((unhide Hb12).keep hd)
        clear HA Hb9 Hb10 Hb11 Hb12 hd
        have Hb9 := Nb9
        have Hb10 := Nb10
        have Hb11 := Nb11
        have Hb12 := Nb12
        have HA := NA
        clear Nb9 Nb10 Nb11 Nb12 NA
        refine wp_regionE (fun W => Below W4.drew.heap.size W4.drew W) (fun j => decide (j < 38)) (by kernel_rfl) (Below.refl _ _) (fun hS => ?_)
        generalize W4.drew = wd at *
        refine anyE_take 0 (v := ?_) rfl (by kernel_rfl) (by kernel_rfl) (by kernel_rfl) (by kernel_rfl) (fun _ _ _ h => h) hS (Or.inl ⟨by rfl, ?_⟩) ?_
        rotate_left
        · intro w' hS'
          obtain ⟨e0, e1, _, _, _⟩ := (unhide HA).2.keep hS'
          go_simp
          try with_reducible rfl
        try simp only [List.getElem_toArray, List.getElem_cons_zero, Act.put, List.setIfInBounds_toArray, List.set_cons_zero, List.set_cons_succ]
        refine anyE_take 1 (v := ?_) rfl (by kernel_rfl) (by kernel_rfl) (by kernel_rfl) (by kernel_rfl) (fun _ _ _ h => h) hS (Or.inl ⟨by rfl, ?_⟩) ?_
        rotate_left
        · intro w' hS'
          go_simp
          try with_reducible rfl
        try simp only [List.getElem_toArray, List.getElem_cons_succ, List.getElem_cons_zero, Act.put, List.setIfInBounds_toArray, List.set_cons_zero, List.set_cons_succ]
        refine anyE_take 3 (v := ?_) rfl (by kernel_rfl) (by kernel_rfl) (by kernel_rfl) (by kernel_rfl) (fun _ _ _ h => h) hS (Or.inl ⟨by rfl, ?_⟩) ?_
        rotate_left
        · intro w' hS'
          obtain ⟨e0, e1, _, _, _⟩ := (unhide HA).2.keep hS'
          go_simp
          try with_reducible rfl
        try simp only [List.getElem_toArray, List.getElem_cons_succ, List.getElem_cons_zero, Act.put, List.setIfInBounds_toArray, List.set_cons_zero, List.set_cons_succ]
        refine anyE_take 5 (v := ?_) rfl (by kernel_rfl) (by kernel_rfl) (by kernel_rfl) (by kernel_rfl) (fun _ _ _ h => h) hS (Or.inl ⟨by rfl, ?_⟩) ?_
        rotate_left
        · intro w' hS'
          go_simp
          try with_reducible rfl
        try simp only [List.getElem_toArray, List.getElem_cons_succ, List.getElem_cons_zero, Act.put, List.setIfInBounds_toArray, List.set_cons_zero, List.set_cons_succ]
        refine anyE_ready [2] (by kernel_rfl) (by simp) (ReadyE.cons rfl (fun K' hK => ?_) ReadyE.nil)
        go_simp
        go_at_call 27
        refine (unhide HX _ (bthen (unhide HA).1 hS)).mono ?_
        rintro ev x1 ⟨rfl, hb⟩
        dsimp only
        try go_simp
        have hS2 := hS.trans (hb.mono hS.size)
        refine hK _ _ (fun _ => hS2) ?_
        clear hK K' hS hb
        have hS := hS2
        clear hS2
        try simp only [List.getElem_toArray, List.getElem_cons_succ, List.getElem_cons_zero, Act.put, List.setIfInBounds_toArray, List.set_cons_zero, List.set_cons_succ]
        refine anyE_ready [4] (by kernel_rfl) (by simp) (ReadyE.cons rfl (fun K' hK => ?_) ReadyE.nil)
        go_simp
        go_at_call 13
        refine (ofF_any _ _ _ _ _).mono ?_
        rintro ev x2 ⟨rfl, hb⟩
        dsimp only
        try go_simp
        have hS2 := hS.trans (hb.mono hS.size)
        refine hK _ _ (fun _ => hS2) ?_
        clear hK K' hS hb
        have hS := hS2
        clear hS2
        try simp only [List.getElem_toArray, List.getElem_cons_succ, List.getElem_cons_zero, Act.put, List.setIfInBounds_toArray, List.set_cons_zero, List.set_cons_succ]
        refine anyE_ready [6] (by kernel_rfl) (by simp) (ReadyE.cons rfl (fun K' hK => ?_) ReadyE.nil)
        go_simp
        go_at_call 28
        refine (unhide HX' _ (bthen (unhide HA).1 hS)).mono ?_
        rintro ev x3 ⟨rfl, hb⟩
        dsimp only
        try go_simp
        have hS2 := hS.trans (hb.mono hS.size)
        refine hK _ _ (fun _ => hS2) ?_
        clear hK K' hS hb
        have hS := hS2
        clear hS2
        try simp only [List.getElem_toArray, List.getElem_cons_succ, List.getElem_cons_zero, Act.put, List.setIfInBounds_toArray, List.set_cons_zero, List.set_cons_succ]
        refine anyE_take 7 (v := ?_) rfl (by kernel_rfl) (by kernel_rfl) (by kernel_rfl) (by kernel_rfl) (fun _ _ _ h => h) hS (Or.inl ⟨by rfl, ?_⟩) ?_
        rotate_left
        · intro w' hS'
          go_simp
          try with_reducible rfl
        try simp only [List.getElem_toArray, List.getElem_cons_succ, List.getElem_cons_zero, Act.put, List.setIfInBounds_toArray, List.set_cons_zero, List.set_cons_succ]
        refine anyE_take 8 (v := ?_) rfl (by kernel_rfl) (by kernel_rfl) (by kernel_rfl) (by kernel_rfl) (fun _ _ _ h => h) hS (Or.inl ⟨by rfl, ?_⟩) ?_
        rotate_left
        · intro w' hS'
          go_simp
          try with_reducible rfl
        try simp only [List.getElem_toArray, List.getElem_cons_succ, List.getElem_cons_zero, Act.put, List.setIfInBounds_toArray, List.set_cons_zero, List.set_cons_succ]
        refine anyE_take 9 (v := ?_) rfl (by kernel_rfl) (by kernel_rfl) (by kernel_rfl) (by kernel_rfl) (fun _ _ _ h => h) hS (Or.inl ⟨by rfl, ?_⟩) ?_
        rotate_left
        · intro w' hS'
          go_simp
          try with_reducible rfl
        try simp only [List.getElem_toArray, List.getElem_cons_succ, List.getElem_cons_zero, Act.put, List.setIfInBounds_toArray, List.set_cons_zero, List.set_cons_succ]
        refine anyE_take 10 (v := ?_) rfl (by kernel_rfl) (by kernel_rfl) (by kernel_rfl) (by kernel_rfl) (fun _ _ _ h => h) hS (Or.inl ⟨by rfl, ?_⟩) ?_
        rotate_left
        · intro w' hS'
          obtain ⟨e0, e1, _, _, _⟩ := ((unhide Hb9).keep hS').bx
          go_simp
          try with_reducible rfl
        try simp only [List.getElem_toArray, List.getElem_cons_succ, List.getElem_cons_zero, Act.put, List.setIfInBounds_toArray, List.set_cons_zero, List.set_cons_succ]
        refine anyE_take 11 (v := ?_) rfl (by kernel_rfl) (by kernel_rfl) (by kernel_rfl) (by kernel_rfl) (fun _ _ _ h => h) hS (Or.inl ⟨by rfl, ?_⟩) ?_
        rotate_left
        · intro w' hS'
          go_simp
          try with_reducible rfl
        try simp only [List.getElem_toArray, List.getElem_cons_succ, List.getElem_cons_zero, Act.put, List.setIfInBounds_toArray, List.set_cons_zero, List.set_cons_succ]
        refine anyE_take 12 (v := ?_) rfl (by kernel_rfl) (by kernel_rfl) (by kernel_rfl) (by kernel_rfl) (fun _ _ _ h => h) hS (Or.inl ⟨by rfl, ?_⟩) ?_
        rotate_left
        · intro w' hS'
          go_simp
          try with_reducible rfl
        try simp only [List.getElem_toArray, List.getElem_cons_succ, List.getElem_cons_zero, Act.put, List.setIfInBounds_toArray, List.set_cons_zero, List.set_cons_succ]
        refine anyE_take 13 (v := ?_) rfl (by kernel_rfl) (by kernel_rfl) (by kernel_rfl) (by kernel_rfl) (fun _ _ _ h => h) hS (Or.inl ⟨by rfl, ?_⟩) ?_
        rotate_left
        · intro w' hS'
          obtain ⟨e0, e1, _, _, _⟩ := ((unhide Hb10).keep hS').bx
          go_simp
          try with_reducible rfl
        try simp only [List.getElem_toArray, List.getElem_cons_succ, List.getElem_cons_zero, Act.put, List.setIfInBounds_toArray, List.set_cons_zero, List.set_cons_succ]
        refine anyE_take 14 (v := ?_) rfl (by kernel_rfl) (by kernel_rfl) (by kernel_rfl) (by kernel_rfl) (fun _ _ _ h => h) hS (Or.inl ⟨by rfl, ?_⟩) ?_
        rotate_left
        · intro w' hS'
          go_simp
          try with_reducible rfl
        try simp only [List.getElem_toArray, List.getElem_cons_succ, List.getElem_cons_zero, Act.put, List.setIfInBounds_toArray, List.set_cons_zero, List.set_cons_succ]
        refine anyE_take 15 (v := ?_) rfl (by kernel_rfl) (by kernel_rfl) (by kernel_rfl) (by kernel_rfl) (fun _ _ _ h => h) hS (Or.inl ⟨by rfl, ?_⟩) ?_
        rotate_left
        · intro w' hS'
          go_simp
          try with_reducible rfl
        try simp only [List.getElem_toArray, List.getElem_cons_succ, List.getElem_cons_zero, Act.put, List.setIfInBounds_toArray, List.set_cons_zero, List.set_cons_succ]
        refine anyE_take 16 (v := ?_) rfl (by kernel_rfl) (by kernel_rfl) (by kernel_rfl) (by kernel_rfl) (fun _ _ _ h => h) hS (Or.inl ⟨by rfl, ?_⟩) ?_
        rotate_left
        · intro w' hS'
          go_simp
          try with_reducible rfl
        try simp only [List.getElem_toArray, List.getElem_cons_succ, List.getElem_cons_zero, Act.put, List.setIfInBounds_toArray, List.set_cons_zero, List.set_cons_succ]
        refine anyE_take 17 (v := ?_) rfl (by kernel_rfl) (by kernel_rfl) (by kernel_rfl) (by kernel_rfl) (fun _ _ _ h => h) hS (Or.inl ⟨by rfl, ?_⟩) ?_
        rotate_left
        · intro w' hS'
          go_simp
          try with_reducible rfl
        try simp only [List.getElem_toArray, List.getElem_cons_succ, List.getElem_cons_zero, Act.put, List.setIfInBounds_toArray, List.set_cons_zero, List.set_cons_succ]
        refine anyE_take 18 (v := ?_) rfl (by kernel_rfl) (by kernel_rfl) (by kernel_rfl) (by kernel_rfl) (fun _ _ _ h => h) hS (Or.inl ⟨by rfl, ?_⟩) ?_
        rotate_left
        · intro w' hS'
          obtain ⟨e0, e1, _, _, _⟩ := ((unhide Hb9).keep hS').bx
          go_simp
          try with_reducible rfl
        try simp only [List.getElem_toArray, List.getElem_cons_succ, List.getElem_cons_zero, Act.put, List.setIfInBounds_toArray, List.set_cons_zero, List.set_cons_succ]
        refine anyE_take 20 (v := ?_) rfl (by kernel_rfl) (by kernel_rfl) (by kernel_rfl) (by kernel_rfl) (fun _ _ _ h => h) hS (Or.inl ⟨by rfl, ?_⟩) ?_
        rotate_left
        · intro w' hS'
          obtain ⟨e0, e1, _, _, _⟩ := ((unhide Hb10).keep hS').bx
          go_simp
          try with_reducible rfl
        try simp only [List.getElem_toArray, List.getElem_cons_succ, List.getElem_cons_zero, Act.put, List.setIfInBounds_toArray, List.set_cons_zero, List.set_cons_succ]
        refine anyE_ready [19] (by kernel_rfl) (by simp) (ReadyE.cons rfl (fun K' hK => ?_) ReadyE.nil)
        go_simp
        go_at_call 13
        refine (ofF_any _ _ _ _ _).mono ?_
        rintro ev x4 ⟨rfl, hb⟩
        dsimp only
        try go_simp
        have hS2 := hS.trans (hb.mono hS.size)
        refine hK _ _ (fun _ => hS2) ?_
        clear hK K' hS hb
        have hS := hS2
        clear hS2
        try simp only [List.getElem_toArray, List.getElem_cons_succ, List.getElem_cons_zero, Act.put, List.setIfInBounds_toArray, List.set_cons_zero, List.set_cons_succ]
        refine anyE_ready [21] (by kernel_rfl) (by simp) (ReadyE.cons rfl (fun K' hK => ?_) ReadyE.nil)
        go_simp
        go_at_call 17
        refine (sameR_any _ _ _ L0 L0 7 7 (((unhide Hb9).keep hS).ints) (((unhide Hb10).keep hS).ints) (by rw [unhide HL0]; have := unhide HP9; omega) (by rw [unhide HL0]; have := unhide HP9; omega)).mono ?_
        rw [sameP_refl]
        rintro ev x5 ⟨rfl, hb⟩
        dsimp only
        try go_simp
        have hS2 := hS.trans (hb.mono hS.size)
        refine hK _ _ (fun _ => hS2) ?_
        clear hK K' hS hb
        have hS := hS2
        clear hS2
        try simp only [List.getElem_toArray, List.getElem_cons_succ, List.getElem_cons_zero, Act.put, List.setIfInBounds_toArray, List.set_cons_zero, List.set_cons_succ]
        refine anyE_take 22 (v := ?_) rfl (by kernel_rfl) (by kernel_rfl) (by kernel_rfl) (by kernel_rfl) (fun _ _ _ h => h) hS (Or.inl ⟨by rfl, ?_⟩) ?_
        rotate_left
        · intro w' hS'
          go_simp
          try with_reducible rfl
        try simp only [List.getElem_toArray, List.getElem_cons_succ, List.getElem_cons_zero, Act.put, List.setIfInBounds_toArray, List.set_cons_zero, List.set_cons_succ]
        refine anyE_take 23 (v := ?_) rfl (by kernel_rfl) (by kernel_rfl) (by kernel_rfl) (by kernel_rfl) (fun _ _ _ h => h) hS (Or.inl ⟨by rfl, ?_⟩) ?_
        rotate_left
        · intro w' hS'
          go_simp
          try with_reducible rfl
        try simp only [List.getElem_toArray, List.getElem_cons_succ, List.getElem_cons_zero, Act.put, List.setIfInBounds_toArray, List.set_cons_zero, List.set_cons_succ]
        refine anyE_take 24 (v := ?_) rfl (by kernel_rfl) (by kernel_rfl) (by kernel_rfl) (by kernel_rfl) (fun _ _ _ h => h) hS (Or.inl ⟨by rfl, ?_⟩) ?_
        rotate_left
        · intro w' hS'
          go_simp
          try with_reducible rfl
        try simp only [List.getElem_toArray, List.getElem_cons_succ, List.getElem_cons_zero, Act.put, List.setIfInBounds_toArray, List.set_cons_zero, List.set_cons_succ]
        refine anyE_take 25 (v := ?_) rfl (by kernel_rfl) (by kernel_rfl) (by kernel_rfl) (by kernel_rfl) (fun _ _ _ h => h) hS (Or.inl ⟨by rfl, ?_⟩) ?_
        rotate_left
        · intro w' hS'
          obtain ⟨e0, e1, _, _, _⟩ := ((unhide Hb11).keep hS').bx
          go_simp
          try with_reducible rfl
        try simp only [List.getElem_toArray, List.getElem_cons_succ, List.getElem_cons_zero, Act.put, List.setIfInBounds_toArray, List.set_cons_zero, List.set_cons_succ]
        refine anyE_take 26 (v := ?_) rfl (by kernel_rfl) (by kernel_rfl) (by kernel_rfl) (by kernel_rfl) (fun _ _ _ h => h) hS (Or.inl ⟨by rfl, ?_⟩) ?_
        rotate_left
        · intro w' hS'
          go_simp
          try with_reducible rfl
        try simp only [List.getElem_toArray, List.getElem_cons_succ, List.getElem_cons_zero, Act.put, List.setIfInBounds_toArray, List.set_cons_zero, List.set_cons_succ]
        refine anyE_take 27 (v := ?_) rfl (by kernel_rfl) (by kernel_rfl) (by kernel_rfl) (by kernel_rfl) (fun _ _ _ h => h) hS (Or.inl ⟨by rfl, ?_⟩) ?_
        rotate_left
        · intro w' hS'
          go_simp
          try with_reducible rfl
        try simp only [List.getElem_toArray, List.getElem_cons_succ, List.getElem_cons_zero, Act.put, List.setIfInBounds_toArray, List.set_cons_zero, List.set_cons_succ]
        refine anyE_take 28 (v := ?_) rfl (by kernel_rfl) (by kernel_rfl) (by kernel_rfl) (by kernel_rfl) (fun _ _ _ h => h) hS (Or.inl ⟨by rfl, ?_⟩) ?_
        rotate_left
        · intro w' hS'
          obtain ⟨e0, e1, _, _, _⟩ := ((unhide Hb12).keep hS').bx
          go_simp
          try with_reducible rfl
        try simp only [List.getElem_toArray, List.getElem_cons_succ, List.getElem_cons_zero, Act.put, List.setIfInBounds_toArray, List.set_cons_zero, List.set_cons_succ]
        refine anyE_take 29 (v := ?_) rfl (by kernel_rfl) (by kernel_rfl) (by kernel_rfl) (by kernel_rfl) (fun _ _ _ h => h) hS (Or.inl ⟨by rfl, ?_⟩) ?_
        rotate_left
        · intro w' hS'
          go_simp
          try with_reducible rfl
        try simp only [List.getElem_toArray, List.getElem_cons_succ, List.getElem_cons_zero, Act.put, List.setIfInBounds_toArray, List.set_cons_zero, List.set_cons_succ]
        refine anyE_take 30 (v := ?_) rfl (by kernel_rfl) (by kernel_rfl) (by kernel_rfl) (by kernel_rfl) (fun _ _ _ h => h) hS (Or.inl ⟨by rfl, ?_⟩) ?_
        rotate_left
        · intro w' hS'
          go_simp
          try with_reducible rfl
        try simp only [List.getElem_toArray, List.getElem_cons_succ, List.getElem_cons_zero, Act.put, List.setIfInBounds_toArray, List.set_cons_zero, List.set_cons_succ]
        refine anyE_take 31 (v := ?_) rfl (by kernel_rfl) (by kernel_rfl) (by kernel_rfl) (by kernel_rfl) (fun _ _ _ h => h) hS (Or.inl ⟨by rfl, ?_⟩) ?_
        rotate_left
        · intro w' hS'
          go_simp
          try with_reducible rfl
        try simp only [List.getElem_toArray, List.getElem_cons_succ, List.getElem_cons_zero, Act.put, List.setIfInBounds_toArray, List.set_cons_zero, List.set_cons_succ]
        refine anyE_take 32 (v := ?_) rfl (by kernel_rfl) (by kernel_rfl) (by kernel_rfl) (by kernel_rfl) (fun _ _ _ h => h) hS (Or.inl ⟨by rfl, ?_⟩) ?_
        rotate_left
        · intro w' hS'
          go_simp
          try with_reducible rfl
        try simp only [List.getElem_toArray, List.getElem_cons_succ, List.getElem_cons_zero, Act.put, List.setIfInBounds_toArray, List.set_cons_zero, List.set_cons_succ]
        refine anyE_take 33 (v := ?_) rfl (by kernel_rfl) (by kernel_rfl) (by kernel_rfl) (by kernel_rfl) (fun _ _ _ h => h) hS (Or.inl ⟨by rfl, ?_⟩) ?_
        rotate_left
        · intro w' hS'
          obtain ⟨e0, e1, _, _, _⟩ := ((unhide Hb11).keep hS').bx
          go_simp
          try with_reducible rfl
        try simp only [List.getElem_toArray, List.getElem_cons_succ, List.getElem_cons_zero, Act.put, List.setIfInBounds_toArray, List.set_cons_zero, List.set_cons_succ]
        refine anyE_take 35 (v := ?_) rfl (by kernel_rfl) (by kernel_rfl) (by kernel_rfl) (by kernel_rfl) (fun _ _ _ h => h) hS (Or.inl ⟨by rfl, ?_⟩) ?_
        rotate_left
        · intro w' hS'
          obtain ⟨e0, e1, _, _, _⟩ := ((unhide Hb12).keep hS').bx
          go_simp
          try with_reducible rfl
        try simp only [List.getElem_toArray, List.getElem_cons_succ, List.getElem_cons_zero, Act.put, List.setIfInBounds_toArray, List.set_cons_zero, List.set_cons_succ]
        refine anyE_ready [34] (by kernel_rfl) (by simp) (ReadyE.cons rfl (fun K' hK => ?_) ReadyE.nil)
        go_simp
        go_at_call 13
        refine (ofF_any _ _ _ _ _).mono ?_
        rintro ev x6 ⟨rfl, hb⟩
        dsimp only
        try go_simp
        have hS2 := hS.trans (hb.mono hS.size)
        refine hK _ _ (fun _ => hS2) ?_
        clear hK K' hS hb
        have hS := hS2
        clear hS2
        try simp only [List.getElem_toArray, List.getElem_cons_succ, List.getElem_cons_zero, Act.put, List.setIfInBounds_toArray, List.set_cons_zero, List.set_cons_succ]
        refine anyE_ready [36] (by kernel_rfl) (by simp) (ReadyE.cons rfl (fun K' hK => ?_) ReadyE.nil)
        go_simp
        go_at_call 17
        refine (sameR_any _ _ _ L1 L1 0 0 (((unhide Hb11).keep hS).ints) (((unhide Hb12).keep hS).ints) (by rw [unhide HL1]; have := unhide HP9; omega) (by rw [unhide HL1]; have := unhide HP9; omega)).mono ?_
        rw [sameP_refl]
        rintro ev x7 ⟨rfl, hb⟩
        dsimp only
        try go_simp
        have hS2 := hS.trans (hb.mono hS.size)
        refine hK _ _ (fun _ => hS2) ?_
        clear hK K' hS hb
        have hS := hS2
        clear hS2
        try simp only [List.getElem_toArray, List.getElem_cons_succ, List.getElem_cons_zero, Act.put, List.setIfInBounds_toArray, List.set_cons_zero, List.set_cons_succ]
        refine anyE_take 37 (v := ?_) rfl (by kernel_rfl) (by kernel_rfl) (by kernel_rfl) (by kernel_rfl) (fun _ _ _ h => h) hS (Or.inl ⟨by rfl, ?_⟩) ?_
        rotate_left
        · intro w' hS'
          go_simp
          try with_reducible rfl
        try simp only [List.getElem_toArray, List.getElem_cons_succ, List.getElem_cons_zero, Act.put, List.setIfInBounds_toArray, List.set_cons_zero, List.set_cons_succ]
        refine any_to_E (by kernel_rfl) ?_
        refine wpAny_ready (rs := [38]) (by kernel_rfl) (by simp) ?_
        refine AllReady.cons rfl (fun K' hK => ?_) AllReady.nil
        go_simp
        refine hK _ _ ?_
        clear hK K'
        try simp only [List.getElem_toArray, List.getElem_cons_succ, List.getElem_cons_zero, Act.put, List.setIfInBounds_toArray, List.set_cons_zero, List.set_cons_succ]
        refine wpAny_done (by kernel_rfl) ?_ _
        have HBL := hide (bthen (unhide HA).1 hS)
        clear hS
        go_wp2_with fail
        go_ret
        exact ⟨rfl, unhide HBL⟩
      · have d3 : (50 : Int) < p := by omega
        have HBL := hide (unhide HK2).1
        clear HK2
        go_wp2_with fail
        go_ret
        exact ⟨rfl, unhide HBL⟩
    · have d2 : (20 : Int) < (m : Int) := by omega
      have HBL := hide (unhide HK2).1
      clear HK2
      go_wp2_with fail
      go_ret
      exact ⟨rfl, unhide HBL⟩
  · have d1 : decide ((n : Int) ≤ 20) = false := decide_eq_false (by omega)
    rw [d1]
    have HBL := hide (unhide HK2).1
    clear HK2
    go_wp2_with fail
    go_ret
    exact ⟨rfl, unhide HBL⟩
end Go.Proofs.YtmbhamnkbpcljaaDoor.Line
