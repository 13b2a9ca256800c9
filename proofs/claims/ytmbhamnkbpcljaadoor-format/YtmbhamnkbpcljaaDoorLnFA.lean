/- FormAt, walked. -/
import Derived.Test.YtmbhamnkbpcljaaDoorLnKn
import Derived.Test.YtmbhamnkbpcljaaDoorLnRR
namespace Go.Proofs.YtmbhamnkbpcljaaDoor.Line
open Go.ChangeShapes Go.WideShapes Go.ChangeAt Go.RowKit
set_option linter.unusedVariables false

set_option maxHeartbeats 16000000 in
set_option maxRecDepth 1000000 in
theorem formAt_walk (w : World) (av xv yv : Value) (a x y : List Int) (ka : Int) (hG : Glob w) (hT : Tab w) (ha : Ints w av a) (hx : Ints w xv x) (hy : Ints w yv y) (ra : Rng a) (rx : Rng x) (ry : Rng y) (ia : In64 ka) :
    Calls Tryd.prog 4 #[formV av ka, xv, yv] w fun e w' => e = .returned (.bool true) ∧ Below w.heap.size w w' := by
  have HO := hide (And.intro ha (And.intro hx hy))
  have HR := hide (And.intro ra (And.intro rx (And.intro ry ia)))
  obtain ⟨aa, ac, rfl⟩ := ha.shape
  obtain ⟨xa, xc, rfl⟩ := hx.shape
  obtain ⟨ya, yc, rfl⟩ := hy.shape
  have hbx := Bx.new w (.slice aa a.length ac) (.int .i64 ka) FmT
  have hb0 := alloc_below w (.cells #[.slice aa a.length ac, .int .i64 ka] FmT)
  have HKN := hide (known_any (w.alloc (.cells #[.slice aa a.length ac, .int .i64 ka] FmT)) (hG.below hb0) (hT.below hb0))
  have HK0 := hide (And.intro hb0 hbx)
  have HG := hide hG
  have hla : a.length ≤ 9223372036854775807 := by obtain ⟨_, c, _, h2, h3, _⟩ := ha; unfold maxLen at h3; omega
  have hlx : x.length ≤ 9223372036854775807 := by obtain ⟨_, c, _, h2, h3, _⟩ := hx; unfold maxLen at h3; omega
  have hly : y.length ≤ 9223372036854775807 := by obtain ⟨_, c, _, h2, h3, _⟩ := hy; unfold maxLen at h3; omega
  clear ha hx hy ra rx ry ia hbx hb0 hG hT
  generalize hna : a.length = n at *
  generalize hnx : x.length = m at *
  generalize hny : y.length = k at *
  have HLS := hide (And.intro hna (And.intro hnx hny))
  clear hna hnx hny
  have HFW := hide (fun W => few_any W aa n ac ka)
  go_enter Tryd.func4, Tryd.ntmps4
  go_wp2_with fail
  refine (unhide HKN).mono ?_
  rintro ev w1 ⟨rfl, hb1⟩
  have HK1 := hide (And.intro (bthen (unhide HK0).1 hb1) ((unhide HK0).2.keep hb1))
  clear hb1 HK0 HKN
  obtain ⟨c0, c1, c2, c3, c4⟩ := (unhide HK1).2
  go_wp2_with fail
  refine (unhide HFW w1).mono ?_
  rintro ev w2 ⟨rfl, hb2⟩
  have HK2 := hide (And.intro (bthen (unhide HK1).1 hb2) ((unhide HK1).2.keep hb2))
  clear hb2 c0 c1 c2 c3 c4 HK1 HFW
  by_cases h1 : n ≤ 20
  · have d1 : decide ((n : Int) ≤ 20) = true := decide_eq_true (by omega)
    rw [d1]
    by_cases h2 : m ≤ 20
    · have d2 : ¬ (20 : Int) < (m : Int) := by omega
      by_cases h3 : k ≤ 20
      · have d3 : ¬ (20 : Int) < (k : Int) := by omega
        have HA := hide (fun W (hW : Below w.heap.size w W) => linAt_any W (.slice aa n ac) (.slice xa m xc) a x ka ((unhide HO).1.below hW) ((unhide HO).2.1.below hW) (unhide HR).1 (unhide HR).2.1 (unhide HR).2.2.2 (by rw [(unhide HLS).1]; omega) (by rw [(unhide HLS).2.1]; omega))
        have HA' := hide (fun W (hW : Below w.heap.size w W) => refAt_any W (.slice aa n ac) (.slice xa m xc) a x ka ((unhide HO).1.below hW) ((unhide HO).2.1.below hW) (unhide HR).1 (unhide HR).2.1 (unhide HR).2.2.2 (by rw [(unhide HLS).1]; omega) (by rw [(unhide HLS).2.1]; omega))
        have HB := hide (fun W (hW : Below w.heap.size w W) => linRange_any W (.slice aa n ac) (.slice xa m xc) (.slice ya k yc) a x y ka ((unhide HO).1.below hW) ((unhide HO).2.1.below hW) ((unhide HO).2.2.below hW) (unhide HR).1 (unhide HR).2.1 (unhide HR).2.2.1 (unhide HR).2.2.2 (by rw [(unhide HLS).1]; omega) (by rw [(unhide HLS).2.1]; omega) (by rw [(unhide HLS).2.2]; omega))
        have HB' := hide (fun W (hW : Below w.heap.size w W) => refRange_any W (.slice aa n ac) (.slice xa m xc) (.slice ya k yc) a x y ka ((unhide HO).1.below hW) ((unhide HO).2.1.below hW) ((unhide HO).2.2.below hW) (unhide HR).1 (unhide HR).2.1 (unhide HR).2.2.1 (unhide HR).2.2.2 (by rw [(unhide HLS).1]; omega) (by rw [(unhide HLS).2.1]; omega) (by rw [(unhide HLS).2.2]; omega))
        generalize atE a x ka = E1 at *
        generalize atV a x ka = V1 at *
        generalize rngE a x y ka = E2 at *
        generalize rngV a x y ka = V2 at *
        obtain ⟨p2, q2⟩ := V2
        clear HO HR HLS
        obtain ⟨c0, c1, c2, c3, c4⟩ := (unhide HK2).2
        go_upto_region 6 with (go_at_call 19; refine (unhide HA w2 (unhide HK2).1).mono ?_; rintro ev w3 ⟨f1, rfl, hs1, hb3⟩)
        have HK3 := hide (And.intro (bthen (unhide HK2).1 hb3) (And.intro ((unhide HK2).2.keep hb3) (hs1.mono (Nat.zero_le _))))
        clear hs1 hb3 c0 c1 c2 c3 c4 HK2 HA
        obtain ⟨c0, c1, c2, c3, c4⟩ := (unhide HK3).2.1
        go_wp2_with fail
        refine (ofF_any w3 aa n ac ka).mono ?_
        rintro ev w4 ⟨rfl, hb4⟩
        have HK4 := hide (And.intro (bthen (unhide HK3).1 hb4) (And.intro ((unhide HK3).2.1.keep hb4) ((unhide HK3).2.2.below hb4)))
        clear hb4 c0 c1 c2 c3 c4 HK3
        go_upto_region 7 with (go_at_call 20; refine (unhide HA' w4 (unhide HK4).1).mono ?_; rintro ev w5 ⟨g1, gn1, gc1, rfl, ht1, hb5⟩)
        have hal := alloc_below w5 (.cells #[.slice g1 gn1 gc1, .int .i64 E1] WrT)
        have HK5 := hide (And.intro (bthen (unhide HK4).1 (bthen hb5 hal)) (And.intro ((unhide HK4).2.1.keep (bthen hb5 hal)) (And.intro ((unhide HK4).2.2.below (bthen hb5 hal)) (And.intro (((ht1.mono (Nat.zero_le _)) : Told 0 _ _ _ _ _).below hal) (Bx.new w5 (.slice g1 gn1 gc1) (.int .i64 E1) WrT)))))
        clear hb5 ht1 hal HK4 HA'
        generalize w5.alloc (.cells #[.slice g1 gn1 gc1, .int .i64 E1] WrT) = w6 at *
        generalize w5.heap.size = b10 at *
        obtain ⟨c0, c1, c2, c3, c4⟩ := (unhide HK5).2.1
        go_upto_region 8 with (go_at_call 21; refine (unhide HB w6 (unhide HK5).1).mono ?_; rintro ev w7 ⟨f2, rfl, hs2, hb7⟩)
        have HK7 := hide (And.intro (bthen (unhide HK5).1 hb7) (And.intro ((unhide HK5).2.1.keep hb7) (And.intro ((unhide HK5).2.2.1.below hb7) (And.intro ((unhide HK5).2.2.2.1.below hb7) (And.intro ((unhide HK5).2.2.2.2.keep hb7) (hs2.mono (Nat.zero_le _)))))))
        clear hs2 hb7 c0 c1 c2 c3 c4 HK5 HB
        obtain ⟨c0, c1, c2, c3, c4⟩ := (unhide HK7).2.1
        go_wp2_with fail
        refine (ofF_any w7 aa n ac ka).mono ?_
        rintro ev w8 ⟨rfl, hb8⟩
        have HK8 := hide (And.intro (bthen (unhide HK7).1 hb8) (And.intro ((unhide HK7).2.2.1.below hb8) (And.intro ((unhide HK7).2.2.2.1.below hb8) (And.intro ((unhide HK7).2.2.2.2.1.keep hb8) ((unhide HK7).2.2.2.2.2.below hb8)))))
        clear hb8 c0 c1 c2 c3 c4 HK7
        go_upto_region 9 with (go_at_call 22; refine (unhide HB' w8 (unhide HK8).1).mono ?_; rintro ev w9 ⟨g2, gn2, gc2, rfl, ht2, hb9⟩)
        have hal := alloc_below w9 (.cells #[.slice g2 gn2 gc2, .int .i64 E2] WrT)
        have HK9 := hide (And.intro (bthen (unhide HK8).1 (bthen hb9 hal)) (And.intro ((unhide HK8).2.1.below (bthen hb9 hal)) (And.intro ((unhide HK8).2.2.1.below (bthen hb9 hal)) (And.intro ((unhide HK8).2.2.2.1.keep (bthen hb9 hal)) (And.intro ((unhide HK8).2.2.2.2.below (bthen hb9 hal)) (And.intro (((ht2.mono (Nat.zero_le _)) : Told 0 _ _ _ _ _).below hal) (Bx.new w9 (.slice g2 gn2 gc2) (.int .i64 E2) WrT)))))))
        clear hb9 ht2 hal HK8 HB'
        generalize w9.alloc (.cells #[.slice g2 gn2 gc2, .int .i64 E2] WrT) = w10 at *
        generalize w9.heap.size = b16 at *
        obtain ⟨k0, k1, k2, k3, k4⟩ := (unhide HK9).2.2.2.1
        obtain ⟨m0, m1, m2, m3, m4⟩ := (unhide HK9).2.2.2.2.2.2
        have HT1 := hide (tells_any w10 f1 (.agg #[.slice g1 gn1 gc1, .int .i64 E1]) wForm 0 E1 ((unhide HG).below (unhide HK9).1) (unhide HK9).2.1 (unhide HK9).2.2.1)
        have HT2 := hide (fun W (hW : Below w10.heap.size w10 W) => tells_any W f2 (.agg #[.slice g2 gn2 gc2, .int .i64 E2]) wForm 0 E2 ((unhide HG).below (bthen (unhide HK9).1 hW)) ((unhide HK9).2.2.2.2.1.below hW) ((unhide HK9).2.2.2.2.2.1.below hW))
        go_wp2_with fail
        refine (unhide HT1).mono ?_
        rintro ev w11 ⟨rfl, hb11⟩
        have HB16 := hide ((unhide HK9).2.2.2.2.2.2.keep hb11)
        have HT3 := hide (unhide HT2 w11 hb11)
        have HBL := hide (bthen (unhide HK9).1 hb11)
        clear k0 k1 k2 k3 k4 m0 m1 m2 m3 m4 hb11 HT1 HT2 HK9
        obtain ⟨m0, m1, m2, m3, m4⟩ := unhide HB16
        go_wp2_with fail
        refine (unhide HT3).mono ?_
        rintro ev w12 ⟨rfl, hb12⟩
        have HBL2 := hide (bthen (unhide HBL) hb12)
        clear m0 m1 m2 m3 m4 hb12 HT3 HB16 HBL
        go_wp2_with fail
        go_ret
        exact ⟨rfl, unhide HBL2⟩
      · have d3 : (20 : Int) < (k : Int) := by omega
        have HBL := hide (unhide HK2).1
        clear HK2
        go_wp2_with fail
        go_ret
        exact ⟨rfl, unhide HBL⟩
    · have d2 : (20 : Int) < (m : Int) := by omega
      have HBL := hide (unhide HK2).1
      clear HK2
      go_wp2_with fail
      go_ret
      exact ⟨rfl, unhide HBL⟩
  · have d1 : decide ((n : Int) ≤ 20) = false := decide_eq_false (by omega)
    rw [d1]
    have HBL := hide (unhide HK2).1
    clear HK2
    go_wp2_with fail
    go_ret
    exact ⟨rfl, unhide HBL⟩
end Go.Proofs.YtmbhamnkbpcljaaDoor.Line
