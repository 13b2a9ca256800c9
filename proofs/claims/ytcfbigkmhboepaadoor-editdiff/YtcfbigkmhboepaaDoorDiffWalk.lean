/- EditDiff, walked: at any two rows of lines it answers true. -/
import Derived.Test.YtcfbigkmhboepaaDoorKnownD
import Derived.Test.YtcfbigkmhboepaaDoorRefDiff
import Derived.Test.YtcfbigkmhboepaaDoorPlainMore
import Derived.Test.YtcfbigkmhboepaaDoorSameE
namespace Go.Proofs.YtcfbigkmhboepaaDoor.Line
open Go.ChangeShapes Go.WideShapes Go.ChangeAt Go.RowKit
set_option linter.unusedVariables false

theorem diff_made {A B : List (List UInt8)} {D : List RawE} (h : IsDiff A B D) : Edits.errE (A.length : Int) D = (0, 0) ∧ made A D = B ∧ D.length ≤ 1 ∧ ∀ i (h : i < D.length), D[i].n.length ≤ B.length := by
  rcases h with ⟨rfl, rfl⟩ | ⟨_, p, q, h1, h2, rfl⟩
  · exact ⟨Edits.errE_none _ _ (by omega) (fun j hj => by simp at hj), by rw [show ([] : List RawE) = ([] : List (Edits.Ed (List UInt8))).map raw from rfl, made_raw A [] trivial]; rfl, by simp, fun i h => by simp at h⟩
  · have hv : Edits.Vld A.length 0 [(⟨p, A.length - q, (B.drop p).take (B.length - q - p)⟩ : Edits.Ed (List UInt8))] := ⟨Nat.zero_le _, by have := h2.1; show p ≤ A.length - q; omega, by show A.length - q ≤ A.length; omega, trivial⟩
    refine ⟨errE_raw _ hv, ?_, by simp, fun i hi => ?_⟩
    · rw [show [raw ⟨p, A.length - q, (B.drop p).take (B.length - q - p)⟩] = [(⟨p, A.length - q, (B.drop p).take (B.length - q - p)⟩ : Edits.Ed (List UInt8))].map raw from rfl, made_raw _ _ hv, Edits.ap_one]
      exact Edits.diff_leads h1 h2
    · obtain rfl : i = 0 := by simpa using hi
      show ((B.drop p).take (B.length - q - p)).length ≤ B.length
      simp
      omega

set_option maxHeartbeats 4000000 in
theorem editDiff_any (u v : Value) (A B : List (List UInt8)) (w : World) (hu : Row w u A) (hv : Row w v B) (hA : A.length ≤ 9223372036854775807) (hB : B.length ≤ 9223372036854775807) (hG : Glob w) : Calls Tryd.prog 5 #[u, v] w fun e w' => e = .returned (.bool true) ∧ Below w.heap.size w w' := by
  have HU := hide hu
  have HV := hide hv
  have HG := hide hG
  obtain ⟨o, c, rfl, -⟩ := hu.arg
  obtain ⟨o', c', rfl, -⟩ := hv.arg
  clear hu hv hG
  by_cases g1 : 40 < A.length
  · have q1 : decide (40 < A.length) = true := decide_eq_true g1
    go_enter Tryd.func5, Tryd.ntmps5
    go_wp2_with fail
    refine (known_any w (unhide HG)).mono ?_
    rintro e w1 ⟨rfl, hb1⟩
    have H1 := hide hb1
    clear hb1
    go_wp2
    go_ret
    exact ⟨rfl, unhide H1⟩
  have q1 : decide (40 < A.length) = false := decide_eq_false g1
  by_cases g2 : 40 < B.length
  · have q2 : decide (40 < B.length) = true := decide_eq_true g2
    go_enter Tryd.func5, Tryd.ntmps5
    go_wp2_with fail
    refine (known_any w (unhide HG)).mono ?_
    rintro e w1 ⟨rfl, hb1⟩
    have H1 := hide hb1
    clear hb1
    go_wp2
    go_ret
    exact ⟨rfl, unhide H1⟩
  have q2 : decide (40 < B.length) = false := decide_eq_false g2
  go_enter Tryd.func5, Tryd.ntmps5
  go_wp2_with fail
  refine (known_any w (unhide HG)).mono ?_
  rintro e w1 ⟨rfl, hb1⟩
  have hU1 := (unhide HU).below hb1
  have hV1 := (unhide HV).below hb1
  have hG1 := (unhide HG).below hb1
  have H1 := hide (And.intro hU1 (And.intro hV1 (And.intro hG1 hb1)))
  clear hU1 hV1 hG1 hb1 HU HV HG
  go_wp2_with fail
  obtain ⟨hU1, hV1, hG1, hb1⟩ := unhide H1
  refine (diff_any _ _ A B w1 hU1 hV1 (by omega) (by omega)).mono ?_
  rintro e w2 ⟨x, D, rfl, hx, hD, hb2⟩
  obtain ⟨a2, c2, rfl⟩ := hx.eds.shape
  obtain ⟨m1, m2, m3, m4⟩ := diff_made hD
  have HD := hide (And.intro hD (And.intro m1 (And.intro m2 (And.intro m3 m4))))
  have hX2 := hx.eds
  have H2 := hide (And.intro (hU1.below hb2) (And.intro (hV1.below hb2) (And.intro (hG1.below hb2) (And.intro hX2 (bthen hb1 hb2)))))
  clear hU1 hV1 hG1 hb1 H1 hx hD hb2 m1 m2 m3 m4 hX2
  go_wp2_with fail
  obtain ⟨hU2, hV2, hG2, hX2, hB2⟩ := unhide H2
  obtain ⟨hD, m1, m2, m3, m4⟩ := unhide HD
  refine (apply_any _ _ A D w2 hG2 hU2 hX2 (by omega) (by omega) (by rw [m2]; omega)).mono ?_
  rintro e w3 ⟨y, g, rfl, hy, hs, hb3⟩
  obtain rfl := hs.ok (by rw [m1])
  rw [m2] at hy
  obtain ⟨a3, c3, rfl⟩ := hy.shape
  have H3 := hide (And.intro (hU2.below hb3) (And.intro (hV2.below hb3) (And.intro (hX2.below hb3) (And.intro hy.row (bthen hB2 hb3)))))
  clear hU2 hV2 hG2 hX2 hB2 H2 hD m1 m2 m3 m4 hy hs hb3
  go_wp2_with fail
  obtain ⟨hU3, hV3, hX3, hY3, hB3⟩ := unhide H3
  refine (refDiff_any _ _ A B w3 hU3 hV3 (by omega) (by omega)).mono ?_
  rintro e w4 ⟨z, D', rfl, hz, hD', hb4⟩
  obtain rfl := hD'.unique (unhide HD).1
  have H4 := hide (And.intro (hV3.below hb4) (And.intro (hX3.below hb4) (And.intro (hY3.below hb4) (And.intro hz.eds (bthen hB3 hb4)))))
  clear hU3 hV3 hX3 hY3 hB3 H3 hz hD' hb4
  go_wp2_with fail
  obtain ⟨hV4, hX4, hY4, hZ4, hB4⟩ := unhide H4
  refine (same_eq _ _ D' w4 hX4 hZ4 (by have := (unhide HD).2.2.2.1; omega) (fun i h => by have := (unhide HD).2.2.2.2 i h; omega)).mono ?_
  rintro e w5 ⟨rfl, n5, rfl⟩
  have H5 := hide (And.intro (hV4.drewN n5) (And.intro (hY4.drewN n5) (below_drewN hB4 n5)))
  clear hV4 hX4 hY4 hZ4 hB4 H4
  go_wp2_with fail
  obtain ⟨hV5, hY5, hB5⟩ := unhide H5
  refine (sameLines_eq _ _ B _ hY5 hV5 (by omega)).mono ?_
  rintro e w6 ⟨rfl, n6, rfl⟩
  have H6 := hide (below_drewN hB5 n6)
  clear hV5 hY5 hB5 H5
  go_wp2
  go_ret
  exact ⟨rfl, by have := unhide H6; rwa [World.drewN_drewN] at this⟩
end Go.Proofs.YtcfbigkmhboepaaDoor.Line
