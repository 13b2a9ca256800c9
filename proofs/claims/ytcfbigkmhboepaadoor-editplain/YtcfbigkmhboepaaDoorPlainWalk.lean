/- EditPlain, walked: at all lines, all places, all new lines it answers true. -/
import Derived.Test.YtcfbigkmhboepaaDoorKnownD
import Derived.Test.YtcfbigkmhboepaaDoorPlainMore
import Derived.Test.YtcfbigkmhboepaaDoorSliceW
import Derived.BigQuiet
import Derived.Deep.RegionWith
import Derived.Deep.QuietTactic
namespace Go.Proofs.YtcfbigkmhboepaaDoor.Line
open Go.ChangeShapes Go.WideShapes Go.ChangeAt Go.RowKit
set_option linter.unusedVariables false

theorem run_slice0 {w : World} (a : Option Addr) (n cap hi : Nat) (h2 : hi ≤ cap) : (Instr.slice 22 (.slice a n cap) none (some (.int .i64 hi)) none).run Tryd.prog w = .ok (.slice a hi cap) w := by
  obtain ⟨i0, hi0, hz0, hz1, hz2⟩ := info_parts info9
  have e : a.map (·.add 0) = a := by cases a <;> rfl
  simp [Instr.slice, run_underlying Tryd.underlying22, sizeOf, typeInfo, hi0, Instr.sliceBounds, Instr.sliceBound, asIntOf, h2]
  exact fun _ => e
/-- x[:hi] -/
theorem slice_frontW {w : World} {lv : Value} {L : List (List UInt8)} (hL : Row w lv L) (hi : Nat) (h2 : hi ≤ L.length) :
    ∃ a c, (∀ W, (Instr.slice 22 lv none (some (.int .i64 hi)) none).run Tryd.prog W = .ok (.slice a hi c) W) ∧ Row w (.slice a hi c) (L.take hi) := by
  rcases hL with ⟨a, cap, rfl, rfl⟩ | ⟨b, off, cap, rfl, hc, h⟩
  · obtain rfl : hi = 0 := by simpa using h2
    exact ⟨_, _, fun W => run_slice0 a 0 cap 0 (Nat.zero_le _), .inl ⟨_, _, rfl, by simp⟩⟩
  · refine ⟨_, _, fun W => run_slice0 _ _ cap hi (by omega), .inr ⟨b, off, cap, by rw [List.length_take, Nat.min_eq_left h2], by rw [List.length_take]; omega, fun i hi' => ?_⟩⟩
    rw [List.getElem_take]
    exact h i (by rw [List.length_take] at hi'; omega)
/-- one edit of all lines -/
theorem plain_facts (L P : List (List UInt8)) (F T : Nat) (h1 : F ≤ T) (h2 : T ≤ L.length) : Edits.errE (L.length : Int) ([⟨F, T, P⟩] : List RawE) = (0, 0) ∧ made L [⟨F, T, P⟩] = L.take F ++ P ++ L.drop T := by
  have hv : Edits.Vld L.length 0 [(⟨F, T, P⟩ : Edits.Ed (List UInt8))] := ⟨Nat.zero_le _, h1, h2, trivial⟩
  refine ⟨errE_raw _ hv, ?_⟩
  rw [show ([⟨F, T, P⟩] : List RawE) = [(⟨F, T, P⟩ : Edits.Ed (List UInt8))].map raw from rfl, made_raw _ _ hv, Edits.ap_one]
  rfl
theorem none_facts (L : List (List UInt8)) : Edits.errE (L.length : Int) ([] : List RawE) = (0, 0) ∧ made L [] = L := by
  refine ⟨Edits.errE_none _ _ (by omega) (fun j hj => by simp at hj), ?_⟩
  rw [show ([] : List RawE) = ([] : List (Edits.Ed (List UInt8))).map raw from rfl, made_raw L [] trivial]
  rfl

set_option maxHeartbeats 4000000 in
theorem editPlain_any (u v : Value) (x y : Int) (L P : List (List UInt8)) (w : World) (hu : Row w u L) (hv : Row w v P) (hA : L.length ≤ 9223372036854775807) (hB : P.length ≤ 9223372036854775807) (x0 : 0 ≤ x) (x1 : x ≤ 255) (y0 : 0 ≤ y) (y1 : y ≤ 255) (hG : Glob w) : Calls Tryd.prog 7 #[u, .int .u8 x, .int .u8 y, v] w fun e w' => e = .returned (.bool true) ∧ Below w.heap.size w w' := by
  have HU := hide hu
  have HV := hide hv
  have HG := hide hG
  obtain ⟨o, c, rfl⟩ : ∃ a cap, u = .slice a L.length cap := by
    rcases hu with ⟨a, cap, rfl, rfl⟩ | ⟨b, off, cap, rfl, _⟩
    · exact ⟨_, _, rfl⟩
    · exact ⟨_, _, rfl⟩
  obtain ⟨o', c', rfl⟩ : ∃ a cap, v = .slice a P.length cap := by
    rcases hv with ⟨a, cap, rfl, rfl⟩ | ⟨b, off, cap, rfl, _⟩
    · exact ⟨_, _, rfl⟩
    · exact ⟨_, _, rfl⟩
  clear hu hv hG
  by_cases g1 : 40 < L.length
  · have q1 : decide (40 < L.length) = true := decide_eq_true g1
    go_enter Tryd.func7, Tryd.ntmps7
    go_wp2_with fail
    refine (known_any w (unhide HG)).mono ?_
    rintro e w1 ⟨rfl, hb1⟩
    have H1 := hide hb1
    clear hb1
    go_wp2
    go_ret
    exact ⟨rfl, unhide H1⟩
  have q1 : decide (40 < L.length) = false := decide_eq_false g1
  by_cases g2 : 20 < P.length
  · have q2 : decide (20 < P.length) = true := decide_eq_true g2
    go_enter Tryd.func7, Tryd.ntmps7
    go_wp2_with fail
    refine (known_any w (unhide HG)).mono ?_
    rintro e w1 ⟨rfl, hb1⟩
    have H1 := hide hb1
    clear hb1
    go_wp2
    go_ret
    exact ⟨rfl, unhide H1⟩
  have q2 : decide (20 < P.length) = false := decide_eq_false g2
  go_enter Tryd.func7, Tryd.ntmps7
  go_wp2_with fail
  refine (known_any w (unhide HG)).mono ?_
  rintro e w1 ⟨rfl, hb1⟩
  have H1 := hide (And.intro ((unhide HU).below hb1) (And.intro ((unhide HV).below hb1) (And.intro ((unhide HG).below hb1) hb1)))
  clear hb1 HU HV HG
  obtain ⟨F, hF⟩ : ∃ F : Nat, x % ((L.length : Int) + 1) = F := ⟨(x % ((L.length : Int) + 1)).toNat, by have := Int.emod_nonneg x (b := (L.length : Int) + 1) (by omega); omega⟩
  have hFL : (F : Int) ≤ L.length := by have := Int.emod_lt_of_pos x (b := (L.length : Int) + 1) (by omega); omega
  obtain ⟨Z, hZ⟩ : ∃ Z : Nat, y % ((L.length : Int) - F + 1) = Z := ⟨(y % ((L.length : Int) - F + 1)).toNat, by have := Int.emod_nonneg y (b := (L.length : Int) - F + 1) (by omega); omega⟩
  have hZL : (F : Int) + Z ≤ L.length := by have := Int.emod_lt_of_pos y (b := (L.length : Int) - F + 1) (by omega); omega
  have hnz : ¬ (L.length : Int) - F + 1 = 0 := by omega
  obtain ⟨T, hT⟩ : ∃ T : Nat, (F : Int) + Z = T := ⟨F + Z, by omega⟩
  go_wp2_with fail
  try rw [hF]
  clear hF hZ x0 x1 y0 y1
  have hFT : F ≤ T := by omega
  have hTL : T ≤ L.length := by omega
  clear hT hZL hnz
  obtain ⟨hU1, hV1, hG1, hb1⟩ := unhide H1
  obtain ⟨m1, m2⟩ := plain_facts L P F T hFT hTL
  have hE1 := (ownE_one (B := w1.heap.size) (f := (F : Int)) (t := (T : Int)) (Nat.le_refl _) hV1).eds
  have ba := alloc_below w1 (.cells #[.int .i64 (F : Int), .int .i64 (T : Int), .slice o' P.length c'] 50)
  refine (apply_any _ _ L [⟨F, T, P⟩] _ (hG1.below ba) (hU1.below ba) hE1 (by simp) (by omega) (by rw [m2]; simp; omega)).mono ?_
  rintro e w2 ⟨r, g, rfl, hr, hs, hb2⟩
  obtain rfl := hs.ok (by rw [m1])
  rw [m2] at hr
  obtain ⟨a2, c2, rfl⟩ := hr.shape
  have hml : ((L.take F ++ P ++ L.drop T).length : Int) = (L.length : Int) - ((T : Int) - F) + P.length := by simp; omega
  have HR : Hid ((L.take F ++ P ++ L.drop T).take F = L.take F ∧ ((L.take F ++ P ++ L.drop T).drop F).take P.length = P ∧ (L.take F ++ P ++ L.drop T).drop (F + P.length) = L.drop T ∧ F + P.length ≤ (L.take F ++ P ++ L.drop T).length) := hide (by
    have h0 : (L.take F).length = F := by simp; omega
    have h1 : (L.take F ++ P).length = F + P.length := by rw [List.length_append, h0]
    refine ⟨?_, ?_, ?_, ?_⟩
    · rw [List.append_assoc, List.take_append_of_le_length (by omega), List.take_of_length_le (by omega)]
    · have key : ∀ X Y : List (List UInt8), X.length = F → ((X ++ P ++ Y).drop F).take P.length = P := fun X Y hX => by subst hX; rw [List.append_assoc, List.drop_left, List.take_left]
      exact key _ _ h0
    · rw [← h1, List.drop_left]
    · rw [List.length_append, h1]; omega)
  generalize L.take F ++ P ++ L.drop T = M at *
  obtain ⟨m, hm⟩ : ∃ m : Nat, M.length = m := ⟨_, rfl⟩
  rw [hm] at hml
  have HM := hide hm
  simp only [hm]
  have H2 := hide (And.intro ((hU1.below ba).below hb2) (And.intro ((hV1.below ba).below hb2) (And.intro ((hG1.below ba).below hb2) (And.intro hr.row (bthen (bthen hb1 ba) hb2)))))
  clear hU1 hV1 hG1 hb1 H1 m1 m2 hE1 ba hr hs hb2 hm
  have eml := hml.symm
  clear hml
  go_wp2_with fail
  obtain ⟨hU2, hV2, hG2, hM2, hB2⟩ := unhide H2
  obtain ⟨n1, n2⟩ := none_facts L
  refine (apply_any _ _ L [] _ hG2 hU2 (.inl ⟨_, _, rfl, rfl⟩) (by simp) (by omega) (by rw [n2]; omega)).mono ?_
  rintro e w3 ⟨r, g, rfl, hr, hs, hb3⟩
  obtain rfl := hs.ok (by rw [n1])
  rw [n2] at hr
  obtain ⟨a3, c3, rfl⟩ := hr.shape
  have H3 := hide (And.intro (hU2.below hb3) (And.intro (hV2.below hb3) (And.intro (hM2.below hb3) (And.intro hr.row (bthen hB2 hb3)))))
  clear hU2 hV2 hG2 hM2 hB2 H2 n1 n2 hr hs hb3
  go_wp2_with fail
  obtain ⟨hU3, hV3, hM3, hR3, hB3⟩ := unhide H3
  refine (sameLines_eq _ _ L _ hR3 hU3 (by omega)).mono ?_
  rintro e w4 ⟨rfl, n4, rfl⟩
  replace hU3 := hU3.drewN n4
  replace hV3 := hV3.drewN n4
  replace hM3 := hM3.drewN n4
  replace hB3 := below_drewN hB3 n4
  clear H3 hR3
  generalize w3.drewN n4 = W at *
  obtain ⟨r1, r2, r3, r4⟩ := unhide HR
  have hFM : F ≤ M.length := by omega
  obtain ⟨G, hG⟩ : ∃ G : Nat, F + P.length = G := ⟨_, rfl⟩
  obtain ⟨s1, k1, e1, w1'⟩ := slice_frontW hM3 F hFM
  obtain ⟨s2, k2, e2, w2'⟩ := slice_frontW hU3 F (by omega)
  obtain ⟨s3, k3, e3, w3'⟩ := slice_runW hM3 F G (by omega) (by omega)
  obtain ⟨s4, k4, e4, w4'⟩ := slice_restW hM3 G (by omega)
  obtain ⟨s5, k5, e5, w5'⟩ := slice_restW hU3 T hTL
  rw [r1] at w1'
  rw [show G - F = P.length by omega] at e3 w3'
  rw [r2] at w3'
  rw [← hG, r3] at w4'
  rw [hG] at w4'
  have S1 := hide (fun n => sameLines_eq _ _ _ (W.drewN n) (w1'.drewN n) (w2'.drewN n) (by simp; omega))
  have S2 := hide (fun n => sameLines_eq _ _ _ (W.drewN n) (w3'.drewN n) (hV3.drewN n) (by omega))
  have S3 := hide (fun n => sameLines_eq _ _ _ (W.drewN n) (w4'.drewN n) (w5'.drewN n) (by simp; omega))
  have eG : (F : Int) + P.length = G := by omega
  have HB := hide hB3
  simp only [unhide HM] at e1 e3 e4 S3
  clear w1' w2' w3' w4' w5' hU3 hV3 hM3 hB3 r1 r2 r3 r4 hFM hG
  go_wp2_with fail
  generalize hla : Value.slice a2 m c2 = LA at *
  generalize hll : Value.slice o L.length c = LL at *
  have HLA := hide (And.intro hla hll)
  clear hla hll
  go_quiet (first | (go_at_call_of 19 s1; refine Calls.quiet_of (unhide S1 _)) | (go_at_call_of 19 s3; refine Calls.quiet_of (unhide S2 _)) | (go_at_call_of 19 s4; refine Calls.quiet_of (unhide S3 _)))
  clear e1 e2 e3 e4 e5 eG eml S1 S2 S3
  go_wp2
  go_ret
  exact ⟨rfl, below_drewN (unhide HB) _⟩
end Go.Proofs.YtcfbigkmhboepaaDoor.Line
