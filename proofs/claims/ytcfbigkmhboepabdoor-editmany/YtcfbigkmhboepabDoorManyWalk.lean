/- EditMany, walked: at all lines and all edits it answers true. -/
import Derived.Test.YtcfbigkmhboepabDoorKnownD
import Derived.Test.YtcfbigkmhboepabDoorPlainMore
import Derived.Test.YtcfbigkmhboepabDoorFew
namespace Go.Proofs.YtcfbigkmhboepabDoor.Line
open Go.ChangeShapes Go.WideShapes Go.ChangeAt Go.RowKit
set_option linter.unusedVariables false

/-- one edit of all lines -/
theorem one_facts (L P : List (List UInt8)) (F T : Nat) (h1 : F ≤ T) (h2 : T ≤ L.length) : Edits.errE (L.length : Int) ([⟨F, T, P⟩] : List RawE) = (0, 0) ∧ made L [⟨F, T, P⟩] = Edits.one L ⟨F, T, P⟩ := by
  have hv : Edits.Vld L.length 0 [(⟨F, T, P⟩ : Edits.Ed (List UInt8))] := ⟨Nat.zero_le _, h1, h2, trivial⟩
  refine ⟨errE_raw _ hv, ?_⟩
  rw [show ([⟨F, T, P⟩] : List RawE) = [(⟨F, T, P⟩ : Edits.Ed (List UInt8))].map raw from rfl, made_raw _ _ hv, Edits.ap_one]
theorem vld_drop {N : Nat} (F : List (Edits.Ed (List UInt8))) : ∀ lo i, Edits.Vld N lo F → ∃ lo', Edits.Vld N lo' (F.drop i) := by
  induction F with
  | nil => intro lo i _; exact ⟨0, by rw [List.drop_nil]; trivial⟩
  | cons e es ih =>
    intro lo i hv
    cases i with
    | zero => exact ⟨lo, hv⟩
    | succ i => exact ih _ i hv.2.2.2
/-- what is left behind the edits from i on, one by one -/
theorem many_facts {L : List (List UInt8)} {E : List RawE} (h1 : L.length ≤ 40) (h2 : E.length ≤ 20) (h3 : ∀ i (h : i < E.length), E[i].n.length ≤ 20) (hok : (Edits.errE (L.length : Int) E).1 = 0) :
    (∀ i, (Edits.many L ((E.drop i).map Edits.nat)).length ≤ 1000000) ∧ Edits.many L (E.map Edits.nat) = made L E ∧ ∀ i (h : i < E.length), ∃ F T : Nat, E[i].f = F ∧ E[i].t = T ∧ F ≤ T ∧ T ≤ (Edits.many L ((E.drop (i + 1)).map Edits.nat)).length ∧ Edits.one (Edits.many L ((E.drop (i + 1)).map Edits.nat)) ⟨F, T, E[i].n⟩ = Edits.many L ((E.drop i).map Edits.nat) := by
  obtain ⟨hV, hE⟩ := Edits.vld_of L.length E (noBad _ E (by omega) hok)
  have hd : ∀ i, ∃ lo, Edits.Vld L.length lo ((E.drop i).map Edits.nat) := fun i => by
    have := vld_drop _ 0 i hV
    rwa [← List.map_drop] at this
  refine ⟨fun i => ?_, ?_, fun i h => ?_⟩
  · obtain ⟨lo, hv⟩ := hd i
    rw [(Edits.many_eq L _ lo hv).1]
    have h4 := ap_len L 20 ((E.drop i).map Edits.nat) (fun e he => by
      obtain ⟨x, hx, rfl⟩ := List.mem_map.1 he
      obtain ⟨j, hj, rfl⟩ := List.getElem_of_mem (List.mem_of_mem_drop hx)
      exact h3 j hj) 0
    have h5 : ((E.drop i).map Edits.nat).length ≤ 20 := by rw [List.length_map, List.length_drop]; omega
    have h6 : (((E.drop i).map Edits.nat).length + 1) * (L.length + 20) ≤ 21 * 60 := Nat.mul_le_mul (by omega) (by omega)
    omega
  · rw [(Edits.many_eq L _ 0 hV).1]
    exact (if_pos hok).symm
  · obtain ⟨lo, hv⟩ := hd i
    have he : (E.drop i).map Edits.nat = Edits.nat E[i] :: (E.drop (i + 1)).map Edits.nat := by rw [List.drop_eq_getElem_cons h, List.map_cons]
    have h7 := (Edits.many_eq L _ lo hv).2 _ _ he
    have h8 := hE i h
    refine ⟨E[i].f.toNat, E[i].t.toNat, by omega, by omega, by omega, h7.2, ?_⟩
    rw [he]
    rfl

set_option maxHeartbeats 4000000 in
set_option maxRecDepth 100000 in
theorem editMany_any (u v : Value) (L : List (List UInt8)) (E : List RawE) (w : World) (hu : Row w u L) (hv : Eds w v E) (hA : L.length ≤ 9223372036854775807) (hB : E.length ≤ 9223372036854775807) (hG : Glob w) : Calls Tryd.prog 3 #[u, v] w fun e w' => e = .returned (.bool true) ∧ Below w.heap.size w w' := by
  have HU := hide hu
  have HV := hide hv
  have HG := hide hG
  obtain ⟨o, c, rfl, -⟩ := hu.arg
  obtain ⟨o', c', rfl⟩ := hv.shape
  clear hu hv hG
  go_enter Tryd.func3, Tryd.ntmps3
  go_wp2_with fail
  refine (known_any w (unhide HG)).mono ?_
  rintro e w1 ⟨rfl, hb1⟩
  have hU1 := (unhide HU).below hb1
  have hV1 := (unhide HV).below hb1
  have hG1 := (unhide HG).below hb1
  have H1 := hide (And.intro hU1 (And.intro hV1 (And.intro hG1 hb1)))
  have HF := hide (few_any o L.length c _ E w1 hV1 hA hB)
  clear hU1 hV1 hG1 hb1 HU HV HG
  by_cases hf0 : fewB L.length E = false
  · rw [hf0] at HF
    clear hf0
    go_wp2_with fail
    refine (unhide HF).mono ?_
    rintro e w2 ⟨rfl, rfl⟩
    go_wp2
    go_ret
    exact ⟨rfl, (unhide H1).2.2.2⟩
  have hf : fewB L.length E = true := by simpa using hf0
  clear hf0
  rw [hf] at HF
  obtain ⟨f1, f2, f3⟩ := fewB_yes hf
  clear hf
  have HF3 := hide f3
  clear f3
  go_wp2_with fail
  refine (unhide HF).mono ?_
  rintro e w2 ⟨rfl, rfl⟩
  clear HF
  go_wp2_with fail
  obtain ⟨hU1, hV1, hG1, hb1⟩ := unhide H1
  refine (apply_any _ _ L E _ hG1 hU1 hV1 (by omega) (by omega) (made_len (by omega) f2 (unhide HF3))).mono ?_
  rintro e w3 ⟨y, g, rfl, hy, hs, hb3⟩
  by_cases hok : ¬ (Edits.errE (L.length : Int) E).1 = 0
  · rcases hs with ⟨h, _⟩ | ⟨_, b, _, rfl, _⟩
    · exact absurd h hok
    have H3 := hide (bthen hb1 hb3)
    clear hU1 hV1 hG1 hb1 H1 hb3 hy HF3 hok
    go_wp2
    go_ret
    exact ⟨rfl, unhide H3⟩
  replace hok := Decidable.not_not.1 hok
  obtain rfl := hs.ok hok
  have HMF := hide (many_facts f1 f2 (unhide HF3) hok)
  obtain ⟨a3, c3, rfl⟩ := hy.shape
  have hML := made_len (L := L) (by omega) f2 (unhide HF3)
  have H3 := hide (And.intro (hU1.below hb3) (And.intro (hV1.below hb3) (And.intro (hG1.below hb3) (And.intro hy.row (bthen hb1 hb3)))))
  generalize hmm : made L E = M at *
  have HMM := hide hmm
  clear hU1 hV1 hG1 hb1 H1 hb3 hy hs hok hmm
  go_wp2_with fail
  go_loopw [7, 8] (fun x q wr => ∃ (k : Nat) (i : Int), k ≤ E.length ∧ q = .int .i64 i ∧ i = (k : Int) - 1 ∧ Hid (Row wr x (Edits.many L ((E.drop k).map Edits.nat))) ∧ Hid (Below w3.heap.size w3 wr)) (fun _ q _ => (intOf q + 1).toNat)
  case atStart => exact ⟨E.length, (E.length : Int) - 1, Nat.le_refl _, rfl, rfl, hide (by rw [List.drop_length]; exact (unhide H3).1), hide (Below.refl _ _)⟩
  case round =>
    rename_i wr _ _
    obtain ⟨k, i, hk, rfl, hi, HR, HBW⟩ := hrel
    by_cases hz : 0 < k
    · obtain ⟨j, rfl⟩ : ∃ j, k = j + 1 := ⟨k - 1, by omega⟩
      obtain rfl : i = (j : Int) := by omega
      clear hi hz
      have hj : j < E.length := by omega
      have hj2 : (j : Int) < E.length := by omega
      obtain ⟨F, T, hF, hT, hFT, hTL, hone⟩ := (unhide HMF).2.2 j hj
      have hml := (unhide HMF).1 (j + 1)
      have hml2 := (unhide HMF).1 j
      have hb7 := unhide HR
      generalize hB0 : Edits.many L ((E.drop (j + 1)).map Edits.nat) = B0 at hb7 hTL hone hml
      generalize hB1 : Edits.many L ((E.drop j).map Edits.nat) = B1 at hone hml2
      have HB1 := hide hB1
      clear hB0 hB1 HR
      rcases unhide H3 with ⟨hU3, hV3, hG3, hM3, hB3⟩
      have hVr := hV3.below (unhide HBW)
      have hGr := hG3.below (unhide HBW)
      rcases hVr with ⟨_, _, _, hnil⟩ | ⟨b, off, cap', hval, hcap, hcells⟩
      · exact absurd hj (by rw [hnil]; simp)
      injection hval with hv1 hv2 hv3
      subst hv1
      subst hv3
      obtain ⟨d0, d1, ux, d2, hr⟩ := hcells j hj
      obtain ⟨ua, uc, rfl⟩ : ∃ x y, ux = .slice x E[j].n.length y := by
        rcases hr with ⟨x, y, rfl, h⟩ | ⟨_, _, _, rfl, _⟩
        · exact ⟨x, y, by rw [h]; rfl⟩
        · exact ⟨_, _, rfl⟩
      rw [hF] at d0
      rw [hT] at d1
      obtain ⟨o7, c7, h7, -⟩ := hb7.arg
      subst h7
      obtain ⟨p1, p2⟩ := one_facts B0 E[j].n F T hFT hTL
      rw [hone] at p2
      have hE1 := (ownE_one (B := wr.heap.size) (f := (F : Int)) (t := (T : Int)) (Nat.le_refl _) hr).eds
      have ba := alloc_below wr (.cells #[.int .i64 (F : Int), .int .i64 (T : Int), .slice ua E[j].n.length uc] 31)
      have HAP := hide (apply_any _ _ B0 [⟨F, T, E[j].n⟩] _ (hGr.below ba) (hb7.below ba) hE1 (by simp) hml (by rw [p2]; exact hml2))
      have HP := hide (And.intro p1 (And.intro p2 ba))
      clear hcells hv2 hU3 hV3 hG3 hM3 hB3 hGr hr hF hT hb7 hE1 ba p1 p2 hone hTL hml hml2 hFT
      generalize E[j].n.length = m at *
      generalize B0.length = m0 at *
      go_wp2_with fail
      refine (unhide HAP).mono ?_
      rintro e w5 ⟨y, g, rfl, hy, hs, hb5⟩
      obtain rfl := hs.ok (by rw [(unhide HP).1])
      rw [(unhide HP).2.1] at hy
      have H5 := hide (And.intro hy.row (bthen (bthen (unhide HBW) (unhide HP).2.2) hb5))
      clear hy hs hb5
      go_wp2
      go_roundw
      case rel => exact ⟨j, (j : Int) - 1, by omega, rfl, rfl, hide (by rw [unhide HB1]; exact (unhide H5).1), hide (unhide H5).2⟩
      case measure => simp [intOf]
    · obtain rfl : k = 0 := by omega
      obtain rfl : i = -1 := by omega
      clear hi hz
      have hM3 := (unhide H3).2.2.2.1.below (unhide HBW)
      have hb7 := (unhide HR)
      rw [List.drop_zero, (unhide HMF).2.1] at hb7
      have HS := hide (sameLines_eq _ _ M wr hM3 hb7 (by omega))
      clear hM3 hb7
      go_wp2_with fail
      refine (unhide HS).mono ?_
      rintro e w6 ⟨rfl, n, rfl⟩
      go_wp2
      go_ret
      exact ⟨rfl, below_drewN (bthen (unhide H3).2.2.2.2 (unhide HBW)) n⟩
end Go.Proofs.YtcfbigkmhboepabDoor.Line
