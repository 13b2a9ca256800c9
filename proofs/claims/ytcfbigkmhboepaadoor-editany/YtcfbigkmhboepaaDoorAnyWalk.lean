/- EditAny, walked: at all lines and all edits it answers true. -/
import Derived.Test.YtcfbigkmhboepaaDoorKnownD
import Derived.Test.YtcfbigkmhboepaaDoorPlainMore
import Derived.Test.YtcfbigkmhboepaaDoorFew
import Derived.Test.YtcfbigkmhboepaaDoorOfE
import Derived.Test.YtcfbigkmhboepaaDoorBackE
import Derived.Test.YtcfbigkmhboepaaDoorSameE
import Derived.Test.YtcfbigkmhboepaaDoorTellsAnyB
import Derived.Deep.RegionWith
namespace Go.Proofs.YtcfbigkmhboepaaDoor.Line
open Go.ChangeShapes Go.WideShapes Go.ChangeAt Go.RowKit
set_option linter.unusedVariables false

theorem bk_len (X : List (List UInt8)) (F : List (Edits.Ed (List UInt8))) : ∀ a p, (Edits.bk X a p F).length = F.length ∧ ∀ e ∈ Edits.bk X a p F, e.n.length ≤ X.length := by
  induction F with
  | nil => intro a p; exact ⟨rfl, fun e h => by simp [Edits.bk] at h⟩
  | cons e es ih =>
    intro a p
    have h := ih e.t (p + (e.f - a) + e.n.length)
    refine ⟨?_, fun x hx => ?_⟩
    · show (_ :: Edits.bk X e.t _ es).length = _
      rw [List.length_cons, h.1]; rfl
    · rcases List.mem_cons.1 (show x ∈ _ :: Edits.bk X e.t _ es from hx) with rfl | h'
      · show ((X.drop e.f).take (e.t - e.f)).length ≤ X.length
        simp; omega
      · exact h.2 x h'
theorem backs_len (L : List (List UInt8)) (E : List RawE) : (backs L E).length ≤ E.length ∧ ∀ i (h : i < (backs L E).length), (backs L E)[i].n.length ≤ L.length := by
  unfold backs
  split
  · have h := bk_len L (E.map Edits.nat) 0 0
    refine ⟨by rw [List.length_map, h.1, List.length_map]; omega, fun i hi => ?_⟩
    rw [List.getElem_map]
    exact h.2 _ (List.getElem_mem _)
  · exact ⟨by simp, fun i hi => by simp at hi⟩
/-- a Wrong as a value of two cells -/
theorem Told.agg {B : Nat} {w : World} {g : Value} {word : List UInt8} {k err : Nat} (h : Told B w g word k err) : ∃ a n, g = .agg #[.slice a n n, .int .i64 err] := by
  rcases h with ⟨rfl, rfl⟩ | ⟨_, b, _, rfl, _⟩
  · exact ⟨none, 0, rfl⟩
  · exact ⟨_, 1, rfl⟩

set_option maxHeartbeats 8000000 in
set_option maxRecDepth 100000 in
theorem editAny_any (u v : Value) (L : List (List UInt8)) (E : List RawE) (w : World) (hu : Row w u L) (hv : Eds w v E) (hA : L.length ≤ 9223372036854775807) (hB : E.length ≤ 9223372036854775807) (hG : Glob w) : Calls Tryd.prog 3 #[u, v] w fun e w' => e = .returned (.bool true) ∧ Below w.heap.size w w' := by
  have HU := hide hu
  have HV := hide hv
  have HG := hide hG
  obtain ⟨o, c, rfl⟩ : ∃ a cap, u = .slice a L.length cap := by
    rcases hu with ⟨a, cap, rfl, rfl⟩ | ⟨b, off, cap, rfl, _⟩
    · exact ⟨_, _, rfl⟩
    · exact ⟨_, _, rfl⟩
  obtain ⟨o', c', rfl⟩ := hv.shape
  clear hu hv hG
  go_enter Tryd.func3, Tryd.ntmps3
  go_wp2_with fail
  refine (known_any w (unhide HG)).mono ?_
  rintro e w1 ⟨rfl, hb1⟩
  have hU1 := (unhide HU).below hb1
  have hV1 := (unhide HV).below hb1
  have hG1 := (unhide HG).below hb1
  have H1 := hide (And.intro hU1 (And.intro hV1 (And.intro hG1 hb1)))
  have HF := hide (few_any o L.length c _ E w1 hV1 hA hB)
  clear hU1 hV1 hG1 hb1 HU HV HG
  by_cases hf0 : fewB L.length E = false
  · rw [hf0] at HF
    clear hf0
    go_wp2_with fail
    refine (unhide HF).mono ?_
    rintro e w2 ⟨rfl, rfl⟩
    go_wp2
    go_ret
    exact ⟨rfl, (unhide H1).2.2.2⟩
  have hf : fewB L.length E = true := by simpa using hf0
  clear hf0
  rw [hf] at HF
  obtain ⟨f1, f2, f3⟩ := fewB_yes hf
  clear hf
  have HML := hide (made_len (L := L) (by omega) f2 f3)
  have HBL := hide (backs_len L E)
  clear f3
  go_wp2_with fail
  refine (unhide HF).mono ?_
  rintro e w2 ⟨rfl, rfl⟩
  clear HF
  go_wp2_with fail
  obtain ⟨hU, hV, hG, hb⟩ := unhide H1
  refine (of_any _ E _ hV (by omega)).mono ?_
  rintro e w3 ⟨x, rfl, hx, hb3⟩
  have H3 := hide (And.intro (hU.below hb3) (And.intro (hV.below hb3) (And.intro (hG.below hb3) (And.intro hx.eds (bthen hb hb3)))))
  clear hU hV hG hb hx hb3 H1
  go_wp2_with fail
  obtain ⟨hU, hV, hG, hX, hb⟩ := unhide H3
  refine (checkEdits_any _ E _ _ hX (by omega)).mono ?_
  rintro e w4 ⟨g, rfl, hW, hb4⟩
  obtain ⟨ga, gn, rfl⟩ := hW.agg
  have ba := alloc_below w4 (.cells #[.slice ga gn gn, .int .i64 ((Edits.errE (L.length : Int) E).1 : Int)] 30)
  have hc0 : (w4.alloc (.cells #[.slice ga gn gn, .int .i64 ((Edits.errE (L.length : Int) E).1 : Int)] 30)).cell? ⟨w4.heap.size, 0, none⟩ = some (.slice ga gn gn) := by simp
  have hc1 : (w4.alloc (.cells #[.slice ga gn gn, .int .i64 ((Edits.errE (L.length : Int) E).1 : Int)] 30)).cell? ⟨w4.heap.size, 1, none⟩ = some (.int .i64 ((Edits.errE (L.length : Int) E).1 : Int)) := by simp
  have H4 := hide (And.intro ((hU.below hb4).below ba) (And.intro ((hV.below hb4).below ba) (And.intro ((hG.below hb4).below ba) (And.intro ((hX.below hb4).below ba) (And.intro (bthen (bthen hb hb4) ba) (And.intro (hW.below ba) (And.intro hc0 hc1)))))))
  clear hU hV hG hX hb hW hb4 ba hc0 hc1 H3
  go_wp2_with fail
  generalize w4.alloc (.cells #[.slice ga gn gn, .int .i64 ((Edits.errE (L.length : Int) E).1 : Int)] 30) = W4 at *
  generalize w4.heap.size = B4 at *
  obtain ⟨hU, hV, hG, hX, hb, hW, hc0, hc1⟩ := unhide H4
  refine (apply_any _ _ L E _ hG hU hV (by omega) (by omega) (unhide HML)).mono ?_
  rintro e w5 ⟨a5, e5, rfl, ha5, hs5, hb5⟩
  have lt0 := cell_lt hc0
  have H5 := hide (And.intro (hU.below hb5) (And.intro (hV.below hb5) (And.intro (hG.below hb5) (And.intro (hX.below hb5) (And.intro (bthen hb hb5) (And.intro (hW.below hb5) (And.intro ((hb5.cell (p := ⟨B4, 0, none⟩) lt0).trans hc0) (And.intro ((hb5.cell (p := ⟨B4, 1, none⟩) lt0).trans hc1) (And.intro ha5.row hs5)))))))))
  clear hU hV hG hX hb hW hc0 hc1 ha5 hs5 hb5 H4 lt0
  go_wp2_with fail
  obtain ⟨hU, hV, hG, hX, hb, hW, hc0, hc1, hA5, hS5⟩ := unhide H5
  refine (refApply_any _ _ L E _ hU hX (by omega) (by omega) (unhide HML)).mono ?_
  rintro e w6 ⟨a6, e6, rfl, ha6, ht6, hb6⟩
  obtain ⟨ga6, gn6, rfl⟩ := ht6.agg
  have lt0 := cell_lt hc0
  have ba6 := alloc_below w6 (.cells #[.slice ga6 gn6 gn6, .int .i64 ((Edits.errE (L.length : Int) E).1 : Int)] 30)
  have hb6' := bthen hb6 ba6
  have H6 := hide (And.intro (hU.below hb6') (And.intro (hV.below hb6') (And.intro (hG.below hb6') (And.intro (hX.below hb6') (And.intro (bthen hb hb6') (And.intro (hW.below hb6') (And.intro ((hb6'.cell (p := ⟨B4, 0, none⟩) lt0).trans hc0) (And.intro ((hb6'.cell (p := ⟨B4, 1, none⟩) lt0).trans hc1) (And.intro (hA5.below hb6') (And.intro (hS5.below hb6') (ha6.row.below ba6)))))))))))
  clear hU hV hG hX hb hW hc0 hc1 hA5 hS5 ha6 ht6 hb6 hb6' ba6 H5 lt0
  go_wp2_with fail
  generalize w6.alloc (.cells #[.slice ga6 gn6 gn6, .int .i64 ((Edits.errE (L.length : Int) E).1 : Int)] 30) = W6 at *
  obtain ⟨hU, hV, hG, hX, hb, hW, hc0, hc1, hA5, hS5, hA6⟩ := unhide H6
  refine (back_any _ _ L E _ hG hU hV (by omega) (by omega) (unhide HML)).mono ?_
  rintro e w7 ⟨a7, e7, rfl, ha7, hs7, hb7⟩
  have lt0 := cell_lt hc0
  have H7 := hide (And.intro (hU.below hb7) (And.intro (hV.below hb7) (And.intro (hG.below hb7) (And.intro (hX.below hb7) (And.intro (bthen hb hb7) (And.intro (hW.below hb7) (And.intro ((hb7.cell (p := ⟨B4, 0, none⟩) lt0).trans hc0) (And.intro ((hb7.cell (p := ⟨B4, 1, none⟩) lt0).trans hc1) (And.intro (hA5.below hb7) (And.intro (hS5.below hb7) (And.intro (hA6.below hb7) (And.intro ha7.eds hs7))))))))))))
  clear hU hV hG hX hb hW hc0 hc1 hA5 hS5 hA6 ha7 hs7 hb7 H6 lt0
  go_wp2_with fail
  obtain ⟨hU, hV, hG, hX, hb, hW, hc0, hc1, hA5, hS5, hA6, hA7, hS7⟩ := unhide H7
  refine (refBack_any _ _ L E _ hU hX (by omega) (by omega) (unhide HML)).mono ?_
  rintro e w8 ⟨a8, e8, rfl, ha8, ht8, hb8⟩
  obtain ⟨ga8, gn8, rfl⟩ := ht8.agg
  have lt0 := cell_lt hc0
  have ba8 := alloc_below w8 (.cells #[.slice ga8 gn8 gn8, .int .i64 ((Edits.errE (L.length : Int) E).1 : Int)] 30)
  have hb8' := bthen hb8 ba8
  have H8 := hide (And.intro (hV.below hb8') (And.intro (hG.below hb8') (And.intro (bthen hb hb8') (And.intro (hW.below hb8') (And.intro ((hb8'.cell (p := ⟨B4, 0, none⟩) lt0).trans hc0) (And.intro ((hb8'.cell (p := ⟨B4, 1, none⟩) lt0).trans hc1) (And.intro (hA5.below hb8') (And.intro (hS5.below hb8') (And.intro (hA6.below hb8') (And.intro (hA7.below hb8') (And.intro (hS7.below hb8') (ha8.eds.below ba8))))))))))))
  clear hU hV hG hX hb hW hc0 hc1 hA5 hS5 hA6 hA7 hS7 ha8 ht8 hb8 hb8' ba8 H7 lt0
  go_wp2_with fail
  generalize w8.alloc (.cells #[.slice ga8 gn8 gn8, .int .i64 ((Edits.errE (L.length : Int) E).1 : Int)] 30) = W at *
  obtain ⟨hV, hG, hb, hW, c0, c1, hA5, hS5, hA6, hA7, hS7, hA8⟩ := unhide H8
  have HC := hide (fun (w1 : World) (h : Below W.heap.size W w1) => check_any (L.length : Int) E _ w1 (hV.below h) (by omega))
  have lt0 := cell_lt c0
  have H9 := hide (And.intro hG (And.intro hb (And.intro hW (And.intro hA5 (And.intro hS5 (And.intro hA6 (And.intro hA7 (And.intro hS7 hA8))))))))
  have HK := hide (And.intro lt0 (And.intro c0 c1))
  clear hV hG hb hW hA5 hS5 hA6 hA7 hS7 hA8 H8 lt0
  generalize (Edits.errE (L.length : Int) E).1 = er at *
  generalize (Edits.errE (L.length : Int) E).2 = pl at *
  go_region_with (first
    | (go_at_call 18; refine (unhide HC _ (below_drewN (Below.refl _ _) 1)).mono ?_; rintro e w11 ⟨g11, rfl, s11, b11⟩; have B11 := hide (bthen (below_drewN (Below.refl W.heap.size W) 1) b11); have S11 := hide s11; have k0 := ((unhide B11).cell (p := ⟨B4, 0, none⟩) (unhide HK).1).trans (unhide HK).2.1; have k1 := ((unhide B11).cell (p := ⟨B4, 1, none⟩) (unhide HK).1).trans (unhide HK).2.2; clear s11 b11)
    | (go_at_call_of 17 g11; refine (tells_any _ _ _ wEdit pl er ((unhide H9).1.below (unhide B11)) (unhide S11) ((unhide H9).2.2.1.below (unhide B11))).mono ?_; rintro e w12 ⟨rfl, b12⟩; have B12 := hide (bthen (unhide B11) b12); have k2 := ((unhide B12).cell (p := ⟨B4, 0, none⟩) (unhide HK).1).trans (unhide HK).2.1; have k3 := ((unhide B12).cell (p := ⟨B4, 1, none⟩) (unhide HK).1).trans (unhide HK).2.2; clear b12)
    | (go_at_call_of 17 e5; refine (tells_any _ _ _ wEdit pl er ((unhide H9).1.below (unhide B12)) ((unhide H9).2.2.2.2.1.below (unhide B12)) ((unhide H9).2.2.1.below (unhide B12))).mono ?_; rintro e w13 ⟨rfl, b13⟩; have B13 := hide (bthen (unhide B12) b13); have k4 := ((unhide B13).cell (p := ⟨B4, 0, none⟩) (unhide HK).1).trans (unhide HK).2.1; have k5 := ((unhide B13).cell (p := ⟨B4, 1, none⟩) (unhide HK).1).trans (unhide HK).2.2; clear b13)
    | (go_at_call_of 17 e7; refine (tells_any _ _ _ wEdit pl er ((unhide H9).1.below (unhide B13)) ((unhide H9).2.2.2.2.2.2.2.1.below (unhide B13)) ((unhide H9).2.2.1.below (unhide B13))).mono ?_; rintro e w14 ⟨rfl, b14⟩; have B14 := hide (bthen (unhide B13) b14); clear b14)
    | (go_at_call 19; refine (sameLines_eq _ _ (made L E) _ ((unhide H9).2.2.2.1.below (unhide B14)) ((unhide H9).2.2.2.2.2.1.below (unhide B14)) (by have := unhide HML; omega)).mono ?_; rintro e w15 ⟨rfl, n15, rfl⟩; have B15 := hide (below_drewN (unhide B14) n15))
    | (go_at_call 20; refine (same_eq _ _ (backs L E) _ ((unhide H9).2.2.2.2.2.2.1.below (unhide B15)) ((unhide H9).2.2.2.2.2.2.2.2.below (unhide B15)) (by have := (unhide HBL).1; omega) (fun i h => by have := (unhide HBL).2 i h; omega)).mono ?_; rintro e w16 ⟨rfl, n16, rfl⟩; have B16 := hide (below_drewN (unhide B15) n16)))
  all_goals go_wp2
  all_goals go_ret
  all_goals exact ⟨rfl, by have := bthen (unhide H9).2.1 (unhide B16); first | exact this | (rw [World.drewN_drewN] at this; exact this)⟩
end Go.Proofs.YtcfbigkmhboepaaDoor.Line
