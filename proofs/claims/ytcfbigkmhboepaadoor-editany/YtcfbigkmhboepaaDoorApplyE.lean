/- The contract of the reference's Apply. -/
import Derived.Test.YtcfbigkmhboepaaDoorCheckE
import Derived.Test.YtcfbigkmhboepaaDoorSlice
namespace Go.Proofs.YtcfbigkmhboepaaDoor.Line
open Go.ChangeShapes Go.WideShapes Go.ChangeAt Go.RowKit
set_option linter.unusedVariables false

/-- what edits make of lines: nothing where they may not be -/
def made (L : List (List UInt8)) (E : List RawE) : List (List UInt8) := if (Edits.errE (L.length : Int) E).1 = 0 then Edits.ap L 0 (E.map Edits.nat) else []
theorem noBad (N : Int) (E : List RawE) (hN : ¬ N < 0) (h : (Edits.errE N E).1 = 0) : ∀ j, j < E.length → Edits.badI N E j = 0 := by
  intro j hj
  unfold Edits.errE at h
  rw [if_neg hN] at h
  split at h
  · rename_i i hi
    have := List.find?_some hi
    simp at this
    exact absurd h this
  · rename_i hi
    rw [List.find?_eq_none] at hi
    have := hi j (List.mem_range.2 hj)
    simpa using this
theorem errE_zero (N : Int) (E : List RawE) (hN : ¬ N < 0) (h : (Edits.errE N E).1 = 0) : Edits.errE N E = (0, 0) := Edits.errE_none N E hN (noBad N E hN h)

theorem checkEdits_bad (N : Nat) (E : List RawE) (v : Value) (w1 : World) (hv : Eds w1 v E) (hl : E.length ≤ 1000000) (hbad : (Edits.errE (N : Int) E).1 ≠ 0) : Calls Tryd.prog 12 #[.int .i64 N, v] w1 fun e w' => ∃ b, e = .returned (.agg #[.slice (some ⟨b, 0, none⟩) 1 1, .int .i64 (Edits.errE N E).1]) ∧ w1.heap.size ≤ b ∧ w'.cell? ⟨b, 0, none⟩ = some (.string ⟨wEdit.toArray⟩) ∧ w'.cell? ⟨b, 1, none⟩ = some (.int .i64 (Edits.errE N E).2) ∧ Below w1.heap.size w1 w' := by
  refine (checkEdits_any (N : Int) E v w1 hv (by omega)).mono ?_
  rintro e w' ⟨g, rfl, hT, hB⟩
  rcases hT with ⟨h, _⟩ | ⟨_, b, h1, rfl, h2, h3⟩
  · exact absurd h hbad
  · exact ⟨b, rfl, h1, h2, h3, hB⟩
theorem checkEdits_ok (N : Nat) (E : List RawE) (v : Value) (w1 : World) (hv : Eds w1 v E) (hl : E.length ≤ 1000000) (hok : (Edits.errE (N : Int) E).1 = 0) : Calls Tryd.prog 12 #[.int .i64 N, v] w1 fun e w' => e = .returned (.agg #[.slice none 0 0, .int .i64 0]) ∧ Below w1.heap.size w1 w' := by
  refine (checkEdits_any (N : Int) E v w1 hv (by omega)).mono ?_
  rintro e w' ⟨g, rfl, hT, hB⟩
  rcases hT with ⟨h, rfl⟩ | ⟨h, _⟩
  · exact ⟨rfl, hB⟩
  · exact absurd hok h

set_option maxHeartbeats 4000000 in
set_option maxRecDepth 100000 in
theorem refApply_bad (lv v : Value) (L : List (List UInt8)) (E : List RawE) (w : World) (hL : Row w lv L) (hv : Eds w v E) (hl : E.length ≤ 1000000) (hl2 : L.length ≤ 1000000) (hbad : (Edits.errE L.length E).1 ≠ 0) : Calls Tryd.prog 14 #[lv, v] w fun e w' =>
    ∃ u g, e = .returned (.tuple #[u, g]) ∧ Own w.heap.size w' u (made L E) ∧ Told w.heap.size w' g wEdit (Edits.errE L.length E).2 (Edits.errE L.length E).1 ∧ Below w.heap.size w w' := by
  have e0 : made L E = [] := if_neg hbad
  rw [e0]
  clear e0
  have HC := hide (fun (w1 : World) (h : Below w.heap.size w w1) => checkEdits_bad L.length E v w1 (hv.below h) hl hbad)
  obtain ⟨o, c0, rfl⟩ : ∃ a cap, lv = .slice a L.length cap := by
    rcases hL with ⟨a, cap, rfl, rfl⟩ | ⟨b, off, cap, rfl, _⟩
    · exact ⟨_, _, rfl⟩
    · exact ⟨_, _, rfl⟩
  obtain ⟨a', cap, rfl⟩ := hv.shape
  clear hv hL
  generalize (Edits.errE L.length E).1 = err at *
  generalize (Edits.errE L.length E).2 = k at *
  have t1 : ((err : Int) != 0) = true := by rw [bne_iff_ne]; omega
  have t2 : ¬ (err : Int) = 0 := by omega
  go_enter Tryd.func14, Tryd.ntmps14
  go_wp2_with (go_at_call 12; refine (unhide HC _ (alloc_below _ _)).mono ?_; rintro e w2 ⟨b, rfl, hb, h0, h1, hB⟩; obtain ⟨k0, k1, f0, f1, hs, hB2⟩ := res_cells (by simpa using hB))
  have hbw := cell_lt h0
  have b1 := alloc_below w2 (.cells #[.slice (some ⟨b, 0, none⟩) 1 1, .int .i64 (err : Int)] 30)
  have m0 := (b1.cell (p := ⟨w.heap.size, 0, none⟩) hs).trans k0
  have m1 := (b1.cell (p := ⟨w.heap.size, 1, none⟩) hs).trans k1
  have g0 := (b1.frozen (p := ⟨w.heap.size, 0, none⟩) hs).trans f0
  have g1 := (b1.frozen (p := ⟨w.heap.size, 1, none⟩) hs).trans f1
  have z0 := (b1.cell (p := ⟨b, 0, none⟩) hbw).trans h0
  have z1 := (b1.cell (p := ⟨b, 1, none⟩) hbw).trans h1
  have q0 : (w2.alloc (.cells #[.slice (some ⟨b, 0, none⟩) 1 1, .int .i64 (err : Int)] 30)).cell? ⟨w2.heap.size, 0, none⟩ = some (.slice (some ⟨b, 0, none⟩) 1 1) := by simp
  have q1 : (w2.alloc (.cells #[.slice (some ⟨b, 0, none⟩) 1 1, .int .i64 (err : Int)] 30)).cell? ⟨w2.heap.size, 1, none⟩ = some (.int .i64 (err : Int)) := by simp
  have HBB := hide (hB2.trans (b1.mono (by omega)))
  have hbb : w.heap.size + 1 ≤ b := by simpa using hb
  generalize w2.alloc (.cells #[.slice (some ⟨b, 0, none⟩) 1 1, .int .i64 (err : Int)] 30) = W at *
  generalize w2.heap.size = B2 at *
  have HZ := hide (And.intro z0 z1)
  clear k0 k1 f0 f1 h0 h1 hB hB2 b1 z0 z1
  go_region
  all_goals go_wp2
  all_goals exact bodyPost_ret (v := .tuple #[.slice none 0 0, .agg #[.slice (some ⟨b, 0, none⟩) 1 1, .int .i64 (err : Int)]]) (by simp [results, Tryd.results14, go_sem, m0, m1]) rfl ⟨_, _, rfl, Own.nil _ _, told_mk (err := err) hbad hbb (unhide HZ).1 (unhide HZ).2, ((below_drewN (unhide HBB) 1).setCell (Nat.le_refl _) _).setCell (Nat.le_refl _) _⟩

theorem own_fin {w w1 : World} {v u u' : Value} {ls : List (List UInt8)} (h : Own (w.heap.size + 1) w1 v ls) : Own w.heap.size ((w1.setCell ⟨w.heap.size, 0, none⟩ u).setCell ⟨w.heap.size, 1, none⟩ u') v ls := by
  have h2 : Own (w.heap.size + 1) ((w1.setCell ⟨w.heap.size, 0, none⟩ u).setCell ⟨w.heap.size, 1, none⟩ u') v ls := ownsRow_setCell_below (ownsRow_setCell_below h (by simp) u) (by simp) u'
  obtain ⟨h3, h4⟩ := h2
  refine ⟨h3, ?_⟩
  rcases h4 with h4 | ⟨g, cap, cur, hv, hg, r⟩
  · exact .inl h4
  · exact .inr ⟨g, cap, cur, hv, by omega, r⟩
theorem grown_below {B : Nat} {w wr w1 : World} {v : Value} {ls : List (List UInt8)} (hB : B ≤ wr.heap.size) (hown : Own B wr v ls) (hnx : Below B w wr) (hgrow : wr.grownBy w1 v.ownBlock) : Below B w w1 :=
  hnx.grown hgrow hB (fun j hj => (World.ownsRow.lt hown j hj).1)

set_option maxHeartbeats 4000000 in
set_option maxRecDepth 100000 in
theorem refApply_ok (lv v : Value) (L : List (List UInt8)) (E : List RawE) (w : World) (hL : Row w lv L) (hv : Eds w v E) (hl : E.length ≤ 1000000) (hl2 : L.length ≤ 1000000) (hm : (made L E).length ≤ 1000000) (hok : (Edits.errE L.length E).1 = 0) : Calls Tryd.prog 14 #[lv, v] w fun e w' =>
    ∃ u g, e = .returned (.tuple #[u, g]) ∧ Own w.heap.size w' u (made L E) ∧ Told w.heap.size w' g wEdit (Edits.errE L.length E).2 (Edits.errE L.length E).1 ∧ Below w.heap.size w w' := by
  have e0 : made L E = Edits.ap L 0 (E.map Edits.nat) := if_pos hok
  rw [e0] at hm ⊢
  clear e0
  obtain ⟨hV, hE⟩ := Edits.vld_of L.length E (noBad _ E (by omega) hok)
  have HTOLD := hide hok
  have HC := hide (fun (w1 : World) (h : Below w.heap.size w w1) => checkEdits_ok L.length E v w1 (hv.below h) hl hok)
  rw [hok]
  have HL := hide hL
  have HV := hide hv
  obtain ⟨o, c0, rfl⟩ : ∃ a cap, lv = .slice a L.length cap := by
    rcases hL with ⟨a, cap, rfl, rfl⟩ | ⟨b, off, cap, rfl, _⟩
    · exact ⟨_, _, rfl⟩
    · exact ⟨_, _, rfl⟩
  obtain ⟨a', cap, rfl⟩ := hv.shape
  clear hv hL
  go_enter Tryd.func14, Tryd.ntmps14
  go_wp2_with (go_at_call 12; refine (unhide HC _ (alloc_below _ _)).mono ?_; rintro e w2 ⟨rfl, hB⟩; obtain ⟨k0, k1, f0, f1, hs, hB2⟩ := res_cells (by simpa using hB))
  have b1 := alloc_below w2 (.cells #[.slice none 0 0, .int .i64 0] 30)
  have m0 := (b1.cell (p := ⟨w.heap.size, 0, none⟩) hs).trans k0
  have m1 := (b1.cell (p := ⟨w.heap.size, 1, none⟩) hs).trans k1
  have g0 := (b1.frozen (p := ⟨w.heap.size, 0, none⟩) hs).trans f0
  have g1 := (b1.frozen (p := ⟨w.heap.size, 1, none⟩) hs).trans f1
  have HBB := hide (hB2.trans (b1.mono (by omega)))
  have hBs : w.heap.size + 1 ≤ (w2.alloc (.cells #[.slice none 0 0, .int .i64 0] 30)).heap.size := Nat.le_trans hs b1.size
  generalize w2.alloc (.cells #[.slice none 0 0, .int .i64 0] 30) = W at *
  generalize w2.heap.size = B2 at *
  clear k0 k1 f0 f1 hB hB2 b1
  generalize hlv : Value.slice o L.length c0 = lv at *
  have HLV := hide hlv
  clear hlv
  have HE := hide hE
  have HM := hide hm
  clear hE hV hm
  go_loopw [7, 8, 9] (fun x p q wr => ∃ (i a : Nat) (done : List (List UInt8)), i ≤ E.length ∧ q = .int .i64 i ∧ p = .int .i64 a ∧ a ≤ L.length ∧ Hid (done ++ Edits.ap L a ((E.drop i).map Edits.nat) = Edits.ap L 0 (E.map Edits.nat)) ∧ Hid (∀ h : i < E.length, (a : Int) ≤ E[i].f) ∧ Hid (Own (w.heap.size + 1) wr x done) ∧ Hid (Below (w.heap.size + 1) W wr)) (fun _ _ q _ => E.length - (intOf q).toNat)
  case atStart => exact ⟨0, 0, [], Nat.zero_le _, rfl, rfl, Nat.zero_le _, hide (by simp), hide (fun h => ((unhide HE) 0 h).1), hide (Own.nil _ _), hide (Below.refl _ _)⟩
  case round =>
    rename_i wr _ _
    obtain ⟨i, a, done, hi, rfl, rfl, ha, HEQ, HAF, HOWN, HBW⟩ := hrel
    by_cases hlt : i < E.length
    · obtain ⟨e1, e2, e3, e4⟩ := unhide HE i hlt
      have haf := unhide HAF hlt
      have hlt2 : (i : Int) < E.length := by omega
      have HBX := hide (show Below w.heap.size w wr from (unhide HBB).trans ((unhide HBW).mono (by omega)))
      rcases unhide HV with ⟨_, _, _, hnil⟩ | ⟨b, off, cap', hval, hcap, hcells⟩
      · exact absurd hlt (by rw [hnil]; simp)
      have HCE := hide hcells
      obtain ⟨d0, d1, u, d2, hr⟩ := (hcells i hlt)
      have hbw := cell_lt d0
      have HD1' := hide d1
      have HD2 := hide d2
      replace d0 := ((unhide HBX).cell (p := ⟨b, off + i * 3, none⟩) hbw).trans d0
      replace d1 := ((unhide HBX).cell (p := ⟨b, off + i * 3 + 1, none⟩) hbw).trans d1
      replace d2 := ((unhide HBX).cell (p := ⟨b, off + i * 3 + 2, none⟩) hbw).trans d2
      injection hval with hv1 hv2 hv3
      subst hv1
      subst hv3
      have HR := hide hr
      have HNEXT := hide e4
      have HRW := hide (hr.below (unhide HBX))
      clear hr hcells hv2 e4
      obtain ⟨F, hF⟩ : ∃ F : Nat, E[i].f = F := ⟨E[i].f.toNat, by omega⟩
      obtain ⟨T, hT⟩ : ∃ T : Nat, E[i].t = T := ⟨E[i].t.toNat, by omega⟩
      rw [hF] at d0 e1 e2 haf
      have HD1 : Hid (w.cell? ⟨b, off + i * 3 + 1, none⟩ = some (.int .i64 (T : Int))) := hide (by rw [← hT]; exact unhide HD1')
      clear HD1'
      rw [hT] at d1 e2 e3
      have HFT := hide (And.intro hF hT)
      clear hF hT
      have haF : a ≤ F := by omega
      have hFL : F ≤ L.length := by omega
      obtain ⟨ua, uc, rfl⟩ : ∃ x y, u = .slice x E[i].n.length y := by
        rcases unhide HRW with ⟨x, y, rfl, h⟩ | ⟨_, _, _, rfl, _⟩
        · exact ⟨x, y, by rw [h]; rfl⟩
        · exact ⟨_, _, rfl⟩
      have hsw : w.heap.size + 1 ≤ wr.heap.size := Nat.le_trans hBs (unhide HBW).size
      have HEQ2 : Hid (done ++ (L.drop a).take (F - a) ++ E[i].n ++ Edits.ap L T ((E.drop (i + 1)).map Edits.nat) = Edits.ap L 0 (E.map Edits.nat)) := hide (by
        have := unhide HEQ
        rw [List.drop_eq_getElem_cons hlt, List.map_cons] at this
        rw [← this]
        show _ = done ++ ((L.drop a).take (E[i].f.toNat - a) ++ E[i].n ++ Edits.ap L E[i].t.toNat _)
        rw [(unhide HFT).1, (unhide HFT).2]
        simp [List.append_assoc])
      have hlen : (done ++ (L.drop a).take (F - a) ++ E[i].n).length ≤ 1000000 := by
        have h1 := congrArg List.length (unhide HEQ2)
        have h2 := unhide HM
        rw [List.length_append] at h1
        omega
      rw [List.length_append] at hlen
      obtain ⟨sv, hsv, hrow⟩ := slice_run (lv := lv) (L := L) (w := wr) ((unhide HL).below (unhide HBX)) a F haF hFL
      obtain ⟨v1, w1, hr1, ho1, hg1⟩ := append_row (unhide HOWN) hrow hsw (by rw [← List.length_append]; omega)
      have b1 := grown_below hsw (unhide HOWN) (unhide HBW) hg1
      have x1 : Below w.heap.size w w1 := (unhide HBB).trans (b1.mono (by omega))
      have hsw1 : w.heap.size + 1 ≤ w1.heap.size := Nat.le_trans hBs b1.size
      obtain ⟨v2, w3, hr2, ho2, hg2⟩ := append_row ho1 ((unhide HR).below x1) hsw1 (by omega)
      have b3 := grown_below hsw1 ho1 b1 hg2
      have x3 : Below w.heap.size w w3 := (unhide HBB).trans (b3.mono (by omega))
      have j2 := (x1.cell (p := ⟨b, off + i * 3 + 2, none⟩) hbw).trans (unhide HD2)
      have j1 := (x3.cell (p := ⟨b, off + i * 3 + 1, none⟩) hbw).trans (unhide HD1)
      have H3 := hide (And.intro ho2 b3)
      clear x1 x3 b1 b3 ho1 ho2 hg1 hg2 hrow hlen
      go_wp2_with (first | (at_builtin; refine wpList_append_run rfl _ _ rfl rfl _ _ rfl rfl v1 w1 hr1 ?_) | (at_builtin; refine wpList_append_run rfl _ _ rfl rfl _ _ rfl rfl v2 w3 hr2 ?_))
      go_roundw
      case rel => exact ⟨i + 1, T, done ++ (L.drop a).take (F - a) ++ E[i].n, by omega, by go_num, rfl, by omega, HEQ2, hide (fun h => by have := unhide HNEXT h; rw [(unhide HFT).2] at this; omega), hide (unhide H3).1, hide (unhide H3).2⟩
      case measure => simp [intOf]; omega
    · have hnil : E.drop i = [] := List.drop_of_length_le (by omega)
      have HEQ2 : Hid (done ++ L.drop a = Edits.ap L 0 (E.map Edits.nat)) := hide (by
        have := unhide HEQ
        rw [hnil] at this
        exact this)
      have hlen : done.length + (L.drop a).length ≤ 1000000 := by
        have h1 := congrArg List.length (unhide HEQ2)
        have h2 := unhide HM
        rw [List.length_append] at h1
        omega
      clear hnil
      have HBX := hide (show Below w.heap.size w wr from (unhide HBB).trans ((unhide HBW).mono (by omega)))
      have hsw : w.heap.size + 1 ≤ wr.heap.size := Nat.le_trans hBs (unhide HBW).size
      obtain ⟨sv, hsv, hrow⟩ := slice_rest ((unhide HL).below (unhide HBX)) a ha
      obtain ⟨v1, w1, hr1, ho1, hg1⟩ := append_row (unhide HOWN) hrow hsw hlen
      have b1 := grown_below hsw (unhide HOWN) (unhide HBW) hg1
      have x1 : Below w.heap.size w w1 := (unhide HBB).trans (b1.mono (by omega))
      have n0 := (b1.cell (p := ⟨w.heap.size, 0, none⟩) (Nat.lt_succ_self _)).trans m0
      have n1 := (b1.cell (p := ⟨w.heap.size, 1, none⟩) (Nat.lt_succ_self _)).trans m1
      have l0 := (b1.frozen (p := ⟨w.heap.size, 0, none⟩) (Nat.lt_succ_self _)).trans g0
      have l1 := (b1.frozen (p := ⟨w.heap.size, 1, none⟩) (Nat.lt_succ_self _)).trans g1
      have H3 := hide (And.intro ho1 x1)
      clear x1 b1 ho1 hg1 hrow hlen
      go_wp2_with (at_builtin; refine wpList_append_run rfl _ _ rfl rfl _ _ rfl rfl v1 w1 hr1 ?_)
      obtain ⟨o1, x1⟩ := unhide H3
      rw [unhide HEQ2] at o1
      exact bodyPost_ret (v := .tuple #[v1, .agg #[.slice none 0 0, .int .i64 0]]) (by simp [results, Tryd.results14, go_sem, n0, n1]) rfl ⟨_, _, rfl, own_fin o1, .inl ⟨rfl, rfl⟩, (x1.setCell (Nat.le_refl _) _).setCell (Nat.le_refl _) _⟩

theorem refApply_any (lv v : Value) (L : List (List UInt8)) (E : List RawE) (w : World) (hL : Row w lv L) (hv : Eds w v E) (hl : E.length ≤ 1000000) (hl2 : L.length ≤ 1000000) (hm : (made L E).length ≤ 1000000) : Calls Tryd.prog 14 #[lv, v] w fun e w' =>
    ∃ u g, e = .returned (.tuple #[u, g]) ∧ Own w.heap.size w' u (made L E) ∧ Told w.heap.size w' g wEdit (Edits.errE L.length E).2 (Edits.errE L.length E).1 ∧ Below w.heap.size w w' := by
  by_cases h : (Edits.errE L.length E).1 = 0
  · exact refApply_ok lv v L E w hL hv hl hl2 hm h
  · exact refApply_bad lv v L E w hL hv hl hl2 h
end Go.Proofs.YtcfbigkmhboepaaDoor.Line
