/- The contract of the project's Apply. -/
import Derived.Test.YtcfbigkmhboepaaDoorCheckD
import Derived.Test.YtcfbigkmhboepaaDoorAsD
import Derived.Test.YtcfbigkmhboepaaDoorApplyE
namespace Go.Proofs.YtcfbigkmhboepaaDoor.Line
open Go.ChangeShapes Go.WideShapes Go.ChangeAt Go.RowKit
set_option linter.unusedVariables false

/-- the pointer of the call's own, behind Check -/
theorem ptr_cells {w w2 : World} (hB : Below (w.alloc (.cells #[.pointer none] 56)).heap.size (w.alloc (.cells #[.pointer none] 56)) w2) :
    w2.cell? ⟨w.heap.size, 0, none⟩ = some (.pointer none) ∧ w2.frozen? ⟨w.heap.size, 0, none⟩ = false ∧ w.heap.size + 1 ≤ w2.heap.size ∧ Below w.heap.size w w2 := by
  have hB : Below (w.heap.size + 1) (w.alloc (.cells #[.pointer none] 56)) w2 := by simpa using hB
  refine ⟨?_, ?_, by have := hB.size; simpa using this, ((Below.refl _ _).alloc (Nat.le_refl _) _).trans (hB.mono (by omega))⟩
  · rw [hB.cell (p := ⟨w.heap.size, 0, none⟩) (by simp)]; simp
  · rw [hB.frozen (p := ⟨w.heap.size, 0, none⟩) (by simp)]; simp
theorem Says.mono {B B' : Nat} {w : World} {g : Value} {word : List UInt8} {at_ err : Nat} (h : Says B w g word at_ err) (hB : B' ≤ B) : Says B' w g word at_ err := by
  rcases h with h | ⟨h0, b, h1, h2⟩
  · exact .inl h
  · exact .inr ⟨h0, b, Nat.le_trans hB h1, h2⟩
theorem check_ok (N : Nat) (E : List RawE) (v : Value) (w : World) (hv : Eds w v E) (hl : E.length ≤ 1000000) (hok : (Edits.errE (N : Int) E).1 = 0) : Calls Tryd.prog 18 #[.int .i64 N, v] w fun e w' => e = .returned .nilIface ∧ Below w.heap.size w w' := by
  refine (check_any (N : Int) E v w hv (by omega)).mono ?_
  rintro e w' ⟨g, rfl, hT, hB⟩
  rcases hT with ⟨h, rfl⟩ | ⟨h, _⟩
  · exact ⟨rfl, hB⟩
  · exact absurd hok h

set_option maxHeartbeats 4000000 in
set_option maxRecDepth 100000 in
theorem apply_bad (lv v : Value) (L : List (List UInt8)) (E : List RawE) (w : World) (hG : Glob w) (hL : Row w lv L) (hv : Eds w v E) (hl : E.length ≤ 1000000) (hl2 : L.length ≤ 1000000) (hbad : (Edits.errE L.length E).1 ≠ 0) : Calls Tryd.prog 13 #[lv, v] w fun e w' =>
    ∃ u g, e = .returned (.tuple #[u, g]) ∧ Own w.heap.size w' u (made L E) ∧ Says w.heap.size w' g wEdit (Edits.errE L.length E).2 (Edits.errE L.length E).1 ∧ Below w.heap.size w w' := by
  have e0 : made L E = [] := if_neg hbad
  rw [e0]
  clear e0
  have HC := hide (fun (w1 : World) (h : Below w.heap.size w w1) => check_any L.length E v w1 (hv.below h) (by omega))
  obtain ⟨o, c0, rfl⟩ : ∃ a cap, lv = .slice a L.length cap := by
    rcases hL with ⟨a, cap, rfl, rfl⟩ | ⟨b, off, cap, rfl, _⟩
    · exact ⟨_, _, rfl⟩
    · exact ⟨_, _, rfl⟩
  obtain ⟨a', cap, rfl⟩ := hv.shape
  clear hv hL
  generalize (Edits.errE L.length E).1 = err at *
  generalize (Edits.errE L.length E).2 = k at *
  have HG := hide hG
  clear hG
  go_enter Tryd.func13, Tryd.ntmps13
  go_wp2_with (first
    | (go_at_call 18; refine (unhide HC _ (alloc_below _ _)).mono ?_; rintro e w2 ⟨g, rfl, hT, hB⟩; obtain ⟨k0, f0, hs, hB2⟩ := ptr_cells hB; obtain ⟨p, rfl, HAS⟩ := as_says (T0 := w.heap.size) hT (by simp) ((unhide HG).below hB2) k0 f0 hbad; replace HAS := hide HAS; have HB2 := hide hB2; clear hT hB hB2)
    | (go_at_call 25; refine (unhide HAS).mono ?_; rintro e w3 ⟨rfl, k3, hS, hB3⟩; have HS := hide hS; have HB3 := hide hB3; clear hS hB3))
  go_region
  all_goals go_wp2
  all_goals exact bodyPost_ret (v := .tuple #[.slice none 0 0, .iface 56 (.pointer (some p))]) (by simp [results, Tryd.results13, go_sem]) rfl ⟨_, _, rfl, Own.nil _ _, ((unhide HS).mono (by simp)).below (below_drewN (Below.refl _ _) 1), below_drewN ((unhide HB2).trans (unhide HB3)) 1⟩

/-- an edit in a block of the call s own -/
def BoxE (w : World) (b : Nat) (f t : Int) (u : Value) : Prop := w.heap[b]? = some (.cells #[.int .i64 f, .int .i64 t, u] 50 (0, 0))
theorem BoxE.mk (w : World) (f t : Int) (u : Value) : BoxE (w.alloc (.cells #[.int .i64 f, .int .i64 t, u] 50)) w.heap.size f t u := by
  show (w.heap.push _)[w.heap.size]? = _
  exact Array.getElem?_push_size
theorem BoxE.cells {w : World} {b : Nat} {f t : Int} {u : Value} (h : BoxE w b f t u) : w.cell? ⟨b, 0, none⟩ = some (.int .i64 f) ∧ w.cell? ⟨b, 1, none⟩ = some (.int .i64 t) ∧ w.cell? ⟨b, 2, none⟩ = some u := by
  unfold BoxE at h
  refine ⟨?_, ?_, ?_⟩ <;> simp [World.cell?, h]
theorem BoxE.lt {w : World} {b : Nat} {f t : Int} {u : Value} (h : BoxE w b f t u) : b < w.heap.size := cell_lt h.cells.1
theorem BoxE.grown {w w' : World} {b base : Nat} {f t : Int} {u s : Value} {ls : List (List UInt8)} (h : BoxE w b f t u) (hs : Own base w s ls) (hg : w.grownBy w' s.ownBlock) : BoxE w' b f t u := by
  unfold BoxE
  rw [hg.block b h.lt ?_]
  · exact h
  · intro e
    rcases hs.2 with ⟨rfl, _⟩ | ⟨g, cap, cur, rfl, hb, hh, _⟩
    · cases e
    · injection e with e
      subst e
      rw [show w.heap[b]? = _ from h] at hh
      injection hh with hh
      injection hh with _ hh
      cases hh
theorem BoxE.below {w w' : World} {b : Nat} {f t : Int} {u : Value} (h : BoxE w b f t u) (hb : Below w.heap.size w w') : BoxE w' b f t u := by
  unfold BoxE
  rw [hb.block b h.lt]
  exact h

set_option maxHeartbeats 4000000 in
set_option maxRecDepth 100000 in
theorem apply_ok (lv v : Value) (L : List (List UInt8)) (E : List RawE) (w : World) (hL : Row w lv L) (hv : Eds w v E) (hl : E.length ≤ 1000000) (hl2 : L.length ≤ 1000000) (hm : (made L E).length ≤ 1000000) (hok : (Edits.errE L.length E).1 = 0) : Calls Tryd.prog 13 #[lv, v] w fun e w' =>
    ∃ u g, e = .returned (.tuple #[u, g]) ∧ Own w.heap.size w' u (made L E) ∧ Says w.heap.size w' g wEdit (Edits.errE L.length E).2 (Edits.errE L.length E).1 ∧ Below w.heap.size w w' := by
  have e0 : made L E = Edits.ap L 0 (E.map Edits.nat) := if_pos hok
  rw [e0] at hm ⊢
  clear e0
  obtain ⟨hV, hE⟩ := Edits.vld_of L.length E (noBad _ E (by omega) hok)
  have HC := hide (fun (w1 : World) (h : Below w.heap.size w w1) => check_ok L.length E v w1 (hv.below h) hl hok)
  have HAN := hide (fun W => as_nil (.iface 58 (.pointer (some ⟨w.heap.size, 0, none⟩))) W)
  rw [hok]
  have HL := hide hL
  have HV := hide hv
  obtain ⟨o, c0, rfl⟩ : ∃ a cap, lv = .slice a L.length cap := by
    rcases hL with ⟨a, cap, rfl, rfl⟩ | ⟨b, off, cap, rfl, _⟩
    · exact ⟨_, _, rfl⟩
    · exact ⟨_, _, rfl⟩
  obtain ⟨a', cap, rfl⟩ := hv.shape
  clear hv hL
  go_enter Tryd.func13, Tryd.ntmps13
  go_wp2_with (first
    | (go_at_call 18; refine (unhide HC _ (alloc_below _ _)).mono ?_; rintro e w2 ⟨rfl, hB⟩; obtain ⟨k0, f0, hs, hB2⟩ := ptr_cells hB; have HBB := hide hB2; clear hB hB2 k0 f0)
    | (go_at_call 25; refine (unhide HAN _).mono ?_; rintro e w3 ⟨rfl, rfl⟩))
  generalize hlv : Value.slice o L.length c0 = lv at *
  have HLV := hide hlv
  clear hlv
  have HE := hide hE
  have HM := hide hm
  clear hE hV hm
  go_loopw [7, 8, 21] (fun x p q wr => ∃ (i a : Nat) (done : List (List UInt8)), i ≤ E.length ∧ q = .int .i64 i ∧ p = .int .i64 a ∧ a ≤ L.length ∧ Hid (done ++ Edits.ap L a ((E.drop i).map Edits.nat) = Edits.ap L 0 (E.map Edits.nat)) ∧ Hid (∀ h : i < E.length, (a : Int) ≤ E[i].f) ∧ Hid (Own w.heap.size wr x done) ∧ Hid (Below w.heap.size w wr)) (fun _ _ q _ => E.length - (intOf q).toNat)
  case atStart => exact ⟨0, 0, [], Nat.zero_le _, rfl, rfl, Nat.zero_le _, hide (by simp), hide (fun h => ((unhide HE) 0 h).1), hide (Own.nil _ _), HBB⟩
  case round =>
    rename_i wr _ _
    obtain ⟨i, a, done, hi, rfl, rfl, ha, HEQ, HAF, HOWN, HBW⟩ := hrel
    by_cases hlt : i < E.length
    · obtain ⟨e1, e2, e3, e4⟩ := unhide HE i hlt
      have haf := unhide HAF hlt
      have hlt2 : (i : Int) < E.length := by omega
      rcases unhide HV with ⟨_, _, _, hnil⟩ | ⟨b, off, cap', hval, hcap, hcells⟩
      · exact absurd hlt (by rw [hnil]; simp)
      obtain ⟨d0, d1, u, d2, hr⟩ := (hcells i hlt)
      have hbw := cell_lt d0
      replace d0 := ((unhide HBW).cell (p := ⟨b, off + i * 3, none⟩) hbw).trans d0
      replace d1 := ((unhide HBW).cell (p := ⟨b, off + i * 3 + 1, none⟩) hbw).trans d1
      replace d2 := ((unhide HBW).cell (p := ⟨b, off + i * 3 + 2, none⟩) hbw).trans d2
      injection hval with hv1 hv2 hv3
      subst hv1
      subst hv3
      have HR := hide hr
      have HNEXT := hide e4
      clear hr hcells hv2 e4
      obtain ⟨F, hF⟩ : ∃ F : Nat, E[i].f = F := ⟨E[i].f.toNat, by omega⟩
      obtain ⟨T, hT⟩ : ∃ T : Nat, E[i].t = T := ⟨E[i].t.toNat, by omega⟩
      rw [hF] at d0 e1 e2 haf
      rw [hT] at d1 e2 e3
      have HFT := hide (And.intro hF hT)
      clear hF hT
      have haF : a ≤ F := by omega
      have hFL : F ≤ L.length := by omega
      obtain ⟨ua, uc, rfl⟩ : ∃ x y, u = .slice x E[i].n.length y := by
        rcases unhide HR with ⟨x, y, rfl, h⟩ | ⟨_, _, _, rfl, _⟩
        · exact ⟨x, y, by rw [h]; rfl⟩
        · exact ⟨_, _, rfl⟩
      have HEQ2 : Hid (done ++ (L.drop a).take (F - a) ++ E[i].n ++ Edits.ap L T ((E.drop (i + 1)).map Edits.nat) = Edits.ap L 0 (E.map Edits.nat)) := hide (by
        have := unhide HEQ
        rw [List.drop_eq_getElem_cons hlt, List.map_cons] at this
        rw [← this]
        show _ = done ++ ((L.drop a).take (E[i].f.toNat - a) ++ E[i].n ++ Edits.ap L E[i].t.toNat _)
        rw [(unhide HFT).1, (unhide HFT).2]
        simp [List.append_assoc])
      have hlen : (done ++ (L.drop a).take (F - a) ++ E[i].n).length ≤ 1000000 := by
        have h1 := congrArg List.length (unhide HEQ2)
        have h2 := unhide HM
        rw [List.length_append] at h1
        omega
      rw [List.length_append] at hlen
      have hsw : w.heap.size ≤ wr.heap.size := (unhide HBW).size
      have BX := BoxE.mk wr (F : Int) (T : Int) (.slice ua E[i].n.length uc)
      have ba : Below w.heap.size w (wr.alloc (.cells #[.int .i64 (F : Int), .int .i64 (T : Int), .slice ua E[i].n.length uc] 50)) := (unhide HBW).alloc hsw _
      have oa : Own w.heap.size (wr.alloc (.cells #[.int .i64 (F : Int), .int .i64 (T : Int), .slice ua E[i].n.length uc] 50)) u7 done := (unhide HOWN).below (alloc_below _ _)
      obtain ⟨sv, hsv, hrow⟩ := slice_run (lv := lv) (L := L) ((unhide HL).below ba) a F haF hFL
      obtain ⟨v1, w1, hr1, ho1, hg1⟩ := append_row oa hrow ba.size (by rw [← List.length_append]; omega)
      have b1 := grown_below ba.size oa ba hg1
      have bx1 := BX.grown oa hg1
      obtain ⟨v2, w3, hr2, ho2, hg2⟩ := append_row ho1 ((unhide HR).below b1) b1.size (by omega)
      have b3 := grown_below b1.size ho1 b1 hg2
      obtain ⟨j0, j1, j2⟩ := bx1.cells
      obtain ⟨l0, l1, l2⟩ := (bx1.grown ho1 hg2).cells
      have H3 := hide (And.intro ho2 b3)
      clear j0 j1 l0 l2 b1 b3 ho1 ho2 hg1 hg2 hrow hlen ba oa BX bx1
      go_wp2_with (first | (at_builtin; refine wpList_append_run rfl _ _ rfl rfl _ _ rfl rfl v1 w1 hr1 ?_) | (at_builtin; refine wpList_append_run rfl _ _ rfl rfl _ _ rfl rfl v2 w3 hr2 ?_))
      go_roundw
      case rel => exact ⟨i + 1, T, done ++ (L.drop a).take (F - a) ++ E[i].n, by omega, by go_num, rfl, by omega, HEQ2, hide (fun h => by have := unhide HNEXT h; rw [(unhide HFT).2] at this; omega), hide (unhide H3).1, hide (unhide H3).2⟩
      case measure => simp [intOf]; omega
    · have hnil : E.drop i = [] := List.drop_of_length_le (by omega)
      have HEQ2 : Hid (done ++ L.drop a = Edits.ap L 0 (E.map Edits.nat)) := hide (by
        have := unhide HEQ
        rw [hnil] at this
        exact this)
      have hlen : done.length + (L.drop a).length ≤ 1000000 := by
        have h1 := congrArg List.length (unhide HEQ2)
        have h2 := unhide HM
        rw [List.length_append] at h1
        omega
      clear hnil
      obtain ⟨sv, hsv, hrow⟩ := slice_rest ((unhide HL).below (unhide HBW)) a ha
      obtain ⟨v1, w1, hr1, ho1, hg1⟩ := append_row (unhide HOWN) hrow (unhide HBW).size hlen
      have H3 := hide (And.intro ho1 (grown_below (unhide HBW).size (unhide HOWN) (unhide HBW) hg1))
      clear ho1 hg1 hrow hlen
      go_wp2_with (at_builtin; refine wpList_append_run rfl _ _ rfl rfl _ _ rfl rfl v1 w1 hr1 ?_)
      obtain ⟨o1, x1⟩ := unhide H3
      rw [unhide HEQ2] at o1
      exact bodyPost_ret (v := .tuple #[v1, .nilIface]) (by simp [results, Tryd.results13, go_sem]) rfl ⟨_, _, rfl, o1, .inl ⟨rfl, rfl⟩, x1⟩

theorem apply_any (lv v : Value) (L : List (List UInt8)) (E : List RawE) (w : World) (hG : Glob w) (hL : Row w lv L) (hv : Eds w v E) (hl : E.length ≤ 1000000) (hl2 : L.length ≤ 1000000) (hm : (made L E).length ≤ 1000000) : Calls Tryd.prog 13 #[lv, v] w fun e w' =>
    ∃ u g, e = .returned (.tuple #[u, g]) ∧ Own w.heap.size w' u (made L E) ∧ Says w.heap.size w' g wEdit (Edits.errE L.length E).2 (Edits.errE L.length E).1 ∧ Below w.heap.size w w' := by
  by_cases h : (Edits.errE L.length E).1 = 0
  · exact apply_ok lv v L E w hL hv hl hl2 hm h
  · exact apply_bad lv v L E w hG hL hv hl hl2 h
end Go.Proofs.YtcfbigkmhboepaaDoor.Line
