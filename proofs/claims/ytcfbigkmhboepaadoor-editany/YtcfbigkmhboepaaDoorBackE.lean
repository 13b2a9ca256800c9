/- The contract of the reference's Back. -/
import Derived.Test.YtcfbigkmhboepaaDoorApplyE
import Derived.Test.YtcfbigkmhboepaaDoorOwnE
import Derived.Test.YtcfbigkmhboepaaDoorOfE
import Derived.Test.YtcfbigkmhboepaaDoorBacks
import Derived.Deep.AppendLies
import Derived.Deep.RegionHeldLaw
import Derived.BigQuiet
import Derived.Deep.QuietTactic
namespace Go.Proofs.YtcfbigkmhboepaaDoor.Line
open Go.ChangeShapes Go.WideShapes Go.ChangeAt Go.RowKit
set_option linter.unusedVariables false

/-- a row of lines in another block than r, behind block B -/
def RowN (w : World) (v : Value) (ls : List (List UInt8)) (r : Option Nat) (B : Nat) : Prop :=
  (∃ a cap, v = .slice a 0 cap ∧ ls = []) ∨
  (∃ b off cap, v = .slice (some ⟨b, off, none⟩) ls.length cap ∧ ls.length ≤ cap ∧ (some b ≠ r ∧ B < b) ∧ ∀ i (h : i < ls.length), w.cell? ⟨b, off + i, none⟩ = some (.string ⟨(ls[i]).toArray⟩))
theorem RowN.row {w : World} {v : Value} {ls : List (List UInt8)} {r : Option Nat} {B : Nat} (h : RowN w v ls r B) : Row w v ls := by
  rcases h with h | ⟨b, off, cap, h1, h2, _, h3⟩
  · exact .inl h
  · exact .inr ⟨b, off, cap, h1, h2, h3⟩
theorem RowN.grown {w w' : World} {v : Value} {ls : List (List UInt8)} {r r' : Option Nat} {B : Nat} (h : RowN w v ls r B) (hg : w.grownBy w' r) (hr : ∀ b, b < w.heap.size → some b ≠ r → some b ≠ r') : RowN w' v ls r' B := by
  rcases h with h | ⟨b, off, cap, h1, h2, hne, h3⟩
  · exact .inl h
  · by_cases h0 : ls = []
    · subst h0; exact .inl ⟨_, _, h1, rfl⟩
    · have hb : b < w.heap.size := cell_lt (h3 0 (by cases ls with | nil => exact absurd rfl h0 | cons _ _ => simp))
      exact .inr ⟨b, off, cap, h1, h2, ⟨hr b hb hne.1, hne.2⟩, fun i hi => by rw [hg.cell_far ⟨b, off + i, none⟩ hb hne.1]; exact h3 i hi⟩
theorem RowN.below {w w' : World} {v : Value} {ls : List (List UInt8)} {r : Option Nat} {B : Nat} (h : RowN w v ls r B) (hb : Below w.heap.size w w') : RowN w' v ls r B := by
  rcases h with h | ⟨b, off, cap, h1, h2, hne, h3⟩
  · exact .inl h
  · exact .inr ⟨b, off, cap, h1, h2, hne, fun i hi => by rw [hb.cell (p := ⟨b, off + i, none⟩) (cell_lt (h3 i hi))]; exact h3 i hi⟩
theorem Own.rowN {base : Nat} {w : World} {v : Value} {ls : List (List UInt8)} (h : Own base w v ls) (r : Option Nat) (B : Nat) (hB : B < base) (hr : ∀ b, base ≤ b → some b ≠ r) : RowN w v ls r B := by
  have h' := h.row
  obtain ⟨h1, h2⟩ := h
  rcases h2 with ⟨rfl, h2⟩ | ⟨g, cap, cur, rfl, hg, hh, hc, hm, hs, ht⟩
  · exact .inl ⟨none, 0, rfl, by simpa using h2⟩
  · rcases h' with h' | ⟨b, off, cap', e, hc', h3⟩
    · exact .inl h'
    · injection e with e1 e2 e3
      injection e1 with e1
      injection e1 with e1 e4
      subst e1
      subst e4
      exact .inr ⟨g, 0, cap, rfl, hc, ⟨hr g hg, by omega⟩, h3⟩
/-- an append at a step of a region that draws, by its run -/
theorem step_append_run {ops : Array Oper} {o : Oper} {a : Act} {w : World} {K : Act → World → Prop} {Q : Exit → Act → World → Prop} {E : Prop} (hgd : o.guard = none) (s x : Operand)
    (ho : o.op = .call { callee := .builtin .append, args := #[s, x], argTypes := #[22, 22] }) (hty : o.type = 22) (sv xv : Value) (hs : a.eval s = sv) (hx : a.eval x = xv) (v' : Value) (w' : World)
    (hr : (Builtin.append_ #[22, 22] 22 #[sv, xv]).run Tryd.prog w = .ok v' w') (h : K (a.put o.dst v') w') : if Region.wanted o (yielded ops a.tmps) = true then Oper.wp Tryd.prog o a w K Q else E := by
  have hw : Region.wanted o (yielded ops a.tmps) = true := by simp [Region.wanted, hgd]
  rw [if_pos hw]
  unfold Oper.wp execOp
  simp only [ho, hty, resolve, invoke, builtin, Sem.run_bind, Sem.run_pure, Result.andThen_ok, List.map_toArray, List.map_cons, List.map_nil, hs, hx, hr]
  exact h

set_option maxHeartbeats 4000000 in
set_option maxRecDepth 100000 in
theorem refBack_bad (lv v : Value) (L : List (List UInt8)) (E : List RawE) (w : World) (hL : Row w lv L) (hv : Eds w v E) (hl : E.length ≤ 1000000) (hl2 : L.length ≤ 1000000) (hbad : (Edits.errE L.length E).1 ≠ 0) : Calls Tryd.prog 16 #[lv, v] w fun e w' =>
    ∃ u g, e = .returned (.tuple #[u, g]) ∧ OwnE 54 w.heap.size w' u (backs L E) ∧ Told w.heap.size w' g wEdit (Edits.errE L.length E).2 (Edits.errE L.length E).1 ∧ Below w.heap.size w w' := by
  have e0 : backs L E = [] := if_neg hbad
  rw [e0]
  clear e0
  have HC := hide (fun (w1 : World) (h : Below w.heap.size w w1) => checkEdits_bad L.length E v w1 (hv.below h) hl hbad)
  obtain ⟨o, c0, rfl⟩ : ∃ a cap, lv = .slice a L.length cap := by
    rcases hL with ⟨a, cap, rfl, rfl⟩ | ⟨b, off, cap, rfl, _⟩
    · exact ⟨_, _, rfl⟩
    · exact ⟨_, _, rfl⟩
  obtain ⟨a', cap, rfl⟩ := hv.shape
  clear hv hL
  generalize (Edits.errE L.length E).1 = err at *
  generalize (Edits.errE L.length E).2 = k at *
  have t1 : ((err : Int) != 0) = true := by rw [bne_iff_ne]; omega
  have t2 : ¬ (err : Int) = 0 := by omega
  go_enter Tryd.func16, Tryd.ntmps16
  go_wp2_with (go_at_call 12; refine (unhide HC _ (alloc_below _ _)).mono ?_; rintro e w2 ⟨b, rfl, hb, h0, h1, hB⟩; obtain ⟨k0, k1, f0, f1, hs, hB2⟩ := res_cells (by simpa using hB))
  have hbw := cell_lt h0
  have b1 := alloc_below w2 (.cells #[.slice (some ⟨b, 0, none⟩) 1 1, .int .i64 (err : Int)] 30)
  have m0 := (b1.cell (p := ⟨w.heap.size, 0, none⟩) hs).trans k0
  have m1 := (b1.cell (p := ⟨w.heap.size, 1, none⟩) hs).trans k1
  have g0 := (b1.frozen (p := ⟨w.heap.size, 0, none⟩) hs).trans f0
  have g1 := (b1.frozen (p := ⟨w.heap.size, 1, none⟩) hs).trans f1
  have z0 := (b1.cell (p := ⟨b, 0, none⟩) hbw).trans h0
  have z1 := (b1.cell (p := ⟨b, 1, none⟩) hbw).trans h1
  have q0 : (w2.alloc (.cells #[.slice (some ⟨b, 0, none⟩) 1 1, .int .i64 (err : Int)] 30)).cell? ⟨w2.heap.size, 0, none⟩ = some (.slice (some ⟨b, 0, none⟩) 1 1) := by simp
  have q1 : (w2.alloc (.cells #[.slice (some ⟨b, 0, none⟩) 1 1, .int .i64 (err : Int)] 30)).cell? ⟨w2.heap.size, 1, none⟩ = some (.int .i64 (err : Int)) := by simp
  have HBB := hide (hB2.trans (b1.mono (by omega)))
  have hbb : w.heap.size + 1 ≤ b := by simpa using hb
  generalize w2.alloc (.cells #[.slice (some ⟨b, 0, none⟩) 1 1, .int .i64 (err : Int)] 30) = W at *
  generalize w2.heap.size = B2 at *
  have HZ := hide (And.intro z0 z1)
  clear k0 k1 f0 f1 h0 h1 hB hB2 b1 z0 z1
  go_region
  all_goals go_wp2
  all_goals exact bodyPost_ret (v := .tuple #[.slice none 0 0, .agg #[.slice (some ⟨b, 0, none⟩) 1 1, .int .i64 (err : Int)]]) (by simp [results, Tryd.results16, go_sem, m0, m1]) rfl ⟨_, _, rfl, OwnE.nil _ _ _, told_mk (err := err) hbad hbb (unhide HZ).1 (unhide HZ).2, ((below_drewN (unhide HBB) 1).setCell (Nat.le_refl _) _).setCell (Nat.le_refl _) _⟩

theorem ownE_fin {w w1 : World} {v u u' : Value} {E : List RawE} {X : List Cut} (hX : X.map (·.1) = E) (h : w1.ownsRow (w.heap.size + 1) 54 3 v X.length (flat X)) {r : Option Nat} (hr : ∀ c ∈ X, RowN w1 c.2 c.1.n r w.heap.size) : OwnE 54 w.heap.size ((w1.setCell ⟨w.heap.size, 0, none⟩ u).setCell ⟨w.heap.size, 1, none⟩ u') v E := by
  have h2 : ((w1.setCell ⟨w.heap.size, 0, none⟩ u).setCell ⟨w.heap.size, 1, none⟩ u').ownsRow (w.heap.size + 1) 54 3 v X.length (flat X) := ownsRow_setCell_below (ownsRow_setCell_below h (by simp) u) (by simp) u'
  refine ⟨X, hX, ?_, fun c hc => ?_⟩
  · obtain ⟨h3, h4⟩ := h2
    refine ⟨h3, ?_⟩
    rcases h4 with h4 | ⟨g, cap, cur, hv, hg, r⟩
    · exact .inl h4
    · exact .inr ⟨g, cap, cur, hv, by omega, r⟩
  · rcases hr c hc with h | ⟨b, off, cap, h1, h2, hne, h3⟩
    · exact .inl h
    · refine .inr ⟨b, off, cap, h1, h2, fun i hi => ?_⟩
      have hb : b ≠ w.heap.size := by omega
      rw [World.cell?_of_block (Below.heap_setCell _ _ _ _ hb), World.cell?_of_block (Below.heap_setCell _ _ _ _ hb)]
      exact h3 i hi

set_option maxHeartbeats 4000000 in
set_option maxRecDepth 100000 in
theorem refBack_ok (lv v : Value) (L : List (List UInt8)) (E : List RawE) (w : World) (hL : Row w lv L) (hv : Eds w v E) (hl : E.length ≤ 1000000) (hl2 : L.length ≤ 1000000) (hm : (made L E).length ≤ 1000000) (hok : (Edits.errE L.length E).1 = 0) : Calls Tryd.prog 16 #[lv, v] w fun e w' =>
    ∃ u g, e = .returned (.tuple #[u, g]) ∧ OwnE 54 w.heap.size w' u (backs L E) ∧ Told w.heap.size w' g wEdit (Edits.errE L.length E).2 (Edits.errE L.length E).1 ∧ Below w.heap.size w w' := by
  obtain ⟨i0, hi0, hz0, hz1, hz2⟩ := info_parts infoRef
  have e0 : backs L E = (Edits.bk L 0 0 (E.map Edits.nat)).map raw := if_pos hok
  have e1 : made L E = Edits.ap L 0 (E.map Edits.nat) := if_pos hok
  rw [e0]
  rw [e1] at hm
  clear e0 e1
  obtain ⟨hV, hE⟩ := Edits.vld_of L.length E (noBad _ E (by omega) hok)
  have HC := hide (fun (w1 : World) (h : Below w.heap.size w w1) => checkEdits_ok L.length E v w1 (hv.below h) hl hok)
  rw [hok]
  have HL := hide hL
  have HV := hide hv
  obtain ⟨o, c0, rfl⟩ : ∃ a cap, lv = .slice a L.length cap := by
    rcases hL with ⟨a, cap, rfl, rfl⟩ | ⟨b, off, cap, rfl, _⟩
    · exact ⟨_, _, rfl⟩
    · exact ⟨_, _, rfl⟩
  obtain ⟨a', cap, rfl⟩ := hv.shape
  clear hv hL
  go_enter Tryd.func16, Tryd.ntmps16
  go_wp2_with (go_at_call 12; refine (unhide HC _ (alloc_below _ _)).mono ?_; rintro e w2 ⟨rfl, hB⟩; obtain ⟨k0, k1, f0, f1, hs, hB2⟩ := res_cells (by simpa using hB))
  have b1 := alloc_below w2 (.cells #[.slice none 0 0, .int .i64 0] 30)
  have m0 := (b1.cell (p := ⟨w.heap.size, 0, none⟩) hs).trans k0
  have m1 := (b1.cell (p := ⟨w.heap.size, 1, none⟩) hs).trans k1
  have g0 := (b1.frozen (p := ⟨w.heap.size, 0, none⟩) hs).trans f0
  have g1 := (b1.frozen (p := ⟨w.heap.size, 1, none⟩) hs).trans f1
  have HBB := hide (hB2.trans (b1.mono (by omega)))
  have hBs : w.heap.size + 1 ≤ (w2.alloc (.cells #[.slice none 0 0, .int .i64 0] 30)).heap.size := Nat.le_trans hs b1.size
  generalize w2.alloc (.cells #[.slice none 0 0, .int .i64 0] 30) = W at *
  generalize w2.heap.size = B2 at *
  clear k0 k1 f0 f1 hB hB2 b1
  generalize hlv : Value.slice o L.length c0 = lv at *
  have HLV := hide hlv
  clear hlv
  have HE := hide hE
  have HM := hide hm
  clear hE hV hm
  go_loopw [7, 8, 9] (fun x y q wr => ∃ (i a p : Nat) (Y : Int) (X : List Cut), i ≤ E.length ∧ q = .int .i64 i ∧ y = .int .i64 Y ∧ Y = (p : Int) - (a : Int) ∧ a ≤ L.length ∧ p + (Edits.ap L a ((E.drop i).map Edits.nat)).length ≤ 1000000 ∧ X.length = i ∧ Hid (X.map (·.1) ++ (Edits.bk L a p ((E.drop i).map Edits.nat)).map raw = (Edits.bk L 0 0 (E.map Edits.nat)).map raw) ∧ Hid (∀ h : i < E.length, (a : Int) ≤ E[i].f) ∧ Hid (wr.ownsRow (w.heap.size + 1) 54 3 x X.length (flat X)) ∧ Hid (∀ c ∈ X, RowN wr c.2 c.1.n x.ownBlock w.heap.size) ∧ Hid (Below (w.heap.size + 1) W wr)) (fun _ _ q _ => E.length - (intOf q).toNat)
  case atStart => exact ⟨0, 0, 0, 0, [], Nat.zero_le _, rfl, rfl, rfl, Nat.zero_le _, by simpa using unhide HM, rfl, hide (by simp), hide (fun h => ((unhide HE) 0 h).1), hide (World.ownsRow_nil _ _ _ _), hide (fun c hc => by simp at hc), hide (Below.refl _ _)⟩
  case round =>
    rename_i wr _ _
    obtain ⟨i, a, p, Y, X, hi, rfl, rfl, hY, ha, hpl, hXl, HEQ, HAF, HOWN, HRS, HBW⟩ := hrel
    by_cases hlt : i < E.length
    · obtain ⟨e1, e2, e3, e4⟩ := unhide HE i hlt
      have haf := unhide HAF hlt
      have hlt2 : (i : Int) < E.length := by omega
      have HBX := hide (show Below w.heap.size w wr from (unhide HBB).trans ((unhide HBW).mono (by omega)))
      rcases unhide HV with ⟨_, _, _, hnil⟩ | ⟨b, off, cap', hval, hcap, hcells⟩
      · exact absurd hlt (by rw [hnil]; simp)
      obtain ⟨d0, d1, u, d2, hr⟩ := (hcells i hlt)
      have hbw := cell_lt d0
      injection hval with hv1 hv2 hv3
      subst hv1
      subst hv3
      have HNEXT := hide e4
      obtain ⟨ua, uc, rfl⟩ : ∃ x y, u = .slice x E[i].n.length y := by
        rcases hr with ⟨x, y, rfl, h⟩ | ⟨_, _, _, rfl, _⟩
        · exact ⟨x, y, by rw [h]; rfl⟩
        · exact ⟨_, _, rfl⟩
      clear hr hcells hv2 e4
      obtain ⟨F, hF⟩ : ∃ F : Nat, E[i].f = F := ⟨E[i].f.toNat, by omega⟩
      obtain ⟨T, hT⟩ : ∃ T : Nat, E[i].t = T := ⟨E[i].t.toNat, by omega⟩
      rw [hF] at d0 e1 e2 haf
      rw [hT] at d1 e2 e3
      have haF : a ≤ F := by omega
      have hFT : F ≤ T := by omega
      have hTL : T ≤ L.length := by omega
      have hap : (Edits.ap L a ((E.drop i).map Edits.nat)).length = (F - a) + E[i].n.length + (Edits.ap L T ((E.drop (i + 1)).map Edits.nat)).length := by
        rw [List.drop_eq_getElem_cons hlt, List.map_cons]
        show ((L.drop a).take (E[i].f.toNat - a) ++ E[i].n ++ Edits.ap L E[i].t.toNat _).length = _
        rw [hF, hT]
        simp
        omega
      have HBK : Hid ((Edits.bk L a p ((E.drop i).map Edits.nat)).map raw = ⟨(F : Int) + Y, (F : Int) + Y + E[i].n.length, (L.drop F).take (T - F)⟩ :: (Edits.bk L T (p + (F - a) + E[i].n.length) ((E.drop (i + 1)).map Edits.nat)).map raw) := hide (by
        rw [List.drop_eq_getElem_cons hlt, List.map_cons]
        show raw ⟨p + (E[i].f.toNat - a), p + (E[i].f.toNat - a) + E[i].n.length, (L.drop E[i].f.toNat).take (E[i].t.toNat - E[i].f.toNat)⟩ :: (Edits.bk L E[i].t.toNat (p + (E[i].f.toNat - a) + E[i].n.length) _).map raw = _
        rw [hF, hT]
        simp only [Int.toNat_natCast]
        congr 1
        unfold raw
        simp only
        congr 1
        · omega
        · omega)
      have HFT := hide (And.intro hF hT)
      clear hF hT
      have hsw : w.heap.size + 1 ≤ wr.heap.size := Nat.le_trans hBs (unhide HBW).size
      generalize hmm : E[i].n.length = m at *
      have hm1 : p + (F - a) + m ≤ 1000000 := by omega
      obtain ⟨Z, hZ⟩ : ∃ Z : Int, (F : Int) + Y = Z := ⟨_, rfl⟩
      have hZ0 : 0 ≤ Z := by omega
      have hZ1 : Z + m ≤ 1000000 := by omega
      have hY1 : -1000000 ≤ Y := by omega
      have hY2 : Y ≤ 1000000 := by omega
      obtain ⟨aa, cc, hlv, hcc, hrow⟩ := (unhide HL).cut F T hFT hTL
      have hsv : ∀ W' : World, (Instr.slice 22 lv (some (.int .i64 F)) (some (.int .i64 T)) none).run Tryd.prog W' = .ok (.slice (if cc = F then aa else aa.map (·.add F)) (T - F) (cc - F)) W' := fun W' => by rw [hlv]; exact run_slice2 aa _ cc F T hFT (by omega)
      generalize (if cc = F then aa else aa.map (·.add F)) = aa' at *
      generalize cc - F = cc' at *
      have xa : Below w.heap.size w (wr.alloc (.cells #[] 9)).drew := below_drewN ((unhide HBX).alloc (by omega) _) 1
      have ya : Below (w.heap.size + 1) W (wr.alloc (.cells #[] 9)).drew := below_drewN ((unhide HBW).alloc hsw _) 1
      have za : Below wr.heap.size wr (wr.alloc (.cells #[] 9)).drew := below_drewN (alloc_below wr _) 1
      have oa : Own wr.heap.size (wr.alloc (.cells #[] 9)).drew (.slice (some ⟨wr.heap.size, 0, none⟩) 0 0) [] := (World.ownsRow_lit wr #[] 0 (Nat.le_refl _) (by decide) rfl).drew
      have sa : wr.heap.size + 1 = (wr.alloc (.cells #[] 9)).drew.heap.size := by show _ = (wr.alloc _).heap.size; simp
      obtain ⟨v1, w1, hr1, ho1, hg1⟩ := append_row oa (hrow.below xa) (by omega) (by simp; omega)
      rw [List.nil_append] at ho1
      have y1 := ya.grown hg1 (by omega) (fun j hj => (World.ownsRow.lt oa j hj).1 |> Nat.le_trans hsw)
      have x1 : Below w.heap.size w w1 := (unhide HBB).trans (y1.mono (by omega))
      have z1 := za.grown hg1 (by omega) (fun j hj => (World.ownsRow.lt oa j hj).1)
      have k1 : w1.ownsRow (w.heap.size + 1) 54 3 u7 X.length (flat X) := owns_below (unhide HOWN) z1
      have s1 : w.heap.size + 1 ≤ w1.heap.size := Nat.le_trans hsw z1.size
      have c0 := (x1.cell (p := ⟨b, off + i * 3, none⟩) hbw).trans d0
      have c1 := (x1.cell (p := ⟨b, off + i * 3 + 1, none⟩) hbw).trans d1
      have c2 := (x1.cell (p := ⟨b, off + i * 3 + 2, none⟩) hbw).trans d2
      replace d0 := ((unhide HBX).cell (p := ⟨b, off + i * 3, none⟩) hbw).trans d0
      replace d1 := ((unhide HBX).cell (p := ⟨b, off + i * 3 + 1, none⟩) hbw).trans d1
      replace d2 := ((unhide HBX).cell (p := ⟨b, off + i * 3 + 2, none⟩) hbw).trans d2
      have rn := ho1.rowN u7.ownBlock w.heap.size (by omega) (fun j hj h => by have := (World.ownsRow.lt (unhide HOWN) j h.symm).2; omega)
      have rs : ∀ c ∈ X, RowN w1 c.2 c.1.n u7.ownBlock w.heap.size := fun c hc => (unhide HRS c hc).below z1
      have hfb : some b ≠ u7.ownBlock := fun h => by have := (World.ownsRow.lt (unhide HOWN) b h.symm).1; omega
      obtain ⟨A1, C1, hv1⟩ := ho1.shape
      generalize hn1 : ((L.drop F).take (T - F)).length = n1 at *
      subst hv1
      have hbw1 : b < w1.heap.size := by omega
      have HA := hide (And.intro rn (And.intro rs (And.intro y1 k1)))
      have HQ2 : Hid ((w1.alloc (.cells #[.int .i64 Z, .int .i64 (IntKind.i64.wrap (Z + m)), .slice A1 n1 C1] 54)).ownsRow (w.heap.size + 1) 54 3 u7 X.length (flat X)) := hide (World.ownsRow.alloc k1 _)
      have HQ4 : Hid (∀ j u, [Value.int .i64 Z, .int .i64 (IntKind.i64.wrap (Z + m)), .slice A1 n1 C1][j]? = some u → (w1.alloc (.cells #[.int .i64 Z, .int .i64 (IntKind.i64.wrap (Z + m)), .slice A1 n1 C1] 54)).cell? ((⟨w1.heap.size, 0, none⟩ : Addr).add j) = some u) := hide (World.news_of_block (cs := #[.int .i64 Z, .int .i64 (IntKind.i64.wrap (Z + m)), .slice A1 n1 C1]) (t := 54) (fr := (0, 0)) (by show (w1.heap.push _)[w1.heap.size]? = _; exact Array.getElem?_push_size))
      have HQ5 : Hid (∀ u ∈ [Value.int .i64 Z, .int .i64 (IntKind.i64.wrap (Z + m)), .slice A1 n1 C1], u.oneCell' = true) := hide (by intro u hu; simp at hu; rcases hu with rfl | rfl | rfl <;> rfl)
      have HQ6 : Hid (X.length + 1 ≤ maxLen) := hide (by unfold maxLen; omega)
      have HQ7 : Hid ((X.length + 1) * 40 ≤ 140737488355328) := hide (by omega)
      have HQ8 : Hid (w.heap.size + 1 ≤ (w1.alloc (.cells #[.int .i64 Z, .int .i64 (IntKind.i64.wrap (Z + m)), .slice A1 n1 C1] 54)).heap.size) := hide (by simp; omega)
      have HWR : Hid (IntKind.i64.wrap (Z + (m : Int)) = Z + m) := hide (by rw [IntKind.wrap_i64]; omega)
      have HD := hide (And.intro c0 (And.intro c1 c2))
      have HY := hide hY
      have HAP := hide hap
      have HZ := hide hZ
      have HF := hide hfb
      have HR1 := hide hr1
      clear xa ya za oa sa ho1 hg1 y1 x1 z1 k1 rn rs hrow hlv hcc hr1 hY hap hfb
      go_wp2_with fail
      go_region_held_law (fun W' => W'.cell? ⟨b, off + i * 3, none⟩ = some (.int .i64 (F : Int)) ∧ W'.cell? ⟨b, off + i * 3 + 1, none⟩ = some (.int .i64 (T : Int)) ∧ W'.cell? ⟨b, off + i * 3 + 2, none⟩ = some (.slice ua m uc)) (go_keep)
        (first
          | (refine step_append_run rfl _ _ rfl rfl _ _ rfl rfl (.slice A1 n1 C1) w1 (unhide HR1) ?_)
          | (refine step_append_lies _ rfl _ _ _ rfl (w.heap.size + 1) 54 i0 _ 3 40 Tryd.underlying26 hi0 hz0 hz1 hz2 rfl (by decide) u7 X.length (flat X) rfl (unhide HQ2) ⟨w1.heap.size, 0, none⟩ 1 1 [.int .i64 Z, .int .i64 (IntKind.i64.wrap (Z + m)), .slice A1 n1 C1] rfl rfl (unhide HQ4) (unhide HQ5) (by decide) (unhide HQ6) (unhide HQ7) (unhide HQ8) _ rfl ?_; intro g cap' w4 hown' hgrow hat hglt; have e0 := (hgrow.cell_far ⟨b, off + i * 3, none⟩ (by simp; omega) (unhide HF)); have e1 := (hgrow.cell_far ⟨b, off + i * 3 + 1, none⟩ (by simp; omega) (unhide HF)); have e2 := (hgrow.cell_far ⟨b, off + i * 3 + 2, none⟩ (by simp; omega) (unhide HF)); rw [(alloc_below w1 _).cell (p := ⟨b, off + i * 3, none⟩) hbw1, (unhide HD).1] at e0; rw [(alloc_below w1 _).cell (p := ⟨b, off + i * 3 + 1, none⟩) hbw1, (unhide HD).2.1] at e1; rw [(alloc_below w1 _).cell (p := ⟨b, off + i * 3 + 2, none⟩) hbw1, (unhide HD).2.2] at e2; have HOW := hide hown'; have HGR := hide hgrow; have HAT := hide hat; clear hown' hgrow hat; simp only [List.getElem_toArray, List.getElem_cons_succ, List.getElem_cons_zero]))
      go_wp2_with fail
      go_quiet (fail)
      go_wp2
      go_roundw
      case rel =>
        obtain ⟨rn, rs, y1, k1⟩ := unhide HA
        have hgr := unhide HGR
        have hr' : ∀ b', b' < (w1.alloc (.cells #[.int .i64 Z, .int .i64 (IntKind.i64.wrap (Z + m)), .slice A1 n1 C1] 54)).heap.size → some b' ≠ u7.ownBlock → some b' ≠ some g := fun b' hb' hne h => by
          rcases unhide HAT with h2 | h2
          · exact hne (h.trans h2.symm)
          · injection h with h; omega
        have hyy := unhide HY
        have hap' := unhide HAP
        have hown4 := unhide HOW
        rw [unhide HWR] at hown4
        refine ⟨i + 1, T, p + (F - a) + m, _, X ++ [(⟨Z, Z + m, (L.drop F).take (T - F)⟩, .slice A1 n1 C1)], by omega, by go_num, rfl, by omega, hTL, by omega, by simp [hXl], hide ?_, hide ?_, hide ?_, hide ?_, hide ?_⟩
        · rw [← unhide HEQ, unhide HBK, unhide HZ]
          simp [List.map_append]
        · intro h
          have := unhide HNEXT h
          rw [(unhide HFT).2] at this
          exact Int.le_of_lt this
        · rw [flat_snoc, List.length_append, ← hXl]
          exact hown4
        · intro c hc
          refine RowN.below ?_ (below_drewN (Below.refl _ _) nq)
          rcases List.mem_append.1 hc with h | h
          · exact ((rs c h).below (alloc_below w1 _)).grown hgr hr'
          · rw [List.mem_singleton.1 h]
            exact (rn.below (alloc_below w1 _)).grown hgr hr'
        · exact below_drewN ((y1.alloc s1 _).grown hgr (by simp; omega) (fun j hj => (World.ownsRow.lt k1 j hj).1)) nq
      case measure => simp [intOf]; omega
    · have hnil : E.drop i = [] := List.drop_of_length_le (by omega)
      have HEQ2 : Hid (X.map (·.1) = (Edits.bk L 0 0 (E.map Edits.nat)).map raw) := hide (by
        have := unhide HEQ
        rw [hnil] at this
        simpa [Edits.bk] using this)
      clear hnil hpl
      have b1 := unhide HBW
      have x1 : Below w.heap.size w wr := (unhide HBB).trans (b1.mono (by omega))
      have n0 := (b1.cell (p := ⟨w.heap.size, 0, none⟩) (Nat.lt_succ_self _)).trans m0
      have n1 := (b1.cell (p := ⟨w.heap.size, 1, none⟩) (Nat.lt_succ_self _)).trans m1
      have l0 := (b1.frozen (p := ⟨w.heap.size, 0, none⟩) (Nat.lt_succ_self _)).trans g0
      have l1 := (b1.frozen (p := ⟨w.heap.size, 1, none⟩) (Nat.lt_succ_self _)).trans g1
      have H3 := hide x1
      clear x1 b1
      go_wp2
      exact bodyPost_ret (v := .tuple #[u7, .agg #[.slice none 0 0, .int .i64 0]]) (by simp [results, Tryd.results16, go_sem, n0, n1]) rfl ⟨_, _, rfl, ownE_fin (unhide HEQ2) (unhide HOWN) (unhide HRS), .inl ⟨rfl, rfl⟩, ((unhide H3).setCell (Nat.le_refl _) _).setCell (Nat.le_refl _) _⟩

theorem refBack_any (lv v : Value) (L : List (List UInt8)) (E : List RawE) (w : World) (hL : Row w lv L) (hv : Eds w v E) (hl : E.length ≤ 1000000) (hl2 : L.length ≤ 1000000) (hm : (made L E).length ≤ 1000000) : Calls Tryd.prog 16 #[lv, v] w fun e w' =>
    ∃ u g, e = .returned (.tuple #[u, g]) ∧ OwnE 54 w.heap.size w' u (backs L E) ∧ Told w.heap.size w' g wEdit (Edits.errE L.length E).2 (Edits.errE L.length E).1 ∧ Below w.heap.size w w' := by
  by_cases h : (Edits.errE L.length E).1 = 0
  · exact refBack_ok lv v L E w hL hv hl hl2 hm h
  · exact refBack_bad lv v L E w hL hv hl hl2 h
end Go.Proofs.YtcfbigkmhboepaaDoor.Line
