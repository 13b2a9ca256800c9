/- The contract of the project's Back. -/
import Derived.Test.YtcfbigkmhboepaaDoorApplyD
import Derived.Test.YtcfbigkmhboepaaDoorCopyD
import Derived.Test.YtcfbigkmhboepaaDoorOwnE
import Derived.Test.YtcfbigkmhboepaaDoorBacks
import Derived.Deep.AppendLies
namespace Go.Proofs.YtcfbigkmhboepaaDoor.Line
open Go.ChangeShapes Go.WideShapes Go.ChangeAt Go.RowKit
set_option linter.unusedVariables false

/-- one edit more behind a row of edits of the call s own -/
theorem append_edit {base : Nat} {w : World} {s : Value} {X : List Cut} (hs : w.ownsRow base 50 3 s X.length (flat X)) (f t : Int) (A : Option Addr) (n C : Nat) (ls : List (List UInt8)) (hb : base ≤ w.heap.size) (hl : X.length + 1 ≤ 1000000) :
    ∃ v' w', (Builtin.append_ #[23, 23] 23 #[s, .slice (some ⟨w.heap.size, 0, none⟩) 1 1]).run Tryd.prog (w.alloc (.cells #[.int .i64 f, .int .i64 t, .slice A n C] 50)) = .ok v' w' ∧ w'.ownsRow base 50 3 v' (X.length + 1) (flat (X ++ [(⟨f, t, ls⟩, .slice A n C)])) ∧ (w.alloc (.cells #[.int .i64 f, .int .i64 t, .slice A n C] 50)).grownBy w' s.ownBlock := by
  obtain ⟨i0, hi, hz0, hz1, hz2⟩ := info_parts infoEdit
  obtain ⟨v', w', hr, ho, hgr, _⟩ := run_append_own (P := Tryd.prog) (w.alloc (.cells #[.int .i64 f, .int .i64 t, .slice A n C] 50)) base 23 23 50 i0 _ 3 40 Tryd.underlying23 hi hz0 hz1 hz2 rfl (by decide) s X.length (flat X) (World.ownsRow.alloc hs _) ⟨w.heap.size, 0, none⟩ 1 1 [.int .i64 f, .int .i64 t, .slice A n C] rfl
    (World.news_of_block (cs := #[.int .i64 f, .int .i64 t, .slice A n C]) (t := 50) (fr := (0, 0)) (by show (w.heap.push _)[w.heap.size]? = _; exact Array.getElem?_push_size))
    (by intro u hu; simp at hu; rcases hu with rfl | rfl | rfl <;> rfl) (by unfold maxLen; omega) (by omega) (by simp; omega)
  exact ⟨v', w', hr, by rw [flat_snoc]; exact ho, hgr⟩
/-- an append of edits in a plain region, by its run -/
theorem wpList_append_runE {ops : Array Oper} {rest : List Oper} {o : Oper} {a : Act} {w : World} {Q : Exit → Act → World → Prop} (hgd : o.guard = none) (s x : Operand)
    (ho : o.op = .call { callee := .builtin .append, args := #[s, x], argTypes := #[23, 23] }) (hty : o.type = 23) (sv xv : Value) (hs : a.eval s = sv) (hx : a.eval x = xv) (v' : Value) (w' : World)
    (hr : (Builtin.append_ #[23, 23] 23 #[sv, xv]).run Tryd.prog w = .ok v' w') (h : wpList Tryd.prog ops Q rest (a.put o.dst v') w') : wpList Tryd.prog ops Q (o :: rest) a w := by
  refine wpList_plain hgd fun K hK => ?_
  unfold Oper.wp execOp
  simp only [ho, hty, resolve, invoke, builtin, Sem.run_bind, Sem.run_pure, Result.andThen_ok, List.map_toArray, List.map_cons, List.map_nil, hs, hx, hr]
  exact hK _ _ h
/-- lines of the call s own, behind an append of an edit -/
theorem Own.grownE {base base' : Nat} {w w' : World} {s v : Value} {ls : List (List UInt8)} {n : Nat} {xs : List Value} (h : Own base w s ls) (hv : w.ownsRow base' 50 3 v n xs) (hg : w.grownBy w' v.ownBlock) : Own base w' s ls := by
  obtain ⟨h1, h2⟩ := h
  refine ⟨h1, ?_⟩
  rcases h2 with h2 | ⟨g, cap, cur, hs, hb, hh, r⟩
  · exact .inl h2
  · refine .inr ⟨g, cap, cur, hs, hb, ?_, r⟩
    have hlt : g < w.heap.size := by
      rcases Nat.lt_or_ge g w.heap.size with h | h
      · exact h
      · rw [Array.getElem?_eq_none h] at hh; cases hh
    rw [hg.block g hlt ?_]
    · exact hh
    · intro e
      rcases hv.2 with ⟨rfl, _⟩ | ⟨g', cap', cur', rfl, hb', hh', _⟩
      · cases e
      · injection e with e
        subst e
        rw [hh] at hh'
        injection hh' with hh'
        injection hh' with _ hh'
        cases hh'
theorem Own.weaken {base base' : Nat} {w : World} {s : Value} {ls : List (List UInt8)} (h : Own base w s ls) (hb : base' ≤ base) : Own base' w s ls := by
  obtain ⟨h1, h2⟩ := h
  refine ⟨h1, ?_⟩
  rcases h2 with h2 | ⟨g, cap, cur, hs, hg, r⟩
  · exact .inl h2
  · exact .inr ⟨g, cap, cur, hs, Nat.le_trans hb hg, r⟩

theorem BoxE.far {w w' : World} {b : Nat} {f t : Int} {u : Value} {row : Option Nat} (h : BoxE w b f t u) (hg : w.grownBy w' row) (hne : some b ≠ row) : BoxE w' b f t u := by
  unfold BoxE
  rw [hg.block b h.lt hne]
  exact h

set_option maxHeartbeats 4000000 in
set_option maxRecDepth 100000 in
theorem back_bad (lv v : Value) (L : List (List UInt8)) (E : List RawE) (w : World) (hG : Glob w) (hL : Row w lv L) (hv : Eds w v E) (hl : E.length ≤ 1000000) (hl2 : L.length ≤ 1000000) (hbad : (Edits.errE L.length E).1 ≠ 0) : Calls Tryd.prog 15 #[lv, v] w fun e w' =>
    ∃ u g, e = .returned (.tuple #[u, g]) ∧ OwnE 50 w.heap.size w' u (backs L E) ∧ Says w.heap.size w' g wEdit (Edits.errE L.length E).2 (Edits.errE L.length E).1 ∧ Below w.heap.size w w' := by
  have e0 : backs L E = [] := if_neg hbad
  rw [e0]
  clear e0
  have HC := hide (fun (w1 : World) (h : Below w.heap.size w w1) => check_any L.length E v w1 (hv.below h) (by omega))
  obtain ⟨o, c0, rfl⟩ : ∃ a cap, lv = .slice a L.length cap := by
    rcases hL with ⟨a, cap, rfl, rfl⟩ | ⟨b, off, cap, rfl, _⟩
    · exact ⟨_, _, rfl⟩
    · exact ⟨_, _, rfl⟩
  obtain ⟨a', cap, rfl⟩ := hv.shape
  clear hv hL
  generalize (Edits.errE L.length E).1 = err at *
  generalize (Edits.errE L.length E).2 = k at *
  have HG := hide hG
  clear hG
  go_enter Tryd.func15, Tryd.ntmps15
  go_wp2_with (first
    | (go_at_call 18; refine (unhide HC _ (alloc_below _ _)).mono ?_; rintro e w2 ⟨g, rfl, hT, hB⟩; obtain ⟨k0, f0, hs, hB2⟩ := ptr_cells hB; obtain ⟨p, rfl, HAS⟩ := as_says (T0 := w.heap.size) hT (by simp) ((unhide HG).below hB2) k0 f0 hbad; replace HAS := hide HAS; have HB2 := hide hB2; clear hT hB hB2)
    | (go_at_call 25; refine (unhide HAS).mono ?_; rintro e w3 ⟨rfl, k3, hS, hB3⟩; have HS := hide hS; have HB3 := hide hB3; clear hS hB3))
  go_region
  all_goals go_wp2
  all_goals exact bodyPost_ret (v := .tuple #[.slice none 0 0, .iface 56 (.pointer (some p))]) (by simp [results, Tryd.results15, go_sem]) rfl ⟨_, _, rfl, OwnE.nil _ _ _, ((unhide HS).mono (by simp)).below (below_drewN (Below.refl _ _) 1), below_drewN ((unhide HB2).trans (unhide HB3)) 1⟩

set_option maxHeartbeats 4000000 in
set_option maxRecDepth 100000 in
theorem back_ok (lv v : Value) (L : List (List UInt8)) (E : List RawE) (w : World) (hL : Row w lv L) (hv : Eds w v E) (hl : E.length ≤ 1000000) (hl2 : L.length ≤ 1000000) (hm : (made L E).length ≤ 1000000) (hok : (Edits.errE L.length E).1 = 0) : Calls Tryd.prog 15 #[lv, v] w fun e w' =>
    ∃ u g, e = .returned (.tuple #[u, g]) ∧ OwnE 50 w.heap.size w' u (backs L E) ∧ Says w.heap.size w' g wEdit (Edits.errE L.length E).2 (Edits.errE L.length E).1 ∧ Below w.heap.size w w' := by
  have e0 : backs L E = (Edits.bk L 0 0 (E.map Edits.nat)).map raw := if_pos hok
  have e1 : made L E = Edits.ap L 0 (E.map Edits.nat) := if_pos hok
  rw [e0]
  rw [e1] at hm
  clear e0 e1
  obtain ⟨hV, hE⟩ := Edits.vld_of L.length E (noBad _ E (by omega) hok)
  have HC := hide (fun (w1 : World) (h : Below w.heap.size w w1) => check_ok L.length E v w1 (hv.below h) hl hok)
  have HAN := hide (fun W => as_nil (.iface 58 (.pointer (some ⟨w.heap.size, 0, none⟩))) W)
  rw [hok]
  have HL := hide hL
  have HV := hide hv
  obtain ⟨o, c0, rfl⟩ : ∃ a cap, lv = .slice a L.length cap := by
    rcases hL with ⟨a, cap, rfl, rfl⟩ | ⟨b, off, cap, rfl, _⟩
    · exact ⟨_, _, rfl⟩
    · exact ⟨_, _, rfl⟩
  obtain ⟨a', cap, rfl⟩ := hv.shape
  clear hv hL
  go_enter Tryd.func15, Tryd.ntmps15
  go_wp2_with (first
    | (go_at_call 18; refine (unhide HC _ (alloc_below _ _)).mono ?_; rintro e w2 ⟨rfl, hB⟩; obtain ⟨k0, f0, hs, hB2⟩ := ptr_cells hB; have HBB := hide hB2; clear hB hB2 k0 f0)
    | (go_at_call 25; refine (unhide HAN _).mono ?_; rintro e w3 ⟨rfl, rfl⟩))
  generalize hlv : Value.slice o L.length c0 = lv at *
  have HLV := hide hlv
  clear hlv
  have HE := hide hE
  have HM := hide hm
  clear hE hV hm
  go_loopw [7, 8, 23] (fun x y q wr => ∃ (i a p : Nat) (Y : Int) (X : List Cut), i ≤ E.length ∧ q = .int .i64 i ∧ y = .int .i64 Y ∧ Y = (p : Int) - (a : Int) ∧ a ≤ L.length ∧ p + (Edits.ap L a ((E.drop i).map Edits.nat)).length ≤ 1000000 ∧ X.length = i ∧ Hid (X.map (·.1) ++ (Edits.bk L a p ((E.drop i).map Edits.nat)).map raw = (Edits.bk L 0 0 (E.map Edits.nat)).map raw) ∧ Hid (∀ h : i < E.length, (a : Int) ≤ E[i].f) ∧ Hid (wr.ownsRow w.heap.size 50 3 x X.length (flat X)) ∧ Hid (∀ c ∈ X, Own w.heap.size wr c.2 c.1.n) ∧ Hid (Below w.heap.size w wr)) (fun _ _ q _ => E.length - (intOf q).toNat)
  case atStart => exact ⟨0, 0, 0, 0, [], Nat.zero_le _, rfl, rfl, rfl, Nat.zero_le _, by simpa using unhide HM, rfl, hide (by simp), hide (fun h => ((unhide HE) 0 h).1), hide (World.ownsRow_nil _ _ _ _), hide (fun c hc => by simp at hc), HBB⟩
  case round =>
    rename_i wr _ _
    obtain ⟨i, a, p, Y, X, hi, rfl, rfl, hY, ha, hpl, hXl, HEQ, HAF, HOWN, HRS, HBW⟩ := hrel
    by_cases hlt : i < E.length
    · obtain ⟨e1, e2, e3, e4⟩ := unhide HE i hlt
      have haf := unhide HAF hlt
      have hlt2 : (i : Int) < E.length := by omega
      rcases unhide HV with ⟨_, _, _, hnil⟩ | ⟨b, off, cap', hval, hcap, hcells⟩
      · exact absurd hlt (by rw [hnil]; simp)
      obtain ⟨d0, d1, u, d2, hr⟩ := (hcells i hlt)
      have hbw := cell_lt d0
      replace d0 := ((unhide HBW).cell (p := ⟨b, off + i * 3, none⟩) hbw).trans d0
      replace d1 := ((unhide HBW).cell (p := ⟨b, off + i * 3 + 1, none⟩) hbw).trans d1
      replace d2 := ((unhide HBW).cell (p := ⟨b, off + i * 3 + 2, none⟩) hbw).trans d2
      injection hval with hv1 hv2 hv3
      subst hv1
      subst hv3
      have HNEXT := hide e4
      obtain ⟨ua, uc, rfl⟩ : ∃ x y, u = .slice x E[i].n.length y := by
        rcases hr with ⟨x, y, rfl, h⟩ | ⟨_, _, _, rfl, _⟩
        · exact ⟨x, y, by rw [h]; rfl⟩
        · exact ⟨_, _, rfl⟩
      clear hr hcells hv2 e4
      obtain ⟨F, hF⟩ : ∃ F : Nat, E[i].f = F := ⟨E[i].f.toNat, by omega⟩
      obtain ⟨T, hT⟩ : ∃ T : Nat, E[i].t = T := ⟨E[i].t.toNat, by omega⟩
      rw [hF] at d0 e1 e2 haf
      rw [hT] at d1 e2 e3
      have haF : a ≤ F := by omega
      have hFT : F ≤ T := by omega
      have hTL : T ≤ L.length := by omega
      have hap : (Edits.ap L a ((E.drop i).map Edits.nat)).length = (F - a) + E[i].n.length + (Edits.ap L T ((E.drop (i + 1)).map Edits.nat)).length := by
        rw [List.drop_eq_getElem_cons hlt, List.map_cons]
        show ((L.drop a).take (E[i].f.toNat - a) ++ E[i].n ++ Edits.ap L E[i].t.toNat _).length = _
        rw [hF, hT]
        simp
        omega
      have HBK : Hid ((Edits.bk L a p ((E.drop i).map Edits.nat)).map raw = ⟨(F : Int) + Y, (F : Int) + Y + E[i].n.length, (L.drop F).take (T - F)⟩ :: (Edits.bk L T (p + (F - a) + E[i].n.length) ((E.drop (i + 1)).map Edits.nat)).map raw) := hide (by
        rw [List.drop_eq_getElem_cons hlt, List.map_cons]
        show raw ⟨p + (E[i].f.toNat - a), p + (E[i].f.toNat - a) + E[i].n.length, (L.drop E[i].f.toNat).take (E[i].t.toNat - E[i].f.toNat)⟩ :: (Edits.bk L E[i].t.toNat (p + (E[i].f.toNat - a) + E[i].n.length) _).map raw = _
        rw [hF, hT]
        simp only [Int.toNat_natCast]
        congr 1
        unfold raw
        simp only
        congr 1
        · omega
        · omega)
      have HFT := hide (And.intro hF hT)
      clear hF hT
      have hsw : w.heap.size ≤ wr.heap.size := (unhide HBW).size
      generalize hmm : E[i].n.length = m at *
      have hm1 : p + (F - a) + m ≤ 1000000 := by omega
      obtain ⟨Z, hZ⟩ : ∃ Z : Int, (F : Int) + Y = Z := ⟨_, rfl⟩
      have hZ0 : 0 ≤ Z := by omega
      have hZ1 : Z + m ≤ 1000000 := by omega
      have hY1 : -1000000 ≤ Y := by omega
      have hY2 : Y ≤ 1000000 := by omega
      obtain ⟨aa, cc, hlv, hcc, hrow⟩ := (unhide HL).cut F T hFT hTL
      have hsv : ∀ W' : World, (Instr.slice 22 lv (some (.int .i64 F)) (some (.int .i64 T)) none).run Tryd.prog W' = .ok (.slice (if cc = F then aa else aa.map (·.add F)) (T - F) (cc - F)) W' := fun W' => by rw [hlv]; exact run_slice2 aa _ cc F T hFT (by omega)
      generalize (if cc = F then aa else aa.map (·.add F)) = aa' at *
      generalize cc - F = cc' at *
      have HBA := hide (show Below w.heap.size w (wr.alloc (.cells #[.int .i64 (F : Int), .int .i64 (T : Int), .slice ua m uc] 50)) from (unhide HBW).alloc hsw _)
      have HCP := hide (fun (W : World) (h : Below w.heap.size w W) => copied_any (.slice aa' (T - F) cc') ((L.drop F).take (T - F)) W (hrow.below h) (by simp; omega))
      have HBX := hide (BoxE.mk wr (F : Int) (T : Int) (.slice ua m uc))
      have HY := hide hY
      have HZ := hide hZ
      have HAP := hide hap
      clear hrow hlv hcc hY hap
      have HNE : Hid (some wr.heap.size ≠ u7.ownBlock) := hide (fun h => by have := (World.ownsRow.lt (unhide HOWN) _ h.symm).2; omega)
      go_wp2_with (first
        | (go_at_call 26; refine (unhide HCP _ (unhide HBA)).mono ?_; rintro e w2 ⟨cu, rfl, hco, hcB⟩; obtain ⟨A1, C1, rfl⟩ := hco.shape; generalize hn1 : ((L.drop F).take (T - F)).length = n1 at hco; clear hn1; have y2 : Below w.heap.size w w2 := (unhide HBA).trans (hcB.mono (by simp; omega)); have k2 : w2.ownsRow w.heap.size 50 3 u7 X.length (flat X) := owns_below (owns_below (unhide HOWN) (alloc_below wr _)) hcB; obtain ⟨v4, w4, hr4, ho4, hg4⟩ := append_edit k2 Z (Z + m) A1 n1 C1 ((L.drop F).take (T - F)) y2.size (by omega); obtain ⟨-, l1, -⟩ := ((((unhide HBX).below hcB).below (alloc_below w2 _)).far hg4 (unhide HNE)).cells; have H4 := hide (And.intro hco (And.intro hcB (And.intro y2 (And.intro k2 (And.intro ho4 hg4))))); clear hco hcB y2 k2 ho4 hg4)
        | (at_builtin; refine wpList_append_runE rfl _ _ rfl rfl _ _ rfl rfl v4 w4 hr4 ?_))
      go_roundw
      case rel =>
        obtain ⟨hco, hcB, y2, k2, ho4, hg4⟩ := unhide H4
        have hY := unhide HY
        have hap := unhide HAP
        have k3 := World.ownsRow.alloc k2 (.cells #[.int .i64 Z, .int .i64 (Z + m), .slice A1 n1 C1] 50)
        refine ⟨i + 1, T, p + (F - a) + m, _, X ++ [(⟨Z, Z + m, (L.drop F).take (T - F)⟩, .slice A1 n1 C1)], by omega, by go_num, rfl, by omega, hTL, by omega, by simp [hXl], hide ?_, hide ?_, hide ?_, hide ?_, hide ?_⟩
        · rw [← unhide HEQ, unhide HBK, unhide HZ]
          simp [List.map_append]
        · intro h
          have := unhide HNEXT h
          rw [(unhide HFT).2] at this
          exact Int.le_of_lt this
        · rw [List.length_append]
          exact ho4
        · intro c hc
          rcases List.mem_append.1 hc with h | h
          · exact ((((unhide HRS c h).below (alloc_below wr _)).below hcB).below (alloc_below w2 _)).grownE k3 hg4
          · rw [List.mem_singleton.1 h]
            exact ((hco.weaken (by simp; omega)).below (alloc_below w2 _)).grownE k3 hg4
        · exact (y2.alloc y2.size _).grown hg4 (by have := y2.size; simp; omega) (fun j hj => (World.ownsRow.lt k2 j hj).1)
      case measure => simp [intOf]; omega
    · have hnil : E.drop i = [] := List.drop_of_length_le (by omega)
      have HEQ2 : Hid (X.map (·.1) = (Edits.bk L 0 0 (E.map Edits.nat)).map raw) := hide (by
        have := unhide HEQ
        rw [hnil] at this
        simpa [Edits.bk] using this)
      clear hnil hpl
      go_wp2
      exact bodyPost_ret (v := .tuple #[u7, .nilIface]) (by simp [results, Tryd.results15, go_sem]) rfl ⟨_, _, rfl, ⟨X, unhide HEQ2, unhide HOWN, fun c hc => (unhide HRS c hc).row⟩, .inl ⟨rfl, rfl⟩, unhide HBW⟩

theorem back_any (lv v : Value) (L : List (List UInt8)) (E : List RawE) (w : World) (hG : Glob w) (hL : Row w lv L) (hv : Eds w v E) (hl : E.length ≤ 1000000) (hl2 : L.length ≤ 1000000) (hm : (made L E).length ≤ 1000000) : Calls Tryd.prog 15 #[lv, v] w fun e w' =>
    ∃ u g, e = .returned (.tuple #[u, g]) ∧ OwnE 50 w.heap.size w' u (backs L E) ∧ Says w.heap.size w' g wEdit (Edits.errE L.length E).2 (Edits.errE L.length E).1 ∧ Below w.heap.size w w' := by
  by_cases h : (Edits.errE L.length E).1 = 0
  · exact back_ok lv v L E w hL hv hl hl2 hm h
  · exact back_bad lv v L E w hG hL hv hl hl2 h
end Go.Proofs.YtcfbigkmhboepaaDoor.Line
