/- Contracts of the reference's At and Split. -/
import Derived.Test.YtlebbbkmbljnoaaDoorRef
namespace Go.Proofs.YtlebbbkmbljnoaaDoor.Line
open Go.ChangeShapes Go.WideShapes Go.ChangeAt Go.RowKit Plain
set_option linter.unusedVariables false

set_option maxHeartbeats 1000000 in
theorem at_any (word : List UInt8) (k err : Nat) (w : World) : Calls Tryd.prog 18 #[.string ⟨word.toArray⟩, .int .i64 k, .int .i64 err] w fun e w' => ∃ b, e = .returned (.agg #[.slice (some ⟨b, 0, none⟩) 1 1, .int .i64 err]) ∧ w.heap.size ≤ b ∧ w'.cell? ⟨b, 0, none⟩ = some (.string ⟨word.toArray⟩) ∧ w'.cell? ⟨b, 1, none⟩ = some (.int .i64 k) ∧ Below w.heap.size w w' := by
  go_enter Tryd.func18, Tryd.ntmps18
  go_wp2
  exact bodyPost_ret (v := .agg #[.slice (some ⟨w.heap.size + 1, 0, none⟩) 1 1, .int .i64 err]) (by simp [results, Tryd.results18, go_sem]) rfl ⟨_, rfl, by omega, by simp, by simp, ((Below.refl _ _).alloc (Nat.le_refl _) _).alloc (by simp) _⟩

theorem okB_yes (c : UInt8) (h : okB c = true) : (¬ (c.toNat : Int) < 32 ∧ ¬ 126 < (c.toNat : Int)) ∨ (c.toNat : Int) = 9 ∨ (c.toNat : Int) = 10 := by
  unfold okB at h; simp at h; omega
theorem okB_no (c : UInt8) (h : okB c = false) : ((c.toNat : Int) < 32 ∨ (¬ (c.toNat : Int) < 32 ∧ 126 < (c.toNat : Int))) ∧ ((c.toNat : Int) != 9) = true ∧ ((c.toNat : Int) != 10) = true ∧ ¬ (c.toNat : Int) = 9 ∧ ¬ (c.toNat : Int) = 10 := by
  unfold okB at h; simp at h
  refine ⟨?_, ?_, ?_, ?_, ?_⟩
  · rcases Int.lt_or_le (c.toNat : Int) 32 with h1 | h1
    · exact .inl h1
    · right; constructor <;> omega
  · rw [bne_iff_ne]; omega
  · rw [bne_iff_ne]; omega
  · omega
  · omega

/-- the block of the named result, behind a call that wrote new memory alone -/
theorem res_cells {w w2 : World} (hB : Below (w.heap.size + 1) (w.alloc (.cells #[.slice none 0 0, .int .i64 0] 30)) w2) :
    w2.cell? ⟨w.heap.size, 0, none⟩ = some (.slice none 0 0) ∧ w2.cell? ⟨w.heap.size, 1, none⟩ = some (.int .i64 0) ∧ w2.frozen? ⟨w.heap.size, 0, none⟩ = false ∧ w2.frozen? ⟨w.heap.size, 1, none⟩ = false ∧ w.heap.size + 1 ≤ w2.heap.size ∧ Below w.heap.size w w2 := by
  refine ⟨?_, ?_, ?_, ?_, by have := hB.size; simpa using this, ((Below.refl _ _).alloc (Nat.le_refl _) _).trans (hB.mono (by omega))⟩
  · rw [hB.cell (p := ⟨w.heap.size, 0, none⟩) (by simp)]; simp
  · rw [hB.cell (p := ⟨w.heap.size, 1, none⟩) (by simp)]; simp
  · rw [hB.frozen (p := ⟨w.heap.size, 0, none⟩) (by simp)]; simp
  · rw [hB.frozen (p := ⟨w.heap.size, 1, none⟩) (by simp)]; simp
theorem told_mk {w w2 : World} {b k err : Nat} {word : List UInt8} {u u' : Value} (he : err ≠ 0) (hb : w.heap.size + 1 ≤ b) (h0 : w2.cell? ⟨b, 0, none⟩ = some (.string ⟨word.toArray⟩)) (h1 : w2.cell? ⟨b, 1, none⟩ = some (.int .i64 k)) :
    Told w.heap.size ((w2.setCell ⟨w.heap.size, 0, none⟩ u).setCell ⟨w.heap.size, 1, none⟩ u') (.agg #[.slice (some ⟨b, 0, none⟩) 1 1, .int .i64 err]) word k err := by
  have h : Told (w.heap.size + 1) w2 (.agg #[.slice (some ⟨b, 0, none⟩) 1 1, .int .i64 err]) word k err := .inr ⟨he, b, hb, rfl, h0, h1⟩
  exact ((h.setCell ⟨w.heap.size, 0, none⟩ (by simp) u).setCell ⟨w.heap.size, 1, none⟩ (by simp) u').mono (by omega)

theorem own_fin {w w1 : World} {v u u' : Value} {ls : List (List UInt8)} (h : Own (w.heap.size + 1) w1 v ls) : Own w.heap.size ((w1.setCell ⟨w.heap.size, 0, none⟩ u).setCell ⟨w.heap.size, 1, none⟩ u') v ls := by
  have h2 : Own (w.heap.size + 1) ((w1.setCell ⟨w.heap.size, 0, none⟩ u).setCell ⟨w.heap.size, 1, none⟩ u') v ls := ownsRow_setCell_below (ownsRow_setCell_below h (by simp) u) (by simp) u'
  obtain ⟨h3, h4⟩ := h2
  refine ⟨h3, ?_⟩
  rcases h4 with h4 | ⟨g, cap, cur, hv, hg, r⟩
  · exact .inl h4
  · exact .inr ⟨g, cap, cur, hv, by omega, r⟩

set_option maxHeartbeats 1000000 in
theorem refSplit_long (l : List UInt8) (w : World) (hl : 65536 < l.length) (hm : l.length ≤ 9223372036854775807) : Calls Tryd.prog 10 #[.string ⟨l.toArray⟩] w fun e w' =>
    ∃ v g, e = .returned (.tuple #[v, g]) ∧ Own w.heap.size w' v (rowS l) ∧ Told w.heap.size w' g (wordS l) (atS l) (errS l) ∧ Below w.heap.size w w' := by
  obtain ⟨e1, e2, e3, e4⟩ := errS_long l hl
  rw [e1, e2, e3, e4]
  clear e1 e2 e3 e4
  have hcon := fun w => at_any [116, 101, 120, 116] 0 4 w
  have HC := hide hcon
  clear hcon
  go_enter Tryd.func10, Tryd.ntmps10
  go_wp2_with (go_at_call 18; refine (unhide HC _).mono ?_; rintro e w2 ⟨b, rfl, hb, h0, h1, hB⟩; obtain ⟨c0, c1, f0, f1, hs, hB2⟩ := res_cells (by simpa using hB))
  exact bodyPost_ret (v := .tuple #[.slice none 0 0, .agg #[.slice (some ⟨b, 0, none⟩) 1 1, .int .i64 4]]) (by simp [results, Tryd.results10, go_sem, c0, c1]) rfl ⟨_, _, rfl, Own.nil _ _, told_mk (err := 4) (by decide) (by simpa using hb) h0 h1, (hB2.setCell (by simp) _).setCell (by simp) _⟩

set_option maxHeartbeats 4000000 in
set_option maxRecDepth 100000 in
theorem refSplit_short (l : List UInt8) (w : World) (hl : ¬ 65536 < l.length) : Calls Tryd.prog 10 #[.string ⟨l.toArray⟩] w fun e w' =>
    ∃ v g, e = .returned (.tuple #[v, g]) ∧ Own w.heap.size w' v (rowS l) ∧ Told w.heap.size w' g (wordS l) (atS l) (errS l) ∧ Below w.heap.size w w' := by
  have HC := hide (fun w => refLines_any l w (by omega))
  have HLN := lines_length_le l
  have HM := hide (lines_mem_le l)
  have HOKS := hide (errS_ok l hl)
  have HBAD := hide (errS_bad l hl)
  have HAT := hide (err_at (lines l))
  generalize lines l = ls at *
  go_enter Tryd.func10, Tryd.ntmps10
  go_wp2_with (go_at_call 21; refine (unhide HC _).mono ?_; rintro e w1 ⟨v, rfl, hown, hB⟩; obtain ⟨c0, c1, f0, f1, hs, hB2⟩ := res_cells (by simpa using hB))
  have hs' : w.heap.size < w1.heap.size := by omega
  rcases hown.row with ⟨a, cap, rfl, hnil⟩ | ⟨b, off, cap, rfl, hcap, hcells⟩
  · subst hnil
    have HFIN := hide ((unhide HOKS) (by simp))
    refine wp_loop_rounds 1 ?_
    rw [rounds_succ]
    go_wp2
    exact bodyPost_ret (v := .tuple #[.slice a 0 cap, .agg #[.slice none 0 0, .int .i64 0]]) (by simp [results, Tryd.results10, go_sem, c0, c1]) rfl ⟨_, _, rfl, by rw [(unhide HFIN).2]; exact own_fin (by simpa using hown), .inl ⟨(unhide HFIN).1, rfl⟩, (hB2.setCell (by simp) _).setCell (by simp) _⟩
  · have hbw : ∀ i (h : i < ls.length), b < w1.heap.size := fun i h => cell_lt (hcells i h)
    have HCE := hide hcells
    have HOW := hide hown
    have HB2 := hide hB2
    clear hcells hown hB hB2
    go_loop [5] (fun q => ∃ i : Nat, i ≤ ls.length ∧ q = .int .i64 i ∧ Hid (∀ j (hj : j < ls.length), j < i → bad ls[j] = 0)) (fun q => ls.length - (intOf q).toNat)
    case atStart => exact ⟨0, Nat.zero_le _, rfl, hide (fun j hj h => by omega)⟩
    case round =>
      obtain ⟨i, hi, rfl, HNO⟩ := hrel
      by_cases hlt : i < ls.length
      · have hc := unhide HCE i hlt
        have hll := unhide HM _ (List.getElem_mem hlt)
        have HAT2 := hide (unhide HAT i hlt (fun j hj => HNO.out j (by omega) hj))
        have HS0 := hide (fun (h : bad ls[i] = 0) (j : Nat) (hj : j < ls.length) (hji : j < i + 1) => show bad ls[j] = 0 from by
          by_cases e : j = i
          · subst e; exact h
          · exact HNO.out j hj (by omega))
        generalize ls[i] = c at *
        by_cases hcl : 200 < c.length
        · have HE := hide (unhide HBAD i 4 (by rw [((unhide HAT2) (by rw [bad_long c hcl]; decide)).1, bad_long c hcl]) ((unhide HAT2) (by rw [bad_long c hcl]; decide)).2 (by decide))
          have HA := hide (fun w => at_any [108, 105, 110, 101] i 4 w)
          go_wp2_with (go_at_call 18; refine (unhide HA _).mono ?_; rintro e w2 ⟨b2, rfl, hb2, h0, h1, hB3⟩; have d0 := (hB3.cell (p := ⟨w.heap.size, 0, none⟩) hs).trans c0; have d1 := (hB3.cell (p := ⟨w.heap.size, 1, none⟩) hs).trans c1; have g0 := (hB3.frozen (p := ⟨w.heap.size, 0, none⟩) hs).trans f0; have g1 := (hB3.frozen (p := ⟨w.heap.size, 1, none⟩) hs).trans f1)
          have hB2 := unhide HB2
          obtain ⟨e1, e2, e3, e4⟩ := unhide HE
          rw [e1, e2, e3, e4]
          exact bodyPost_ret (v := .tuple #[.slice none 0 0, .agg #[.slice (some ⟨b2, 0, none⟩) 1 1, .int .i64 4]]) (by simp [results, Tryd.results10, go_sem, d0, d1]) rfl ⟨_, _, rfl, Own.nil _ _, told_mk (err := 4) (by decide) (Nat.le_trans hs hb2) h0 h1, ((hB2.trans (hB3.mono (by omega))).setCell (by simp) _).setCell (by simp) _⟩
        · have hcl2 : (c.length : Int) ≤ 200 := by omega
          go_wp2
          go_loop [6] (fun q => ∃ k : Nat, k ≤ c.length ∧ q = .int .i64 k ∧ Hid (∀ j (hj : j < c.length), j < k → okB c[j] = true)) (fun q => c.length - (intOf q).toNat)
          case atStart => exact ⟨0, Nat.zero_le _, rfl, hide (fun j hj h => by omega)⟩
          case round =>
            obtain ⟨k, hk, rfl, HOK⟩ := hrel
            by_cases hkl : k < c.length
            · have hs2 : k < (⟨c.toArray⟩ : ByteArray).size := hkl
              cases hb : okB c[k]
              · have HE := hide (unhide HBAD i 3 (by rw [((unhide HAT2) (by rw [bad_word c hcl k hkl hb]; decide)).1, bad_word c hcl k hkl hb]) ((unhide HAT2) (by rw [bad_word c hcl k hkl hb]; decide)).2 (by decide))
                have HA := hide (fun w => at_any [108, 105, 110, 101] i 3 w)
                have hno := okB_no ((⟨c.toArray⟩ : ByteArray)[k]'hs2) hb
                clear hb
                obtain ⟨n0, n3, n4, n5, n6⟩ := hno
                rcases n0 with n1 | ⟨n1, n2⟩
                all_goals
                  go_wp2_with (go_at_call 18; refine (unhide HA _).mono ?_; rintro e w2 ⟨b2, rfl, hb2, h0, h1, hB3⟩; have d0 := (hB3.cell (p := ⟨w.heap.size, 0, none⟩) hs).trans c0; have d1 := (hB3.cell (p := ⟨w.heap.size, 1, none⟩) hs).trans c1; have g0 := (hB3.frozen (p := ⟨w.heap.size, 0, none⟩) hs).trans f0; have g1 := (hB3.frozen (p := ⟨w.heap.size, 1, none⟩) hs).trans f1)
                  have hB2 := unhide HB2
                  obtain ⟨e1, e2, e3, e4⟩ := unhide HE
                  rw [e1, e2, e3, e4]
                  exact bodyPost_ret (v := .tuple #[.slice none 0 0, .agg #[.slice (some ⟨b2, 0, none⟩) 1 1, .int .i64 3]]) (by simp [results, Tryd.results10, go_sem, d0, d1]) rfl ⟨_, _, rfl, Own.nil _ _, told_mk (err := 3) (by decide) (Nat.le_trans hs hb2) h0 h1, ((hB2.trans (hB3.mono (by omega))).setCell (by simp) _).setCell (by simp) _⟩
              · have hyes := okB_yes ((⟨c.toArray⟩ : ByteArray)[k]'hs2) hb
                have HB := hide hb
                clear hb
                rcases hyes with ⟨n1, n2⟩ | n1 | n1
                all_goals
                  go_wp2
                  go_round
                  case rel => exact ⟨k + 1, by omega, by go_num, hide (fun j hj hjk => by
                    by_cases e : j = k
                    · subst e; exact unhide HB
                    · exact HOK.out j hj (by omega))⟩
                  case measure => simp [intOf]; omega
            · have H0 := hide (bad_none c hcl (fun j hj => HOK.out j hj (by omega)))
              go_wp2
              go_round
              case rel => exact ⟨i + 1, by omega, by go_num, hide (unhide HS0 (unhide H0))⟩
              case measure => simp [intOf]; omega
      · have HFIN := hide ((unhide HOKS) (fun d hd => by
          obtain ⟨j, hj, rfl⟩ := List.getElem_of_mem hd
          exact HNO.out j hj (by omega)))
        go_wp2
        have hown := unhide HOW
        have hB2 := unhide HB2
        exact bodyPost_ret (v := .tuple #[.slice (some ⟨b, off, none⟩) ls.length cap, .agg #[.slice none 0 0, .int .i64 0]]) (by simp [results, Tryd.results10, go_sem, c0, c1]) rfl ⟨_, _, rfl, by rw [(unhide HFIN).2]; exact own_fin (by simpa using hown), .inl ⟨(unhide HFIN).1, rfl⟩, (hB2.setCell (by simp) _).setCell (by simp) _⟩

theorem refSplit_any (l : List UInt8) (w : World) (hm : l.length ≤ 9223372036854775807) : Calls Tryd.prog 10 #[.string ⟨l.toArray⟩] w fun e w' =>
    ∃ v g, e = .returned (.tuple #[v, g]) ∧ Own w.heap.size w' v (rowS l) ∧ Told w.heap.size w' g (wordS l) (atS l) (errS l) ∧ Below w.heap.size w w' := by
  by_cases h : 65536 < l.length
  · exact refSplit_long l w h hm
  · exact refSplit_short l w h
end Go.Proofs.YtlebbbkmbljnoaaDoor.Line
