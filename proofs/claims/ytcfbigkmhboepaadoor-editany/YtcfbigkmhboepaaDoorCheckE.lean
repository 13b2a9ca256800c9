/- The contract of the reference's CheckEdits. -/
import Derived.Test.YtcfbigkmhboepaaDoorAtB
import Derived.Test.YtcfbigkmhboepaaDoorMemE
import Derived.BigQuiet
import Derived.Deep.QuietTactic
namespace Go.Proofs.YtcfbigkmhboepaaDoor.Line
open Go.ChangeShapes Go.WideShapes Go.ChangeAt Go.RowKit
set_option linter.unusedVariables false

/-- the block of the named result, behind a call that wrote new memory alone -/
theorem res_cells {w w2 : World} (hB : Below (w.heap.size + 1) (w.alloc (.cells #[.slice none 0 0, .int .i64 0] 30)) w2) :
    w2.cell? ⟨w.heap.size, 0, none⟩ = some (.slice none 0 0) ∧ w2.cell? ⟨w.heap.size, 1, none⟩ = some (.int .i64 0) ∧ w2.frozen? ⟨w.heap.size, 0, none⟩ = false ∧ w2.frozen? ⟨w.heap.size, 1, none⟩ = false ∧ w.heap.size + 1 ≤ w2.heap.size ∧ Below w.heap.size w w2 := by
  refine ⟨?_, ?_, ?_, ?_, by have := hB.size; simpa using this, ((Below.refl _ _).alloc (Nat.le_refl _) _).trans (hB.mono (by omega))⟩
  · rw [hB.cell (p := ⟨w.heap.size, 0, none⟩) (by simp)]; simp
  · rw [hB.cell (p := ⟨w.heap.size, 1, none⟩) (by simp)]; simp
  · rw [hB.frozen (p := ⟨w.heap.size, 0, none⟩) (by simp)]; simp
  · rw [hB.frozen (p := ⟨w.heap.size, 1, none⟩) (by simp)]; simp
theorem told_mk {w w2 : World} {b k err : Nat} {word : List UInt8} {u u' : Value} (he : err ≠ 0) (hb : w.heap.size + 1 ≤ b) (h0 : w2.cell? ⟨b, 0, none⟩ = some (.string ⟨word.toArray⟩)) (h1 : w2.cell? ⟨b, 1, none⟩ = some (.int .i64 k)) :
    Told w.heap.size ((w2.setCell ⟨w.heap.size, 0, none⟩ u).setCell ⟨w.heap.size, 1, none⟩ u') (.agg #[.slice (some ⟨b, 0, none⟩) 1 1, .int .i64 err]) word k err := by
  have h : Told (w.heap.size + 1) w2 (.agg #[.slice (some ⟨b, 0, none⟩) 1 1, .int .i64 err]) word k err := .inr ⟨he, b, hb, rfl, h0, h1⟩
  exact ((h.setCell ⟨w.heap.size, 0, none⟩ (by simp) u).setCell ⟨w.heap.size, 1, none⟩ (by simp) u').mono (by omega)
abbrev wEdit : List UInt8 := [101, 100, 105, 116]

set_option maxHeartbeats 1000000 in
theorem checkEdits_neg (N : Int) (E : List RawE) (v : Value) (w : World) (hN : N < 0) : Calls Tryd.prog 12 #[.int .i64 N, v] w fun e w' =>
    ∃ g, e = .returned g ∧ Told w.heap.size w' g wEdit (Edits.errE N E).2 (Edits.errE N E).1 ∧ Below w.heap.size w w' := by
  rw [Edits.errE_neg N E hN]
  have HC := hide (fun w => at_any wEdit 0 1 w)
  go_enter Tryd.func12, Tryd.ntmps12
  go_wp2_with (go_at_call 24; refine (unhide HC _).mono ?_; rintro e w2 ⟨b, rfl, hb, h0, h1, hB⟩; obtain ⟨c0, c1, f0, f1, hs, hB2⟩ := res_cells (by simpa using hB))
  exact bodyPost_ret (v := .agg #[.slice (some ⟨b, 0, none⟩) 1 1, .int .i64 1]) (by simp [results, Tryd.results12, go_sem, c0, c1]) rfl ⟨_, rfl, told_mk (err := 1) (by decide) (by simpa using hb) h0 h1, (hB2.setCell (by simp) _).setCell (by simp) _⟩

set_option maxHeartbeats 4000000 in
set_option maxRecDepth 100000 in
theorem checkEdits_any (N : Int) (E : List RawE) (v : Value) (w : World) (hv : Eds w v E) (hl : E.length ≤ 9223372036854775806) : Calls Tryd.prog 12 #[.int .i64 N, v] w fun e w' =>
    ∃ g, e = .returned g ∧ Told w.heap.size w' g wEdit (Edits.errE N E).2 (Edits.errE N E).1 ∧ Below w.heap.size w w' := by
  by_cases hN : N < 0
  · exact checkEdits_neg N E v w hN
  rcases hv with ⟨a, cap, rfl, rfl⟩ | ⟨b, off, cap, rfl, hcap, hcells⟩
  · have e0 := Edits.errE_none N ([] : List RawE) hN (fun j h => by simp at h)
    rw [e0]
    clear e0
    go_enter Tryd.func12, Tryd.ntmps12
    go_wp2
    refine wp_loop_rounds 1 ?_
    rw [rounds_succ]
    go_wp2
    exact bodyPost_ret (v := .agg #[.slice none 0 0, .int .i64 0]) (by simp [results, Tryd.results12, go_sem]) rfl ⟨_, rfl, .inl ⟨rfl, rfl⟩, alloc_below _ _⟩
  · have HC := hide (fun i (h : i < E.length) => (hcells i h).below (alloc_below w (.cells #[.slice none 0 0, .int .i64 0] 30)))
    have hbw : ∀ i (h : i < E.length), b < w.heap.size := fun i h => cell_lt (hcells i h).1
    have HW := hide hbw
    clear hcells hbw
    have HNO := hide (Edits.errE_none N E hN)
    have HAT := hide (Edits.errE_at N E hN)
    go_enter Tryd.func12, Tryd.ntmps12
    go_wp2
    obtain ⟨c0, c1, f0, f1, hs, hB2⟩ := res_cells (w := w) (Below.refl _ _)
    generalize w.alloc (.cells #[.slice none 0 0, .int .i64 0] 30) = W at *
    have HB2 := hide hB2
    clear hB2
    go_loopw [5] (fun q wr => ∃ i : Nat, i ≤ E.length ∧ q = .int .i64 i ∧ Hid (∀ j, j < i → Edits.badI N E j = 0) ∧ ∃ n, wr = W.drewN n) (fun q _ => E.length - (intOf q).toNat)
    case atStart => exact ⟨0, Nat.zero_le _, rfl, hide (fun j h => by omega), 0, rfl⟩
    case round =>
      obtain ⟨i, hi, rfl, HB, n, rfl⟩ := hrel
      by_cases hlt : i < E.length
      · obtain ⟨d0, d1, u, d2, -⟩ := unhide HC i hlt
        have HBA := hide (Edits.badI_arg N E i hlt)
        have hlt2 : (i : Int) < E.length := by omega
        have hATi := hide (unhide HAT i hlt (unhide HB))
        have HNX : Hid (∀ h : 0 < i, ¬ (E[i].f < 0 ∨ E[i].t < E[i].f ∨ N < E[i].t) → Edits.badI N E i = if E[i].f ≤ (E[i - 1]'(by omega)).t then 7 else 0) := hide (fun h k => by
          obtain ⟨m, rfl⟩ : ∃ m, i = m + 1 := ⟨i - 1, by omega⟩
          exact Edits.badI_next N E m hlt k)
        have HFI : Hid (i = 0 → ¬ (E[i].f < 0 ∨ E[i].t < E[i].f ∨ N < E[i].t) → Edits.badI N E i = 0) := hide (fun h => by subst h; exact Edits.badI_first N E hlt)
        have hpc : Hid (∀ h : 0 < i, ∃ t0 : Int, t0 = (E[i - 1]'(by omega)).t ∧ W.cell? ⟨b, off + (i - 1) * 3 + 1, none⟩ = some (.int .i64 t0)) := hide (fun h => ⟨_, rfl, (unhide HC (i - 1) (by omega)).2.1⟩)
        generalize hf : E[i].f = ff at *
        generalize ht : E[i].t = tt at *
        clear hf ht
        by_cases g1 : ff < 0
        · have q1 : decide (ff < 0) = true := decide_eq_true g1
          have HE := hide (unhide HBA (.inl g1))
          have HA := hide (fun w => at_any wEdit i 1 w)
          go_wp2_with fail
          go_quiet (fail)
          go_wp2_with (go_at_call 24; refine (unhide HA _).mono ?_; rintro e w2 ⟨b2, rfl, hb2, h0, h1, hB3⟩; have k0 := (hB3.cell (p := ⟨w.heap.size, 0, none⟩) hs).trans c0; have k1 := (hB3.cell (p := ⟨w.heap.size, 1, none⟩) hs).trans c1; have l0 := (hB3.frozen (p := ⟨w.heap.size, 0, none⟩) hs).trans f0; have l1 := (hB3.frozen (p := ⟨w.heap.size, 1, none⟩) hs).trans f1)
          have hB2 := unhide HB2
          rw [unhide hATi (by rw [unhide HE]; decide), unhide HE]
          exact bodyPost_ret (v := .agg #[.slice (some ⟨b2, 0, none⟩) 1 1, .int .i64 1]) (by simp [results, Tryd.results12, go_sem, k0, k1]) rfl ⟨_, rfl, told_mk (err := 1) (by decide) (Nat.le_trans hs hb2) h0 h1, (((below_drewN hB2 _).trans (hB3.mono (by show _ ≤ W.heap.size; omega))).setCell (by simp) _).setCell (by simp) _⟩
        have q1 : decide (ff < 0) = false := decide_eq_false g1
        by_cases g2 : tt < ff
        · have q2 : decide (tt < ff) = true := decide_eq_true g2
          have HE := hide (unhide HBA (.inr (.inl g2)))
          have HA := hide (fun w => at_any wEdit i 1 w)
          go_wp2_with fail
          go_quiet (fail)
          go_wp2_with (go_at_call 24; refine (unhide HA _).mono ?_; rintro e w2 ⟨b2, rfl, hb2, h0, h1, hB3⟩; have k0 := (hB3.cell (p := ⟨w.heap.size, 0, none⟩) hs).trans c0; have k1 := (hB3.cell (p := ⟨w.heap.size, 1, none⟩) hs).trans c1; have l0 := (hB3.frozen (p := ⟨w.heap.size, 0, none⟩) hs).trans f0; have l1 := (hB3.frozen (p := ⟨w.heap.size, 1, none⟩) hs).trans f1)
          have hB2 := unhide HB2
          rw [unhide hATi (by rw [unhide HE]; decide), unhide HE]
          exact bodyPost_ret (v := .agg #[.slice (some ⟨b2, 0, none⟩) 1 1, .int .i64 1]) (by simp [results, Tryd.results12, go_sem, k0, k1]) rfl ⟨_, rfl, told_mk (err := 1) (by decide) (Nat.le_trans hs hb2) h0 h1, (((below_drewN hB2 _).trans (hB3.mono (by show _ ≤ W.heap.size; omega))).setCell (by simp) _).setCell (by simp) _⟩
        have q2 : decide (tt < ff) = false := decide_eq_false g2
        by_cases g3 : N < tt
        · have q3 : decide (N < tt) = true := decide_eq_true g3
          have HE := hide (unhide HBA (.inr (.inr g3)))
          have HA := hide (fun w => at_any wEdit i 1 w)
          go_wp2_with fail
          go_quiet (fail)
          go_wp2_with (go_at_call 24; refine (unhide HA _).mono ?_; rintro e w2 ⟨b2, rfl, hb2, h0, h1, hB3⟩; have k0 := (hB3.cell (p := ⟨w.heap.size, 0, none⟩) hs).trans c0; have k1 := (hB3.cell (p := ⟨w.heap.size, 1, none⟩) hs).trans c1; have l0 := (hB3.frozen (p := ⟨w.heap.size, 0, none⟩) hs).trans f0; have l1 := (hB3.frozen (p := ⟨w.heap.size, 1, none⟩) hs).trans f1)
          have hB2 := unhide HB2
          rw [unhide hATi (by rw [unhide HE]; decide), unhide HE]
          exact bodyPost_ret (v := .agg #[.slice (some ⟨b2, 0, none⟩) 1 1, .int .i64 1]) (by simp [results, Tryd.results12, go_sem, k0, k1]) rfl ⟨_, rfl, told_mk (err := 1) (by decide) (Nat.le_trans hs hb2) h0 h1, (((below_drewN hB2 _).trans (hB3.mono (by show _ ≤ W.heap.size; omega))).setCell (by simp) _).setCell (by simp) _⟩
        have q3 : decide (N < tt) = false := decide_eq_false g3
        have hok : ¬ (ff < 0 ∨ tt < ff ∨ N < tt) := by omega
        by_cases g4 : i = 0
        · have HE := hide (unhide HFI g4 hok)
          have q4 : decide (0 < i) = false := by simp; omega
          clear g4
          go_wp2_with fail
          go_quiet (fail)
          go_wp2_with fail
          go_quiet (fail)
          go_wp2
          go_roundw
          case rel => exact ⟨i + 1, by omega, by go_num, hide (fun j hj => by
            by_cases e : j = i
            · subst e; exact unhide HE
            · exact unhide HB j (by omega)), _, rfl⟩
          case measure => simp [intOf]; omega
        · obtain ⟨t0, ht0, d3⟩ := unhide hpc (by omega)
          have HE := hide (unhide HNX (by omega) hok)
          rw [← ht0] at HE
          clear ht0
          obtain ⟨m, rfl⟩ : ∃ m, i = m + 1 := ⟨i - 1, by omega⟩
          simp only [Nat.add_sub_cancel] at d3
          clear g4
          have q6 : (m : Int) < E.length := by omega
          by_cases g5 : ff ≤ t0
          · have HE2 := unhide HE
            rw [if_pos g5] at HE2
            have HE := hide HE2
            clear HE2
            have HA : Hid (∀ w, Calls Tryd.prog 24 #[.string ⟨wEdit.toArray⟩, .int .i64 ((m : Int) + 1), .int .i64 7] w fun e w' => ∃ b, e = .returned (.agg #[.slice (some ⟨b, 0, none⟩) 1 1, .int .i64 7]) ∧ w.heap.size ≤ b ∧ w'.cell? ⟨b, 0, none⟩ = some (.string ⟨wEdit.toArray⟩) ∧ w'.cell? ⟨b, 1, none⟩ = some (.int .i64 ((m + 1 : Nat) : Int)) ∧ Below w.heap.size w w') := hide (fun w => at_any wEdit (m + 1) 7 w)
            go_wp2_with fail
            go_quiet (fail)
            go_wp2_with fail
            go_quiet (fail)
            go_wp2_with (go_at_call 24; refine (unhide HA _).mono ?_; rintro e w2 ⟨b2, rfl, hb2, h0, h1, hB3⟩; have k0 := (hB3.cell (p := ⟨w.heap.size, 0, none⟩) hs).trans c0; have k1 := (hB3.cell (p := ⟨w.heap.size, 1, none⟩) hs).trans c1; have l0 := (hB3.frozen (p := ⟨w.heap.size, 0, none⟩) hs).trans f0; have l1 := (hB3.frozen (p := ⟨w.heap.size, 1, none⟩) hs).trans f1)
            have hB2 := unhide HB2
            rw [unhide hATi (by rw [unhide HE]; decide), unhide HE]
            exact bodyPost_ret (v := .agg #[.slice (some ⟨b2, 0, none⟩) 1 1, .int .i64 7]) (by simp [results, Tryd.results12, go_sem, k0, k1]) rfl ⟨_, rfl, told_mk (err := 7) (by decide) (Nat.le_trans hs hb2) h0 h1, (((below_drewN hB2 _).trans (hB3.mono (by show _ ≤ W.heap.size; omega))).setCell (by simp) _).setCell (by simp) _⟩
          · have HE2 := unhide HE
            rw [if_neg g5] at HE2
            have HE := hide HE2
            clear HE2
            go_wp2_with fail
            go_quiet (fail)
            go_wp2_with fail
            go_quiet (fail)
            go_wp2
            go_roundw
            case rel => exact ⟨m + 1 + 1, by omega, by go_num, hide (fun j hj => by
              by_cases e : j = m + 1
              · subst e; exact unhide HE
              · exact unhide HB j (by omega)), _, rfl⟩
            case measure => simp [intOf]; omega
      · have HE := hide ((unhide HNO) (fun j hj => unhide HB j (by omega)))
        go_wp2
        have hB2 := unhide HB2
        rw [unhide HE]
        exact bodyPost_ret (v := .agg #[.slice none 0 0, .int .i64 0]) (by simp [results, Tryd.results12, go_sem, c0, c1]) rfl ⟨_, rfl, .inl ⟨rfl, rfl⟩, ((below_drewN hB2 _).setCell (by simp) _).setCell (by simp) _⟩
end Go.Proofs.YtcfbigkmhboepaaDoor.Line
