/- The contract of the project's Check. -/
import Derived.Test.YtcfbigkmhboepaaDoorChkD
import Derived.Test.YtcfbigkmhboepaaDoorCheckE
namespace Go.Proofs.YtcfbigkmhboepaaDoor.Line
open Go.ChangeShapes Go.WideShapes Go.ChangeAt Go.RowKit
set_option linter.unusedVariables false

theorem says_mk {B : Nat} {w : World} {k err : Nat} {word : List UInt8} (he : err ≠ 0) (hb : B ≤ w.heap.size) : Says B (w.alloc (.cells #[.string ⟨word.toArray⟩, .int .i64 k, .iface 61 (.int .i64 err)] 63)) (.iface 56 (.pointer (some ⟨w.heap.size, 0, none⟩))) word k err :=
  .inr ⟨he, w.heap.size, hb, rfl, by simp, by simp, by simp⟩

theorem badI_is (N : Int) (E : List RawE) (i : Nat) (hi : i < E.length) (ah : Int) (h0 : i = 0 → ah = -1) (h1 : ∀ h : 0 < i, ah = (E[i - 1]'(by omega)).t) : (if E[i].f < 0 ∨ E[i].t < E[i].f ∨ N < E[i].t then 1 else if E[i].f ≤ ah then 7 else 0) = Edits.badI N E i := by
  by_cases g : E[i].f < 0 ∨ E[i].t < E[i].f ∨ N < E[i].t
  · rw [if_pos g, Edits.badI_arg N E i hi g]
  · rw [if_neg g]
    by_cases hz : i = 0
    · have := h0 hz
      subst hz
      rw [Edits.badI_first N E hi g, if_neg (by omega)]
    · obtain ⟨m, rfl⟩ : ∃ m, i = m + 1 := ⟨i - 1, by omega⟩
      rw [Edits.badI_next N E m hi g, h1 (by omega)]
      rfl

set_option maxHeartbeats 4000000 in
set_option maxRecDepth 100000 in
theorem check_any (N : Int) (E : List RawE) (v : Value) (w : World) (hv : Eds w v E) (hl : E.length ≤ 9223372036854775806) : Calls Tryd.prog 18 #[.int .i64 N, v] w fun e w' =>
    ∃ g, e = .returned g ∧ Says w.heap.size w' g wEdit (Edits.errE N E).2 (Edits.errE N E).1 ∧ Below w.heap.size w w' := by
  by_cases hN : N < 0
  · rw [Edits.errE_neg N E hN]
    have q1 : decide (N < 0) = true := decide_eq_true hN
    go_enter Tryd.func18, Tryd.ntmps18
    go_wp2
    go_ret
    exact ⟨_, rfl, says_mk (k := 0) (err := 1) (by decide) (Nat.le_refl _), alloc_below _ _⟩
  have q1 : decide (N < 0) = false := decide_eq_false hN
  rcases hv with ⟨a, cap, rfl, rfl⟩ | ⟨b, off, cap, rfl, hcap, hcells⟩
  · rw [Edits.errE_none N ([] : List RawE) hN (fun j h => by simp at h)]
    go_enter Tryd.func18, Tryd.ntmps18
    go_wp2
    refine wp_loop_rounds 1 ?_
    rw [rounds_succ]
    go_wp2
    go_ret
    exact ⟨_, rfl, .inl ⟨rfl, rfl⟩, Below.refl _ _⟩
  · have HC := hide hcells
    clear hcells
    have HNO := hide (Edits.errE_none N E hN)
    have HAT := hide (Edits.errE_at N E hN)
    go_enter Tryd.func18, Tryd.ntmps18
    go_wp2
    go_loopw [5, 17] (fun x q wr => ∃ (i : Nat) (ah : Int), i ≤ E.length ∧ q = .int .i64 i ∧ x = .int .i64 ah ∧ Hid (i = 0 → ah = -1) ∧ Hid (∀ (h : 0 < i) (h2 : i - 1 < E.length), ah = E[i - 1].t) ∧ Hid (∀ j, j < i → Edits.badI N E j = 0) ∧ Hid (Below w.heap.size w wr)) (fun _ q _ => E.length - (intOf q).toNat)
    case atStart => exact ⟨0, -1, Nat.zero_le _, rfl, rfl, hide (fun _ => rfl), hide (fun h => by omega), hide (fun j h => by omega), hide (Below.refl _ _)⟩
    case round =>
      rename_i wr _ _
      obtain ⟨i, ah, hi, rfl, rfl, HA0, HA1, HB, HBW⟩ := hrel
      by_cases hlt : i < E.length
      · have HBI := hide (badI_is N E i hlt ah (unhide HA0) (fun h => unhide HA1 h (by omega)))
        have hATi := hide (unhide HAT i hlt (unhide HB))
        obtain ⟨d0, d1, u, d2, hr⟩ := unhide HC i hlt
        have hbw := cell_lt d0
        replace d0 := ((unhide HBW).cell (p := ⟨b, off + i * 3, none⟩) hbw).trans d0
        replace d1 := ((unhide HBW).cell (p := ⟨b, off + i * 3 + 1, none⟩) hbw).trans d1
        replace d2 := ((unhide HBW).cell (p := ⟨b, off + i * 3 + 2, none⟩) hbw).trans d2
        obtain ⟨ua, m, uc, rfl⟩ : ∃ a m cap, u = .slice a m cap := by
          rcases hr with ⟨a, cap, rfl, h⟩ | ⟨b, off, cap, rfl, _⟩
          · exact ⟨a, _, cap, rfl⟩
          · exact ⟨_, _, _, rfl⟩
        clear hr
        have hsz := (unhide HBW).size
        have HCH := hide (fun W => chk_any N ah E[i].f E[i].t ua m uc W)
        rw [unhide HBI] at HCH
        generalize hff : E[i].f = ff at *
        generalize htt : E[i].t = tt at *
        clear hff HBI
        by_cases hk : Edits.badI N E i = 0
        · rw [hk, show errV 0 = .nilIface from rfl] at HCH
          go_wp2_with (go_at_call 28; refine (unhide HCH _).mono ?_; rintro e w2 ⟨rfl, hB⟩; have k1 : w2.cell? ⟨wr.heap.size, 1, none⟩ = some (.int .i64 tt) := (by rw [hB.cell (p := ⟨wr.heap.size, 1, none⟩) (by simp)]; simp); have HB2 := hide hB; clear hB)
          go_roundw
          case rel => exact ⟨i + 1, tt, by omega, by go_num, rfl, hide (fun h => by omega), hide (fun h h2 => htt.symm), hide (fun j hj => by
            by_cases e : j = i
            · subst e; exact hk
            · exact unhide HB j (by omega)), hide (((unhide HBW).alloc hsz _).trans ((unhide HB2).mono (by simp; omega)))⟩
          case measure => simp [intOf]; omega
        · have HE := hide (unhide hATi hk)
          generalize Edits.badI N E i = k at *
          rw [show errV k = .iface 61 (.int .i64 k) from if_neg hk] at HCH
          go_wp2_with (go_at_call 28; refine (unhide HCH _).mono ?_; rintro e w2 ⟨rfl, hB⟩; have HB2 := hide hB; clear hB)
          go_ret
          rw [unhide HE]
          have hs2 : w.heap.size ≤ w2.heap.size := by have := (unhide HB2).size; simp at this; omega
          exact ⟨_, rfl, says_mk (k := i) (err := k) hk hs2, (((unhide HBW).alloc hsz _).trans ((unhide HB2).mono (by simp; omega))).alloc hs2 _⟩
      · have HE := hide ((unhide HNO) (fun j hj => unhide HB j (by omega)))
        go_wp2
        go_ret
        rw [unhide HE]
        exact ⟨_, rfl, .inl ⟨rfl, rfl⟩, unhide HBW⟩
end Go.Proofs.YtcfbigkmhboepaaDoor.Line
