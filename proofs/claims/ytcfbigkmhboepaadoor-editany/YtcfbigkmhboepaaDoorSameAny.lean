/- The contract of the reference's SameLines, over any two slices of strings. -/
import Derived.Test.YtcfbigkmhboepaaDoorSameB
import Derived.BigQuiet
import Derived.Deep.QuietTactic
namespace Go.Proofs.YtcfbigkmhboepaaDoor.Line
open Go.ChangeShapes Go.WideShapes Go.ChangeAt Go.RowKit
set_option linter.unusedVariables false

set_option maxHeartbeats 2000000 in
set_option maxRecDepth 100000 in
theorem sameLines_ne (u v : Value) (A B : List (List UInt8)) (w : World) (hu : Row w u A) (hv : Row w v B) (hA : A.length ≤ 1000000) (hB : B.length ≤ 1000000) (hne : A ≠ B) :
    Calls Tryd.prog 19 #[u, v] w fun e w' => e = .returned (.bool false) ∧ ∃ n, w' = w.drewN n := by
  by_cases hll : A.length = B.length
  · rcases hu with ⟨_, _, _, h⟩ | ⟨b, off, c, rfl, hc, hcell⟩
    · exact absurd (by rw [h] at hll; exact h.trans (List.length_eq_zero_iff.1 hll.symm).symm) hne
    rcases hv with ⟨_, _, _, h⟩ | ⟨b', off', c', rfl, hc', hcell'⟩
    · exact absurd (by rw [h] at hll; exact (List.length_eq_zero_iff.1 hll).trans h.symm) hne
    have H1 := hide hcell
    have H2 := hide hcell'
    have HN := hide hne
    rw [← hll]
    have HLL := hide hll
    clear hcell hcell' hne hll hB
    go_enter Tryd.func19, Tryd.ntmps19
    go_wp2
    go_loopw [5] (fun q wr => ∃ i : Nat, i ≤ A.length ∧ q = .int .i64 i ∧ Hid (∀ j, j < i → A[j]? = B[j]?) ∧ ∃ n, wr = w.drewN n) (fun q _ => A.length - (intOf q).toNat)
    case atStart => exact ⟨0, Nat.zero_le _, rfl, hide (fun j h => by omega), 0, rfl⟩
    case round =>
      obtain ⟨i, hi, rfl, HS, n, rfl⟩ := hrel
      by_cases hlt : i < A.length
      · have c1 := unhide H1 i hlt
        have c2 := unhide H2 i (by rw [← unhide HLL]; exact hlt)
        by_cases hx : A[i] = B[i]'(by rw [← unhide HLL]; exact hlt)
        · have HX : Hid (A[i]? = B[i]?) := hide (by rw [List.getElem?_eq_getElem hlt, List.getElem?_eq_getElem (by rw [← unhide HLL]; exact hlt), hx])
          rw [← hx] at c2
          clear hx
          generalize A[i] = x at *
          go_wp2
          go_region
          all_goals go_wp2
          all_goals go_roundw
          case rel => exact ⟨i + 1, by omega, by go_num, hide (fun j hj => by
            by_cases e : j = i
            · subst e; exact unhide HX
            · exact unhide HS j (by omega)), n + 1, rfl⟩
          case measure => simp [intOf]; omega
        · generalize A[i] = x at *
          generalize B[i]'(by rw [← unhide HLL]; exact hlt) = y at *
          have hxb : (x == y) = false := beq_eq_false_iff_ne.2 hx
          go_wp2
          go_region
          all_goals go_wp2
          all_goals go_ret
          all_goals exact ⟨rfl, n + 1, rfl⟩
      · refine absurd (List.ext_getElem? fun j => ?_) (unhide HN)
        by_cases hj : j < i
        · exact unhide HS j hj
        · have := unhide HLL
          rw [List.getElem?_eq_none (by omega), List.getElem?_eq_none (by omega)]
  · obtain ⟨a, c, rfl⟩ : ∃ a c, u = .slice a A.length c := by
      rcases hu with ⟨a, c, rfl, h⟩ | ⟨b, off, c, rfl, _⟩
      · exact ⟨_, _, by rw [h]; rfl⟩
      · exact ⟨_, _, rfl⟩
    obtain ⟨a', c', rfl⟩ : ∃ a c, v = .slice a B.length c := by
      rcases hv with ⟨a, c, rfl, h⟩ | ⟨b, off, c, rfl, _⟩
      · exact ⟨_, _, by rw [h]; rfl⟩
      · exact ⟨_, _, rfl⟩
    have q1 : ((A.length : Int) != (B.length : Int)) = true := by rw [bne_iff_ne]; omega
    have q2 : ¬ (A.length : Int) = (B.length : Int) := by omega
    go_enter Tryd.func19, Tryd.ntmps19
    go_wp2
    go_ret
    exact ⟨rfl, 0, rfl⟩
end Go.Proofs.YtcfbigkmhboepaaDoor.Line
