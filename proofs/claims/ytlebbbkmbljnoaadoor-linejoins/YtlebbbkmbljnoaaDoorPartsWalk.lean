/- The walk of furrowlaw2.LineParts: true at every line; nothing that was there has turned. -/
import Derived.Test.YtlebbbkmbljnoaaDoorKnown
namespace Go.Proofs.YtlebbbkmbljnoaaDoor.Line
open Go.ChangeShapes Go.WideShapes Go.ChangeAt Go.RowKit Plain
set_option linter.unusedVariables false

theorem cat2 (a b : List UInt8) : (⟨a.toArray⟩ : ByteArray) ++ ⟨b.toArray⟩ = ⟨(a ++ b).toArray⟩ := by
  apply ByteArray.ext
  simp
theorem cat3 {a b c l : List UInt8} (h : a ++ b ++ c = l) : (((⟨a.toArray⟩ : ByteArray) ++ ⟨b.toArray⟩ ++ ⟨c.toArray⟩).toList == l) = true := by
  rw [cat2, cat2, h, Lib.toList_data]
  simp

set_option maxHeartbeats 2000000 in
theorem lineParts_long (l : List UInt8) (w : World) (hl : 400 < l.length) : Calls Tryd.prog 4 #[.string ⟨l.toArray⟩] w fun e w' => e = .returned (.bool true) ∧ Below w.heap.size w w' := by
  go_enter Tryd.func4, Tryd.ntmps4
  go_wp2_with (go_at_call 8; refine (known_any _).mono ?_; rintro e w1 ⟨rfl, b1⟩)
  go_ret
  exact ⟨rfl, b1⟩

set_option maxHeartbeats 2000000 in
theorem lineParts_short (l : List UInt8) (w : World) (hl : ¬ 400 < l.length) : Calls Tryd.prog 4 #[.string ⟨l.toArray⟩] w fun e w' => e = .returned (.bool true) ∧ Below w.heap.size w w' := by
  have HP := hide (fun w => part_any l w (by omega))
  have HR := hide (fun w => refParts_any l w (by omega))
  have HI := hide (fun w => indent_any l w (by omega))
  have HJ := hide (fun w => refIndent_any l w (by omega))
  have HNO := hide (body_no l)
  have HJN := hide (parts_join l)
  have hbl : (bodyOf l).length ≤ 400 ∧ (noteOf l).length ≤ 400 ∧ (endOf l).length ≤ 400 := by
    have := congrArg List.length (parts_join l)
    simp at this; omega
  obtain ⟨hbl, hnl, hel⟩ := hbl
  generalize bodyOf l = bb at *
  generalize noteOf l = nn at *
  generalize endOf l = ee at *
  generalize indentOf l = ii at *
  unfold three at HP HR
  go_enter Tryd.func4, Tryd.ntmps4
  go_wp2_with (first
    | (go_at_call 8; refine (known_any _).mono ?_; rintro e w1 ⟨rfl, b1⟩)
    | (go_at_call 14; refine (unhide HP _).mono ?_; rintro e w2 ⟨rfl, n2, rfl⟩)
    | (go_at_call 15; refine (unhide HR _).mono ?_; rintro e w3 ⟨rfl, n3, rfl⟩)
    | (go_at_call 16; refine (unhide HI _).mono ?_; rintro e w4 ⟨rfl, b4⟩)
    | (go_at_call 17; refine (unhide HJ _).mono ?_; rintro e w5 ⟨rfl, rfl⟩))
  go_loop [9] (fun q => ∃ i : Nat, i ≤ bb.length ∧ q = .int .i64 i) (fun q => bb.length - (intOf q).toNat)
  case atStart => exact ⟨0, Nat.zero_le _, rfl⟩
  case round =>
    obtain ⟨i, hi, rfl⟩ := hrel
    by_cases hlt : i < bb.length
    · have hs2 : i < (⟨bb.toArray⟩ : ByteArray).size := hlt
      have hb : ((((⟨bb.toArray⟩ : ByteArray)[i]'hs2).toNat : Int) == 33) = false := byte_not bb i hlt hs2 33 (unhide HNO i hlt)
      go_wp2
      go_round
      case rel => exact ⟨i + 1, by omega, by go_num⟩
      case measure => simp [intOf]; omega
    · go_wp2
      go_ret
      exact ⟨ret_bool (cat3 (unhide HJN)), bthen (below_drewN b1 _) b4⟩

theorem lineParts_any (l : List UInt8) (w : World) : Calls Tryd.prog 4 #[.string ⟨l.toArray⟩] w fun e w' => e = .returned (.bool true) ∧ Below w.heap.size w w' := by
  by_cases h : 400 < l.length
  · exact lineParts_long l w h
  · exact lineParts_short l w h
end Go.Proofs.YtlebbbkmbljnoaaDoor.Line
