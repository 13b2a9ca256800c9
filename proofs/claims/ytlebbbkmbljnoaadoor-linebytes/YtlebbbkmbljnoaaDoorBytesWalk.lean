/- The walk of furrowlaw2.LineBytes: true at every byte, wherever it stands; nothing that was there has turned. -/
import Derived.Test.YtlebbbkmbljnoaaDoorPartsWalk
import Derived.Test.YtlebbbkmbljnoaaDoorPlainTwo
import Derived.Test.YtlebbbkmbljnoaaDoorSplitWalk
namespace Go.Proofs.YtlebbbkmbljnoaaDoor.Line
open Go.ChangeShapes Go.WideShapes Go.ChangeAt Go.RowKit Plain
set_option linter.unusedVariables false

theorem mid_succ (a k : Nat) : rep a ++ List.replicate (k + 1) 121 = rep a ++ List.replicate k 121 ++ [121] := by
  rw [List.replicate_succ', List.append_assoc]

theorem bytes_cat (mm : List UInt8) (c : UInt8) (t : List UInt8) (h : mm ++ [c] ++ [122, 10] = t) : ((⟨mm.toArray⟩ : ByteArray) ++ ⟨#[c]⟩ ++ ⟨#[122, 10]⟩) = ⟨t.toArray⟩ :=
  (congrArg (fun x : ByteArray => x ++ (⟨#[122, 10]⟩ : ByteArray)) (cat2 mm [c])).trans ((cat2 (mm ++ [c]) [122, 10]).trans (mk_eq h))

set_option maxRecDepth 100000 in
set_option maxHeartbeats 4000000 in
theorem bytes_yes (c : UInt8) (A K : Nat) (w : World) (hA : A ≤ 255) (hK : K ≤ 255) (hok : okB c = true) : Calls Tryd.prog 6 #[.int .u8 (c.toNat : Int), .int .u8 (A : Int), .int .u8 (K : Int)] w fun e w' => e = .returned (.bool true) ∧ Below w.heap.size w w' := by
  have hc : c.toNat < 256 := c.toNat_lt
  go_enter Tryd.func6, Tryd.ntmps6
  go_wp2_with (go_at_call 8; refine (known_any _).mono ?_; rintro e w1 ⟨rfl, b1⟩)
  go_loop [7, 8] (fun s q => ∃ i : Nat, i ≤ A % 10 ∧ q = .int .i64 i ∧ s = .string ⟨(rep i).toArray⟩) (fun _ q => A % 10 - (intOf q).toNat)
  case atStart => exact ⟨0, Nat.zero_le _, rfl, rfl⟩
  case round =>
    obtain ⟨i, hi, rfl, rfl⟩ := hrel
    have hl := rep_len i
    have hl2 : (rep i).length ≤ 60 := by omega
    clear hl
    have HR := hide (rep_succ i)
    by_cases hlt : i < A % 10
    · go_wp2
      go_round
      case rel => exact ⟨i + 1, by omega, by go_num, congrArg Value.string ((cat2 (rep i) X).trans (mk_eq (unhide HR).symm))⟩
      case measure => simp [intOf]; omega
    · obtain rfl : i = A % 10 := by omega
      go_wp2
      go_loop [7, 9] (fun s q => ∃ j : Nat, j ≤ K % 30 ∧ q = .int .i64 j ∧ s = .string ⟨(rep (A % 10) ++ List.replicate j 121).toArray⟩) (fun _ q => K % 30 - (intOf q).toNat)
      case atStart => exact ⟨0, Nat.zero_le _, rfl, by simp⟩
      case round =>
        obtain ⟨j, hj, rfl, rfl⟩ := hrel
        have hm : (rep (A % 10) ++ List.replicate j 121).length ≤ 100 := by simp; omega
        have HM := hide (mid_succ (A % 10) j)
        by_cases hjt : j < K % 30
        · generalize hmm : rep (A % 10) ++ List.replicate j 121 = mm at *
          go_wp2
          go_round
          case rel => exact ⟨j + 1, by omega, by go_num, congrArg Value.string ((cat2 mm [121]).trans (mk_eq (unhide HM).symm))⟩
          case measure => simp [intOf]; omega
        · obtain rfl : j = K % 30 := by omega
          have HT : Hid (rep (A % 10) ++ List.replicate (K % 30) 121 ++ [c] ++ [122, 10] = bytesText (A % 10) (K % 30) c) := hide (by unfold bytesText; simp)
          generalize rep (A % 10) ++ List.replicate (K % 30) 121 = mm at *
          have hcv : (convert 41 9 (.slice (some ⟨w1.heap.size, 0, none⟩) 1 1)).run Tryd.prog (w1.alloc (.cells #[.int .u8 (c.toNat : Int)] 5)) = .ok (.string ⟨#[c]⟩) (w1.alloc (.cells #[.int .u8 (c.toNat : Int)] 5)) :=
            run_convert_bytes_back (w1.alloc (.cells #[.int .u8 (c.toNat : Int)] 5)) 41 9 5 ⟨w1.heap.size, 0, none⟩ 1 [c] Tryd.underlying41 Tryd.underlying5 Tryd.underlying9 (fun j hj => by
              match j, hj with
              | 0, _ => simp [Addr.add])
          go_wp2_with fail
          have hs := bytes_cat mm c (bytesText (A % 10) (K % 30) c) (unhide HT)
          rw [hs]
          refine (split_ok (bytesText (A % 10) (K % 30) c) _ (by rw [bytes_len]; omega) (bytes_ok _ _ _ (by omega) (by omega) hok)).mono ?_
          rintro e w2 ⟨v, rfl, _, b2⟩
          have hyes := okB_yes c hok
          clear hcv hs hok HT HM
          rcases hyes with ⟨n1, n2⟩ | n1 | n1
          all_goals
            go_wp2
            go_ret
            exact ⟨rfl, bthen (bthen b1 (alloc_below _ _)) b2⟩

set_option maxRecDepth 100000 in
set_option maxHeartbeats 4000000 in
theorem bytes_no (c : UInt8) (A K : Nat) (w : World) (hA : A ≤ 255) (hK : K ≤ 255) (hok : okB c = false) (hG : Glob w) : Calls Tryd.prog 6 #[.int .u8 (c.toNat : Int), .int .u8 (A : Int), .int .u8 (K : Int)] w fun e w' => e = .returned (.bool true) ∧ Below w.heap.size w w' := by
  have hc : c.toNat < 256 := c.toNat_lt
  have HGL := hide hG
  clear hG
  go_enter Tryd.func6, Tryd.ntmps6
  go_wp2_with (go_at_call 8; refine (known_any _).mono ?_; rintro e w1 ⟨rfl, b1⟩)
  go_loop [7, 8] (fun s q => ∃ i : Nat, i ≤ A % 10 ∧ q = .int .i64 i ∧ s = .string ⟨(rep i).toArray⟩) (fun _ q => A % 10 - (intOf q).toNat)
  case atStart => exact ⟨0, Nat.zero_le _, rfl, rfl⟩
  case round =>
    obtain ⟨i, hi, rfl, rfl⟩ := hrel
    have hl := rep_len i
    have hl2 : (rep i).length ≤ 60 := by omega
    clear hl
    have HR := hide (rep_succ i)
    by_cases hlt : i < A % 10
    · go_wp2
      go_round
      case rel => exact ⟨i + 1, by omega, by go_num, congrArg Value.string ((cat2 (rep i) X).trans (mk_eq (unhide HR).symm))⟩
      case measure => simp [intOf]; omega
    · obtain rfl : i = A % 10 := by omega
      go_wp2
      go_loop [7, 9] (fun s q => ∃ j : Nat, j ≤ K % 30 ∧ q = .int .i64 j ∧ s = .string ⟨(rep (A % 10) ++ List.replicate j 121).toArray⟩) (fun _ q => K % 30 - (intOf q).toNat)
      case atStart => exact ⟨0, Nat.zero_le _, rfl, by simp⟩
      case round =>
        obtain ⟨j, hj, rfl, rfl⟩ := hrel
        have hm : (rep (A % 10) ++ List.replicate j 121).length ≤ 100 := by simp; omega
        have HM := hide (mid_succ (A % 10) j)
        by_cases hjt : j < K % 30
        · generalize hmm : rep (A % 10) ++ List.replicate j 121 = mm at *
          go_wp2
          go_round
          case rel => exact ⟨j + 1, by omega, by go_num, congrArg Value.string ((cat2 mm [121]).trans (mk_eq (unhide HM).symm))⟩
          case measure => simp [intOf]; omega
        · obtain rfl : j = K % 30 := by omega
          have HT : Hid (rep (A % 10) ++ List.replicate (K % 30) 121 ++ [c] ++ [122, 10] = bytesText (A % 10) (K % 30) c) := hide (by unfold bytesText; simp)
          generalize rep (A % 10) ++ List.replicate (K % 30) 121 = mm at *
          have hcv : (convert 41 9 (.slice (some ⟨w1.heap.size, 0, none⟩) 1 1)).run Tryd.prog (w1.alloc (.cells #[.int .u8 (c.toNat : Int)] 5)) = .ok (.string ⟨#[c]⟩) (w1.alloc (.cells #[.int .u8 (c.toNat : Int)] 5)) :=
            run_convert_bytes_back (w1.alloc (.cells #[.int .u8 (c.toNat : Int)] 5)) 41 9 5 ⟨w1.heap.size, 0, none⟩ 1 [c] Tryd.underlying41 Tryd.underlying5 Tryd.underlying9 (fun j hj => by
              match j, hj with
              | 0, _ => simp [Addr.add])
          go_wp2_with fail
          have hs := bytes_cat mm c (bytesText (A % 10) (K % 30) c) (unhide HT)
          rw [hs]
          obtain ⟨e1, e2, e3⟩ := bytes_bad (A % 10) (K % 30) c (by omega) (by omega) hok
          refine (split_bad (bytesText (A % 10) (K % 30) c) _ (by rw [bytes_len]; omega) (by rw [e1]; decide)).mono ?_
          rintro e w2 ⟨v, b, rfl, _, hsay, b2⟩
          rw [e1, e2, e3] at hsay
          have HS := hide hsay
          have HG := hide ((((unhide HGL).below b1).below (alloc_below _ _)).below b2)
          have hno := okB_no c hok
          clear hcv hs hok HT HM hsay e1 e2 e3
          obtain ⟨n0, n3, n4, n5, n6⟩ := hno
          have n7 : ((c.toNat : Int) == 9) = false := by rw [beq_eq_false_iff_ne]; exact n5
          have n8 : ((c.toNat : Int) == 10) = false := by rw [beq_eq_false_iff_ne]; exact n6
          have HA10 : Hid (((A : Int) % 10) = ((A % 10 : Nat) : Int)) := hide (by omega)
          have HA := hide (fun w => at_any [108, 105, 110, 101] (A % 10) 3 w)
          rcases n0 with n1 | ⟨n1, n2⟩
          all_goals
            go_wp2_with fail
            rw [unhide HA10]
            refine (unhide HA _).mono ?_
            rintro e w3 ⟨b2', rfl, hb2, d0, d1, b3⟩

            go_wp2_with fail
            refine (tells_any w3 _ _ [108, 105, 110, 101] (A % 10) 3 ((unhide HG).below b3) ((unhide HS).below b3) (.inr ⟨by decide, b2', hb2, rfl, d0, d1⟩)).mono ?_
            rintro e w4 ⟨rfl, b4⟩
            go_wp2
            go_ret
            exact ⟨rfl, bthen (bthen (bthen (bthen b1 (alloc_below _ _)) b2) b3) b4⟩


theorem lineBytes_any (b A K : Int) (w : World) (hb0 : 0 ≤ b) (hb : b ≤ 255) (hA0 : 0 ≤ A) (hA : A ≤ 255) (hK0 : 0 ≤ K) (hK : K ≤ 255) (hG : Glob w) : Calls Tryd.prog 6 #[.int .u8 b, .int .u8 A, .int .u8 K] w fun e w' => e = .returned (.bool true) ∧ Below w.heap.size w w' := by
  obtain ⟨a, rfl⟩ := Int.eq_ofNat_of_zero_le hA0
  obtain ⟨k, rfl⟩ := Int.eq_ofNat_of_zero_le hK0
  obtain ⟨n, rfl⟩ := Int.eq_ofNat_of_zero_le hb0
  have hn : (n : Int) = ((UInt8.ofNat n).toNat : Int) := by
    rw [UInt8.toNat_ofNat']; omega
  rw [hn]
  cases h : okB (UInt8.ofNat n)
  · exact bytes_no _ a k w (by omega) (by omega) h hG
  · exact bytes_yes _ a k w (by omega) (by omega) h
end Go.Proofs.YtlebbbkmbljnoaaDoor.Line
