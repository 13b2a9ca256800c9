/- The contract of the reference's number. -/
import Derived.Test.YtbpmfkikhackfaaGreatDoorTokSmall
namespace Go.Proofs.YtbpmfkikhackfaaGreatDoor.Line
open Go.ChangeShapes Go.WideShapes Go.ChangeAt Go.RowKit
set_option linter.unusedVariables false

theorem num_snoc (l : List UInt8) (c : UInt8) : Words.num (l ++ [c]) = 10 * Words.num l + (c.toNat - 48) := by
  unfold Words.num
  rw [List.foldl_append]
  rfl
theorem num_take (l : List UInt8) (i : Nat) (h : i < l.length) : Words.num (l.take (i + 1)) = 10 * Words.num (l.take i) + (l[i].toNat - 48) := by
  rw [List.take_succ_eq_append_getElem h, num_snoc]
theorem num_le (l : List UInt8) : ∀ i, Words.num (l.take i) ≤ Words.num l := by
  have key : ∀ (m : List UInt8) (a : Nat), a ≤ m.foldl (fun n c => 10 * n + (c.toNat - 48)) a := by
    intro m
    induction m with
    | nil => intro a; exact Nat.le_refl _
    | cons c m ih => intro a; exact Nat.le_trans (by omega) (ih (10 * a + (c.toNat - 48)))
  intro i
  conv => rhs; rw [← List.take_append_drop i l]
  unfold Words.num
  rw [List.foldl_append]
  exact key _ _

set_option maxHeartbeats 2000000 in
set_option maxRecDepth 100000 in
theorem refNumber_any (l : List UInt8) (hd : ∀ i (h : i < l.length), Words.digitB l[i] = true) (hl : l.length ≤ 1000000) (w : World) : Calls Tryz.prog 33 #[.string ⟨l.toArray⟩] w fun e w' =>
    e = .returned (.tuple #[.int .i64 ((if Words.num l ≤ Words.big then Words.num l else 0 : Nat) : Int), .bool (decide (Words.num l ≤ Words.big))]) ∧ w' = w := by
  have hsz : ((⟨l.toArray⟩ : ByteArray).size : Int) = l.length := rfl
  have HD := hide hd
  clear hd
  obtain ⟨ans, hans⟩ : ∃ a, Ending.returned (.tuple #[.int .i64 ((if Words.num l ≤ Words.big then Words.num l else 0 : Nat) : Int), .bool (decide (Words.num l ≤ Words.big))]) = a := ⟨_, rfl⟩
  rw [hans]
  have HANS := hide hans
  clear hans
  go_enter Tryz.func33, Tryz.ntmps33
  go_wp2
  go_loopw [4, 5] (fun x q wr => ∃ i : Nat, i ≤ l.length ∧ q = .int .i64 i ∧ x = .int .u64 (Words.num (l.take i) : Int) ∧ wr = w ∧ Hid (Words.num (l.take i) ≤ Words.big)) (fun _ q _ => l.length - (intOf q).toNat)
  case atStart => exact ⟨0, Nat.zero_le _, rfl, rfl, rfl, hide (Nat.zero_le _)⟩
  case round =>
    obtain ⟨i, hi, rfl, rfl, rfl, HB⟩ := hrel
    by_cases hlt : i < l.length
    · have hs : i < (⟨l.toArray⟩ : ByteArray).size := hlt
      have hbv : (((⟨l.toArray⟩ : ByteArray)[i]'hs).toNat : Int) = (l[i].toNat : Int) := rfl
      have hlt2 : (i : Int) < l.length := by omega
      have hdg := unhide HD i hlt
      unfold Words.digitB at hdg
      simp only [Bool.and_eq_true, decide_eq_true_eq] at hdg
      have HNT := hide (num_take l i hlt)
      have HLE := hide (num_le l (i + 1))
      have hnb := unhide HB
      generalize hnn : l[i].toNat = n at *
      generalize Words.num (l.take i) = m at *
      obtain ⟨d, rfl⟩ : ∃ d, n = d + 48 := ⟨n - 48, by omega⟩
      have hd9 : d ≤ 9 := by omega
      unfold Words.big at hnb
      clear hdg
      have e1 : ((d + 48 : Nat) : Int) - 48 = d := by omega
      by_cases hov : 10 * m + d ≤ 9223372036854775807
      · have q1 : ¬ (9223372036854775807 - (d : Int)) / 10 < (m : Int) := by omega
        have q2 : decide ((9223372036854775807 - (d : Int)) / 10 < (m : Int)) = false := decide_eq_false q1
        go_wp2_with fail
        go_roundw
        case rel => exact ⟨i + 1, by omega, by go_num, by rw [unhide HNT, show d + 48 - 48 = d by omega]; simp, trivial, hide (by rw [unhide HNT]; unfold Words.big; omega)⟩
        case measure => simp [intOf]; omega
      · have q1 : (9223372036854775807 - (d : Int)) / 10 < (m : Int) := by omega
        have q2 : decide ((9223372036854775807 - (d : Int)) / 10 < (m : Int)) = true := decide_eq_true q1
        have HOV : Hid (¬ Words.num l ≤ Words.big) := hide (by have h1 := unhide HNT; have h2 := unhide HLE; unfold Words.big; omega)
        go_wp2
        refine bodyPost_ret (v := .tuple #[.int .i64 0, .bool false]) (by simp [results, Tryz.results33, go_sem]) rfl ⟨?_, rfl⟩
        rw [← unhide HANS, if_neg (unhide HOV), decide_eq_false (unhide HOV)]
        rfl
    · have hil : i = l.length := by omega
      have HQ : Hid (l.take i = l) := hide (by rw [hil, List.take_length])
      have hnb := unhide HB
      rw [unhide HQ] at hnb
      have HNB := hide hnb
      unfold Words.big at hnb
      rw [unhide HQ]
      generalize hm : Words.num l = m at *
      clear hil
      have HM := hide hm
      clear hm
      go_wp2
      refine bodyPost_ret (v := .tuple #[.int .i64 (m : Int), .bool true]) (by simp [results, Tryz.results33, go_sem]) rfl ⟨?_, rfl⟩
      rw [← unhide HANS, if_pos (unhide HNB), decide_eq_true (unhide HNB)]
end Go.Proofs.YtbpmfkikhackfaaGreatDoor.Line
