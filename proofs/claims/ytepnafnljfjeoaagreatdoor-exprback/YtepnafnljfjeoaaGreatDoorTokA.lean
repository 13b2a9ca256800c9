/- The contracts of the reference's letter, digit, behind, IsKey, sign, number.
   The contract of the reference's number.
   Words in memory: a row of a call's own (OwnT), one that is only read (Tks); one more word behind it; the named result's block. -/
import Derived.Test.YtepnafnljfjeoaaGreatDoorBaseAll
import Derived.Test.YtepnafnljfjeoaaGreatDoorPlainAll
import Derived.Laws.OwnMore
import Derived.Deep.AppendLies
namespace Go.Proofs.YtepnafnljfjeoaaGreatDoor.Line
open Go.ChangeShapes Go.WideShapes Go.ChangeAt Go.RowKit
set_option linter.unusedVariables false

theorem letter_any (c : UInt8) (w : World) : Calls Tryz.prog 33 #[.int .u8 (c.toNat : Int)] w fun e w' => e = .returned (.bool (Words.letterB c)) ∧ w' = w := by
  have hE : Words.letterB c = (decide (97 ≤ c.toNat) && decide (c.toNat ≤ 122)) := rfl
  rw [hE]
  clear hE
  generalize c.toNat = n
  by_cases h1 : 97 ≤ n
  · have q1 : decide (97 ≤ n) = true := decide_eq_true h1
    go_enter Tryz.func33, Tryz.ntmps33
    go_wp2
    go_ret
    refine ⟨ret_bool ?_, rfl⟩
    simp [h1]
    omega
  · have q1 : decide (97 ≤ n) = false := decide_eq_false h1
    go_enter Tryz.func33, Tryz.ntmps33
    go_wp2
    go_ret
    refine ⟨ret_bool ?_, rfl⟩
    simp
theorem digit_any (c : UInt8) (w : World) : Calls Tryz.prog 36 #[.int .u8 (c.toNat : Int)] w fun e w' => e = .returned (.bool (Words.digitB c)) ∧ w' = w := by
  have hE : Words.digitB c = (decide (48 ≤ c.toNat) && decide (c.toNat ≤ 57)) := rfl
  rw [hE]
  clear hE
  generalize c.toNat = n
  by_cases h1 : 48 ≤ n
  · have q1 : decide (48 ≤ n) = true := decide_eq_true h1
    go_enter Tryz.func36, Tryz.ntmps36
    go_wp2
    go_ret
    refine ⟨ret_bool ?_, rfl⟩
    simp [h1]
    omega
  · have q1 : decide (48 ≤ n) = false := decide_eq_false h1
    go_enter Tryz.func36, Tryz.ntmps36
    go_wp2
    go_ret
    refine ⟨ret_bool ?_, rfl⟩
    simp
theorem behind_any (c : UInt8) (w : World) : Calls Tryz.prog 34 #[.int .u8 (c.toNat : Int)] w fun e w' => e = .returned (.bool (Words.behindB c)) ∧ w' = w := by
  have hE : Words.behindB c = (Words.letterB c || Words.digitB c || decide (c.toNat = 95)) := rfl
  rw [hE]
  clear hE
  have HL := hide (letter_any c w)
  have HD := hide (digit_any c w)
  generalize Words.letterB c = bl at *
  generalize Words.digitB c = bd at *
  generalize c.toNat = n at *
  cases bl
  · cases bd
    · go_enter Tryz.func34, Tryz.ntmps34
      go_wp2_with (first | (go_at_call 33; refine (unhide HL).mono ?_; rintro e w1 ⟨rfl, rfl⟩) | (go_at_call 36; refine (unhide HD).mono ?_; rintro e w1 ⟨rfl, rfl⟩))
      go_ret
      refine ⟨ret_bool ?_, rfl⟩
      simp only [Bool.false_or]
      by_cases h : n = 95
      · subst h; rfl
      · rw [decide_eq_false h]
        rw [beq_eq_false_iff_ne]
        omega
    · go_enter Tryz.func34, Tryz.ntmps34
      go_wp2_with (first | (go_at_call 33; refine (unhide HL).mono ?_; rintro e w1 ⟨rfl, rfl⟩) | (go_at_call 36; refine (unhide HD).mono ?_; rintro e w1 ⟨rfl, rfl⟩))
      go_ret
      exact ⟨rfl, rfl⟩
  · go_enter Tryz.func34, Tryz.ntmps34
    go_wp2_with (go_at_call 33; refine (unhide HL).mono ?_; rintro e w1 ⟨rfl, rfl⟩)
    go_ret
    exact ⟨rfl, rfl⟩

abbrev keyCells : Array Value := #[.string ⟨#[105, 110, 116, 101, 103, 101, 114]⟩, .string ⟨#[100, 111]⟩, .string ⟨#[101, 110, 100]⟩, .string ⟨#[105, 102]⟩, .string ⟨#[116, 104, 101, 110]⟩, .string ⟨#[101, 108, 115, 101]⟩, .string ⟨#[114, 101, 97, 100]⟩, .string ⟨#[112, 114, 105, 110, 116]⟩]
theorem isKey_yes (l : List UInt8) (i : Nat) (h : i < Words.keys.length) (he : Words.keys[i] = l) : Words.isKey l = true := by
  unfold Words.isKey
  rw [List.contains_iff_mem, ← he]
  exact List.getElem_mem h
theorem isKey_no (l : List UInt8) (h : ∀ j (hj : j < Words.keys.length), Words.keys[j] ≠ l) : Words.isKey l = false := by
  rw [← Bool.not_eq_true]
  intro h1
  unfold Words.isKey at h1
  rw [List.contains_iff_mem] at h1
  obtain ⟨j, hj, he⟩ := List.getElem_of_mem h1
  exact h j hj he
set_option maxHeartbeats 1000000 in
theorem refIsKey_any (l : List UInt8) (w : World) : Calls Tryz.prog 35 #[.string ⟨l.toArray⟩] w fun e w' => e = .returned (.bool (Words.isKey l)) ∧ Below w.heap.size w w' := by
  have hrow : Row (w.alloc (.cells keyCells 9)) (.slice (some ⟨w.heap.size, 0, none⟩) 8 8) Words.keys := (show Own w.heap.size (w.alloc (.cells keyCells 9)) (.slice (some ⟨w.heap.size, 0, none⟩) 8 8) Words.keys from World.ownsRow_lit w keyCells 8 (Nat.le_refl _) (by decide) rfl).row
  have hcell : ∀ i (h : i < Words.keys.length), (w.alloc (.cells keyCells 9)).cell? ⟨w.heap.size, i, none⟩ = some (.string ⟨(Words.keys[i]).toArray⟩) := by
    rcases hrow with ⟨_, _, h, _⟩ | ⟨b, off, c, h1, _, h2⟩
    · cases h
    · injection h1 with h1
      injection h1 with h1
      injection h1 with h1 h3
      subst h1
      subst h3
      intro i hi
      have := h2 i hi
      rwa [Nat.zero_add] at this
  have HC := hide hcell
  clear hcell hrow
  go_enter Tryz.func35, Tryz.ntmps35
  go_wp2_with fail
  have hb := alloc_below w (.cells keyCells 9)
  have HB := hide hb
  clear hb
  generalize w.alloc (.cells keyCells 9) = W at *
  generalize hB0 : w.heap.size = B0 at *
  have HB0 := hide hB0
  clear hB0
  go_loopw [4] (fun q wr => ∃ i : Nat, i ≤ 8 ∧ q = .int .i64 i ∧ wr = W ∧ Hid (∀ j (hj : j < Words.keys.length), j < i → Words.keys[j] ≠ l)) (fun q _ => 8 - (intOf q).toNat)
  case atStart => exact ⟨0, by omega, rfl, rfl, hide (fun j hj h => by omega)⟩
  case round =>
    obtain ⟨i, hi, rfl, rfl, HN⟩ := hrel
    by_cases hlt : i < 8
    · have c1 := unhide HC i hlt
      have HK := hide (isKey_yes l i hlt)
      have HN2 : Hid (Words.keys[i] ≠ l → ∀ j (hj : j < Words.keys.length), j < i + 1 → Words.keys[j] ≠ l) := hide (fun h j hj hji => by
        by_cases e : j = i
        · subst e; exact h
        · exact unhide HN j hj (by omega))
      generalize Words.keys[i] = x at *
      by_cases hx : x = l
      · subst hx
        go_wp2
        go_ret
        exact ⟨ret_bool (unhide HK trivial).symm, by rw [unhide HB0]; exact unhide HB⟩
      · have hxb : (x == l) = false := beq_eq_false_iff_ne.2 hx
        have HN3 := hide (unhide HN2 hx)
        go_wp2
        go_roundw
        case rel => exact ⟨i + 1, by omega, by go_num, trivial, HN3⟩
        case measure => simp [intOf]; omega
    · have HK := hide (isKey_no l (fun j hj => unhide HN j hj (by have : j < 8 := hj; omega)))
      go_wp2
      go_ret
      exact ⟨ret_bool (unhide HK).symm, by rw [unhide HB0]; exact unhide HB⟩

theorem signLen_at (l : List UInt8) (i : Nat) (h : i < l.length) (two : Bool) (ht : two = true ↔ ∃ h2 : i + 1 < l.length, l[i + 1].toNat = 61) : Words.signLen (l.drop i) = if l[i].toNat = 60 ∨ l[i].toNat = 62 ∨ l[i].toNat = 61 ∨ l[i].toNat = 47 then (if two = true then 2 else 1) else if l[i].toNat = 43 ∨ l[i].toNat = 45 ∨ l[i].toNat = 42 ∨ l[i].toNat = 40 ∨ l[i].toNat = 41 ∨ l[i].toNat = 44 then 1 else 0 := by
  rw [List.drop_eq_getElem_cons h]
  have e : ((l.drop (i + 1)).head? = some 61) = (two = true) := by
    rw [List.head?_drop]
    apply propext
    constructor
    · intro h1
      obtain ⟨h2, h3⟩ := List.getElem?_eq_some_iff.1 h1
      exact ht.2 ⟨h2, by rw [h3]; rfl⟩
    · intro h1
      obtain ⟨h2, h3⟩ := ht.1 h1
      rw [List.getElem?_eq_getElem h2]
      exact congrArg some (UInt8.toNat.inj h3)
  simp only [Words.signLen, e]
set_option maxHeartbeats 4000000 in
theorem refSign_any (l : List UInt8) (i : Nat) (h : i < l.length) (hl : l.length ≤ 1000000) (w : World) : Calls Tryz.prog 38 #[.string ⟨l.toArray⟩, .int .i64 i] w fun e w' => e = .returned (.int .i64 (Words.signLen (l.drop i))) ∧ w' = w := by
  have hs : i < (⟨l.toArray⟩ : ByteArray).size := h
  have hbv : (((⟨l.toArray⟩ : ByteArray)[i]'hs).toNat : Int) = (l[i].toNat : Int) := rfl
  have hsz : ((⟨l.toArray⟩ : ByteArray).size : Int) = l.length := rfl
  have hi1 : (i : Int) < l.length := by omega
  have core : ∀ two : Bool, (two = true ↔ ∃ h2 : i + 1 < l.length, l[i + 1].toNat = 61) → Calls Tryz.prog 38 #[.string ⟨l.toArray⟩, .int .i64 i] w fun e w' => e = .returned (.int .i64 (if l[i].toNat = 60 ∨ l[i].toNat = 62 ∨ l[i].toNat = 61 ∨ l[i].toNat = 47 then (if two = true then 2 else 1) else if l[i].toNat = 43 ∨ l[i].toNat = 45 ∨ l[i].toNat = 42 ∨ l[i].toNat = 40 ∨ l[i].toNat = 41 ∨ l[i].toNat = 44 then 1 else 0 : Nat)) ∧ w' = w := by
    intro two ht
    have hcase : (∃ (h2 : i + 1 < l.length), l[i + 1].toNat = 61 ∧ two = true) ∨ (∃ (h2 : i + 1 < l.length), l[i + 1].toNat ≠ 61 ∧ two = false) ∨ (¬ i + 1 < l.length ∧ two = false) := by
      by_cases h2 : i + 1 < l.length
      · by_cases h3 : l[i + 1].toNat = 61
        · exact .inl ⟨h2, h3, ht.2 ⟨h2, h3⟩⟩
        · refine .inr (.inl ⟨h2, h3, ?_⟩)
          cases two
          · rfl
          · obtain ⟨h4, h5⟩ := ht.1 rfl; exact absurd h5 h3
      · refine .inr (.inr ⟨h2, ?_⟩)
        cases two
        · rfl
        · obtain ⟨h4, h5⟩ := ht.1 rfl; exact absurd h4 h2
    clear ht
    generalize l[i].toNat = n at *
    have hn : n = 60 ∨ n = 62 ∨ n = 61 ∨ n = 47 ∨ n = 43 ∨ n = 45 ∨ n = 42 ∨ n = 40 ∨ n = 41 ∨ n = 44 ∨ (¬ (n = 60 ∨ n = 62 ∨ n = 61 ∨ n = 47) ∧ ¬ (n = 43 ∨ n = 45 ∨ n = 42 ∨ n = 40 ∨ n = 41 ∨ n = 44)) := by omega
    rcases hcase with ⟨h2, h3, rfl⟩ | ⟨h2, h3, rfl⟩ | ⟨h2, rfl⟩
    · have hs2 : i + 1 < (⟨l.toArray⟩ : ByteArray).size := h2
      have hb2 : (((⟨l.toArray⟩ : ByteArray)[i + 1]'hs2).toNat : Int) = 61 := by
        show (l[i + 1].toNat : Int) = 61
        rw [h3]; rfl
      have q1 : decide (i + 1 < l.length) = true := decide_eq_true h2
      have q2 : (i : Int) + 1 < l.length := by omega
      clear h3
      rcases hn with rfl | rfl | rfl | rfl | rfl | rfl | rfl | rfl | rfl | rfl | ⟨hn1, hn2⟩
      all_goals try (
        go_enter Tryz.func38, Tryz.ntmps38
        go_wp2
        go_ret
        exact ⟨rfl, rfl⟩)
      all_goals (
        rw [if_neg hn1, if_neg hn2]
        have k1 : ((n : Int) == 60) = false := by rw [beq_eq_false_iff_ne]; omega
        have k2 : ((n : Int) == 62) = false := by rw [beq_eq_false_iff_ne]; omega
        have k3 : ((n : Int) == 61) = false := by rw [beq_eq_false_iff_ne]; omega
        have k4 : ((n : Int) == 47) = false := by rw [beq_eq_false_iff_ne]; omega
        have k5 : ((n : Int) == 43) = false := by rw [beq_eq_false_iff_ne]; omega
        have k6 : ((n : Int) == 45) = false := by rw [beq_eq_false_iff_ne]; omega
        have k7 : ((n : Int) == 42) = false := by rw [beq_eq_false_iff_ne]; omega
        have k8 : ((n : Int) == 40) = false := by rw [beq_eq_false_iff_ne]; omega
        have k9 : ((n : Int) == 41) = false := by rw [beq_eq_false_iff_ne]; omega
        have k0 : ((n : Int) == 44) = false := by rw [beq_eq_false_iff_ne]; omega
        clear hn1 hn2
        go_enter Tryz.func38, Tryz.ntmps38
        go_wp2
        go_ret
        exact ⟨rfl, rfl⟩)
    · have hs2 : i + 1 < (⟨l.toArray⟩ : ByteArray).size := h2
      have hb2 : ((((⟨l.toArray⟩ : ByteArray)[i + 1]'hs2).toNat : Int) == 61) = false := by
        show ((l[i + 1].toNat : Int) == 61) = false
        rw [beq_eq_false_iff_ne]
        omega
      have q1 : decide (i + 1 < l.length) = true := decide_eq_true h2
      have q2 : (i : Int) + 1 < l.length := by omega
      clear h3
      rcases hn with rfl | rfl | rfl | rfl | rfl | rfl | rfl | rfl | rfl | rfl | ⟨hn1, hn2⟩
      all_goals try (
        go_enter Tryz.func38, Tryz.ntmps38
        go_wp2
        go_ret
        exact ⟨rfl, rfl⟩)
      all_goals (
        rw [if_neg hn1, if_neg hn2]
        have k1 : ((n : Int) == 60) = false := by rw [beq_eq_false_iff_ne]; omega
        have k2 : ((n : Int) == 62) = false := by rw [beq_eq_false_iff_ne]; omega
        have k3 : ((n : Int) == 61) = false := by rw [beq_eq_false_iff_ne]; omega
        have k4 : ((n : Int) == 47) = false := by rw [beq_eq_false_iff_ne]; omega
        have k5 : ((n : Int) == 43) = false := by rw [beq_eq_false_iff_ne]; omega
        have k6 : ((n : Int) == 45) = false := by rw [beq_eq_false_iff_ne]; omega
        have k7 : ((n : Int) == 42) = false := by rw [beq_eq_false_iff_ne]; omega
        have k8 : ((n : Int) == 40) = false := by rw [beq_eq_false_iff_ne]; omega
        have k9 : ((n : Int) == 41) = false := by rw [beq_eq_false_iff_ne]; omega
        have k0 : ((n : Int) == 44) = false := by rw [beq_eq_false_iff_ne]; omega
        clear hn1 hn2
        go_enter Tryz.func38, Tryz.ntmps38
        go_wp2
        go_ret
        exact ⟨rfl, rfl⟩)
    · have q1 : decide (i + 1 < l.length) = false := decide_eq_false h2
      rcases hn with rfl | rfl | rfl | rfl | rfl | rfl | rfl | rfl | rfl | rfl | ⟨hn1, hn2⟩
      all_goals try (
        go_enter Tryz.func38, Tryz.ntmps38
        go_wp2
        go_ret
        exact ⟨rfl, rfl⟩)
      all_goals (
        rw [if_neg hn1, if_neg hn2]
        have k1 : ((n : Int) == 60) = false := by rw [beq_eq_false_iff_ne]; omega
        have k2 : ((n : Int) == 62) = false := by rw [beq_eq_false_iff_ne]; omega
        have k3 : ((n : Int) == 61) = false := by rw [beq_eq_false_iff_ne]; omega
        have k4 : ((n : Int) == 47) = false := by rw [beq_eq_false_iff_ne]; omega
        have k5 : ((n : Int) == 43) = false := by rw [beq_eq_false_iff_ne]; omega
        have k6 : ((n : Int) == 45) = false := by rw [beq_eq_false_iff_ne]; omega
        have k7 : ((n : Int) == 42) = false := by rw [beq_eq_false_iff_ne]; omega
        have k8 : ((n : Int) == 40) = false := by rw [beq_eq_false_iff_ne]; omega
        have k9 : ((n : Int) == 41) = false := by rw [beq_eq_false_iff_ne]; omega
        have k0 : ((n : Int) == 44) = false := by rw [beq_eq_false_iff_ne]; omega
        clear hn1 hn2
        go_enter Tryz.func38, Tryz.ntmps38
        go_wp2
        go_ret
        exact ⟨rfl, rfl⟩)
  by_cases hx : ∃ h2 : i + 1 < l.length, l[i + 1].toNat = 61
  · rw [signLen_at l i h true ⟨fun _ => hx, fun _ => rfl⟩]
    exact core true ⟨fun _ => hx, fun _ => rfl⟩
  · rw [signLen_at l i h false ⟨fun h => (by cases h), fun h => absurd h hx⟩]
    exact core false ⟨fun h => (by cases h), fun h => absurd h hx⟩
end Go.Proofs.YtepnafnljfjeoaaGreatDoor.Line

namespace Go.Proofs.YtepnafnljfjeoaaGreatDoor.Line
open Go.ChangeShapes Go.WideShapes Go.ChangeAt Go.RowKit
set_option linter.unusedVariables false

theorem num_snoc (l : List UInt8) (c : UInt8) : Words.num (l ++ [c]) = 10 * Words.num l + (c.toNat - 48) := by
  unfold Words.num
  rw [List.foldl_append]
  rfl
theorem num_take (l : List UInt8) (i : Nat) (h : i < l.length) : Words.num (l.take (i + 1)) = 10 * Words.num (l.take i) + (l[i].toNat - 48) := by
  rw [List.take_succ_eq_append_getElem h, num_snoc]
theorem num_le (l : List UInt8) : ∀ i, Words.num (l.take i) ≤ Words.num l := by
  have key : ∀ (m : List UInt8) (a : Nat), a ≤ m.foldl (fun n c => 10 * n + (c.toNat - 48)) a := by
    intro m
    induction m with
    | nil => intro a; exact Nat.le_refl _
    | cons c m ih => intro a; exact Nat.le_trans (by omega) (ih (10 * a + (c.toNat - 48)))
  intro i
  conv => rhs; rw [← List.take_append_drop i l]
  unfold Words.num
  rw [List.foldl_append]
  exact key _ _

set_option maxHeartbeats 2000000 in
set_option maxRecDepth 100000 in
theorem refNumber_any (l : List UInt8) (hd : ∀ i (h : i < l.length), Words.digitB l[i] = true) (hl : l.length ≤ 1000000) (w : World) : Calls Tryz.prog 37 #[.string ⟨l.toArray⟩] w fun e w' =>
    e = .returned (.tuple #[.int .i64 ((if Words.num l ≤ Words.big then Words.num l else 0 : Nat) : Int), .bool (decide (Words.num l ≤ Words.big))]) ∧ w' = w := by
  have hsz : ((⟨l.toArray⟩ : ByteArray).size : Int) = l.length := rfl
  have HD := hide hd
  clear hd
  obtain ⟨ans, hans⟩ : ∃ a, Ending.returned (.tuple #[.int .i64 ((if Words.num l ≤ Words.big then Words.num l else 0 : Nat) : Int), .bool (decide (Words.num l ≤ Words.big))]) = a := ⟨_, rfl⟩
  rw [hans]
  have HANS := hide hans
  clear hans
  go_enter Tryz.func37, Tryz.ntmps37
  go_wp2
  go_loopw [4, 5] (fun x q wr => ∃ i : Nat, i ≤ l.length ∧ q = .int .i64 i ∧ x = .int .u64 (Words.num (l.take i) : Int) ∧ wr = w ∧ Hid (Words.num (l.take i) ≤ Words.big)) (fun _ q _ => l.length - (intOf q).toNat)
  case atStart => exact ⟨0, Nat.zero_le _, rfl, rfl, rfl, hide (Nat.zero_le _)⟩
  case round =>
    obtain ⟨i, hi, rfl, rfl, rfl, HB⟩ := hrel
    by_cases hlt : i < l.length
    · have hs : i < (⟨l.toArray⟩ : ByteArray).size := hlt
      have hbv : (((⟨l.toArray⟩ : ByteArray)[i]'hs).toNat : Int) = (l[i].toNat : Int) := rfl
      have hlt2 : (i : Int) < l.length := by omega
      have hdg := unhide HD i hlt
      unfold Words.digitB at hdg
      simp only [Bool.and_eq_true, decide_eq_true_eq] at hdg
      have HNT := hide (num_take l i hlt)
      have HLE := hide (num_le l (i + 1))
      have hnb := unhide HB
      generalize hnn : l[i].toNat = n at *
      generalize Words.num (l.take i) = m at *
      obtain ⟨d, rfl⟩ : ∃ d, n = d + 48 := ⟨n - 48, by omega⟩
      have hd9 : d ≤ 9 := by omega
      unfold Words.big at hnb
      clear hdg
      have e1 : ((d + 48 : Nat) : Int) - 48 = d := by omega
      by_cases hov : 10 * m + d ≤ 9223372036854775807
      · have q1 : ¬ (9223372036854775807 - (d : Int)) / 10 < (m : Int) := by omega
        have q2 : decide ((9223372036854775807 - (d : Int)) / 10 < (m : Int)) = false := decide_eq_false q1
        go_wp2_with fail
        go_roundw
        case rel => exact ⟨i + 1, by omega, by go_num, by rw [unhide HNT, show d + 48 - 48 = d by omega]; simp, trivial, hide (by rw [unhide HNT]; unfold Words.big; omega)⟩
        case measure => simp [intOf]; omega
      · have q1 : (9223372036854775807 - (d : Int)) / 10 < (m : Int) := by omega
        have q2 : decide ((9223372036854775807 - (d : Int)) / 10 < (m : Int)) = true := decide_eq_true q1
        have HOV : Hid (¬ Words.num l ≤ Words.big) := hide (by have h1 := unhide HNT; have h2 := unhide HLE; unfold Words.big; omega)
        go_wp2
        refine bodyPost_ret (v := .tuple #[.int .i64 0, .bool false]) (by simp [results, Tryz.results37, go_sem]) rfl ⟨?_, rfl⟩
        rw [← unhide HANS, if_neg (unhide HOV), decide_eq_false (unhide HOV)]
        rfl
    · have hil : i = l.length := by omega
      have HQ : Hid (l.take i = l) := hide (by rw [hil, List.take_length])
      have hnb := unhide HB
      rw [unhide HQ] at hnb
      have HNB := hide hnb
      unfold Words.big at hnb
      rw [unhide HQ]
      generalize hm : Words.num l = m at *
      clear hil
      have HM := hide hm
      clear hm
      go_wp2
      refine bodyPost_ret (v := .tuple #[.int .i64 (m : Int), .bool true]) (by simp [results, Tryz.results37, go_sem]) rfl ⟨?_, rfl⟩
      rw [← unhide HANS, if_pos (unhide HNB), decide_eq_true (unhide HNB)]
end Go.Proofs.YtepnafnljfjeoaaGreatDoor.Line

namespace Go.Proofs.YtepnafnljfjeoaaGreatDoor.Line
open Go.ChangeShapes Go.WideShapes Go.ChangeAt Go.RowKit
set_option linter.unusedVariables false

abbrev wWord : List UInt8 := [119, 111, 114, 100]
def tokV (t : Words.T) : List Value := [.int .i64 t.kind, .string ⟨t.text.toArray⟩, .int .i64 t.pos, .int .i64 t.n]
def flatT (l : List Words.T) : List Value := l.flatMap tokV
theorem flatT_length (l : List Words.T) : (flatT l).length = l.length * 4 := by
  induction l with
  | nil => rfl
  | cons t l ih => show (tokV t ++ flatT l).length = _; rw [List.length_append, ih, List.length_cons]; show 4 + l.length * 4 = _; omega
theorem flatT_snoc (l : List Words.T) (t : Words.T) : flatT (l ++ [t]) = flatT l ++ tokV t := by simp [flatT]
theorem flatT_at (l : List Words.T) : ∀ (i : Nat) (h : i < l.length), (flatT l)[i * 4]? = some (.int .i64 l[i].kind) ∧ (flatT l)[i * 4 + 1]? = some (.string ⟨l[i].text.toArray⟩) ∧ (flatT l)[i * 4 + 2]? = some (.int .i64 l[i].pos) ∧ (flatT l)[i * 4 + 3]? = some (.int .i64 l[i].n) := by
  induction l with
  | nil => intro i h; simp at h
  | cons t l ih =>
    intro i h
    have e : flatT (t :: l) = .int .i64 t.kind :: .string ⟨t.text.toArray⟩ :: .int .i64 t.pos :: .int .i64 t.n :: flatT l := rfl
    cases i with
    | zero => rw [e]; exact ⟨rfl, rfl, rfl, rfl⟩
    | succ i =>
      have := ih i (by simpa using h)
      rw [e]
      rw [show (i + 1) * 4 = i * 4 + 4 by omega, show i * 4 + 4 + 1 = (i * 4 + 1) + 4 by omega, show i * 4 + 4 + 2 = (i * 4 + 2) + 4 by omega, show i * 4 + 4 + 3 = (i * 4 + 3) + 4 by omega]
      simpa using this
/-- words of a call's own, of type T -/
def OwnT (T : TypeId) (base : Nat) (w : World) (v : Value) (l : List Words.T) : Prop := w.ownsRow base T 4 v l.length (flatT l)
/-- words that are only read -/
def Tks (w : World) (v : Value) (l : List Words.T) : Prop :=
  (∃ a cap, v = .slice a 0 cap ∧ l = []) ∨
  (∃ b off cap, v = .slice (some ⟨b, off, none⟩) l.length cap ∧ l.length ≤ cap ∧ ∀ i (h : i < l.length), w.cell? ⟨b, off + i * 4, none⟩ = some (.int .i64 l[i].kind) ∧ w.cell? ⟨b, off + i * 4 + 1, none⟩ = some (.string ⟨l[i].text.toArray⟩) ∧ w.cell? ⟨b, off + i * 4 + 2, none⟩ = some (.int .i64 l[i].pos) ∧ w.cell? ⟨b, off + i * 4 + 3, none⟩ = some (.int .i64 l[i].n))
theorem OwnT.nil (T : TypeId) (base : Nat) (w : World) : OwnT T base w (.slice none 0 0) [] := World.ownsRow_nil _ _ _ _
theorem ownsRow_below {base size n : Nat} {T : TypeId} {w w' : World} {v : Value} {xs : List Value} (h : w.ownsRow base T size v n xs) (hb : Below w.heap.size w w') : w'.ownsRow base T size v n xs := by
  obtain ⟨h1, h2⟩ := h
  refine ⟨h1, ?_⟩
  rcases h2 with h2 | ⟨g, cap, cur, hv, hg, hh, r⟩
  · exact .inl h2
  · refine .inr ⟨g, cap, cur, hv, hg, ?_, r⟩
    rw [hb.block g (by
      rcases Nat.lt_or_ge g w.heap.size with h | h
      · exact h
      · rw [Array.getElem?_eq_none h] at hh; cases hh)]
    exact hh
theorem OwnT.below {T : TypeId} {base : Nat} {w w' : World} {v : Value} {l : List Words.T} (h : OwnT T base w v l) (hb : Below w.heap.size w w') : OwnT T base w' v l := ownsRow_below h hb
theorem OwnT.tks {T : TypeId} {base : Nat} {w : World} {v : Value} {l : List Words.T} (h : OwnT T base w v l) : Tks w v l := by
  have h2' := h
  obtain ⟨h4, h5⟩ := h
  rcases h5 with ⟨rfl, h5⟩ | ⟨g, cap, cur, rfl, hg, hh, hc, r⟩
  · exact .inl ⟨none, 0, rfl, List.length_eq_zero_iff.1 h5⟩
  · refine .inr ⟨g, 0, cap, rfl, hc, fun i hi => ?_⟩
    obtain ⟨f0, f1, f2, f3⟩ := flatT_at l i hi
    have c0 := World.ownsRow.cellAt h2' (i * 4) (by omega)
    have c1 := World.ownsRow.cellAt h2' (i * 4 + 1) (by omega)
    have c2 := World.ownsRow.cellAt h2' (i * 4 + 2) (by omega)
    have c3 := World.ownsRow.cellAt h2' (i * 4 + 3) (by omega)
    simp only [Nat.zero_add]
    exact ⟨c0.trans f0, c1.trans f1, c2.trans f2, c3.trans f3⟩
theorem Tks.shape {w : World} {v : Value} {l : List Words.T} (h : Tks w v l) : ∃ a cap, v = .slice a l.length cap := by
  rcases h with ⟨a, cap, rfl, rfl⟩ | ⟨b, off, cap, rfl, _⟩
  · exact ⟨_, _, rfl⟩
  · exact ⟨_, _, rfl⟩
theorem Tks.below {w w' : World} {v : Value} {l : List Words.T} (h : Tks w v l) (hb : Below w.heap.size w w') : Tks w' v l := by
  rcases h with h | ⟨b, off, cap, rfl, hc, h⟩
  · exact .inl h
  · refine .inr ⟨b, off, cap, rfl, hc, fun i hi => ?_⟩
    obtain ⟨h0, h1, h2, h3⟩ := h i hi
    have hl := cell_lt h0
    exact ⟨by rw [hb.cell (p := ⟨b, off + i * 4, none⟩) hl]; exact h0, by rw [hb.cell (p := ⟨b, off + i * 4 + 1, none⟩) hl]; exact h1, by rw [hb.cell (p := ⟨b, off + i * 4 + 2, none⟩) hl]; exact h2, by rw [hb.cell (p := ⟨b, off + i * 4 + 3, none⟩) hl]; exact h3⟩
theorem Tks.drewN {w : World} {v : Value} {l : List Words.T} (h : Tks w v l) (n : Nat) : Tks (w.drewN n) v l := h.below (below_drewN (Below.refl _ _) n)
theorem infoRTok : (Tryz.prog.info? 81).map (fun i => (i.zero, i.size, i.bytes)) = some (some (.agg #[.int .i64 0, .string ⟨#[]⟩, .int .i64 0, .int .i64 0]), 4, 40) := by kernel_rfl
theorem infoTok : (Tryz.prog.info? 90).map (fun i => (i.zero, i.size, i.bytes)) = some (some (.agg #[.int .i64 0, .string ⟨#[]⟩, .int .i64 0, .int .i64 0]), 4, 40) := by kernel_rfl
/-- one word more (the reference's) -/
theorem append_rtok {base : Nat} {w : World} {s : Value} {l : List Words.T} (hs : OwnT 81 base w s l) (t : Words.T) (hb : base ≤ w.heap.size) (hl : l.length + 1 ≤ 1000000) :
    ∃ v' w', (Builtin.append_ #[34, 34] 34 #[s, .slice (some ⟨w.heap.size, 0, none⟩) 1 1]).run Tryz.prog (w.alloc (.cells #[.int .i64 t.kind, .string ⟨t.text.toArray⟩, .int .i64 t.pos, .int .i64 t.n] 81)) = .ok v' w' ∧ OwnT 81 base w' v' (l ++ [t]) ∧ (w.alloc (.cells #[.int .i64 t.kind, .string ⟨t.text.toArray⟩, .int .i64 t.pos, .int .i64 t.n] 81)).grownBy w' s.ownBlock := by
  obtain ⟨i0, hi, hz0, hz1, hz2⟩ := info_parts infoRTok
  obtain ⟨v', w', hr, ho, hgr, _⟩ := run_append_own (P := Tryz.prog) (w.alloc (.cells #[.int .i64 t.kind, .string ⟨t.text.toArray⟩, .int .i64 t.pos, .int .i64 t.n] 81)) base 34 34 81 i0 _ 4 40 Tryz.underlying34 hi hz0 hz1 hz2 rfl (by decide) s l.length (flatT l) (World.ownsRow.alloc hs _) ⟨w.heap.size, 0, none⟩ 1 1 (tokV t) rfl
    (World.news_of_block (cs := #[.int .i64 t.kind, .string ⟨t.text.toArray⟩, .int .i64 t.pos, .int .i64 t.n]) (t := 81) (fr := (0, 0)) (by show (w.heap.push _)[w.heap.size]? = _; exact Array.getElem?_push_size))
    (by intro u hu; simp [tokV] at hu; rcases hu with rfl | rfl | rfl | rfl <;> rfl) (by unfold maxLen; omega) (by omega) (by simp; omega)
  refine ⟨v', w', hr, ?_, hgr⟩
  unfold OwnT
  rw [flatT_snoc, List.length_append]
  exact ho
/-- an append of such words in a plain region, by its run -/
theorem wpList_append_runT {ops : Array Oper} {rest : List Oper} {o : Oper} {a : Act} {w : World} {Q : Exit → Act → World → Prop} (hgd : o.guard = none) (s x : Operand)
    (ho : o.op = .call { callee := .builtin .append, args := #[s, x], argTypes := #[34, 34] }) (hty : o.type = 34) (sv xv : Value) (hs : a.eval s = sv) (hx : a.eval x = xv) (v' : Value) (w' : World)
    (hr : (Builtin.append_ #[34, 34] 34 #[sv, xv]).run Tryz.prog w = .ok v' w') (h : wpList Tryz.prog ops Q rest (a.put o.dst v') w') : wpList Tryz.prog ops Q (o :: rest) a w := by
  refine wpList_plain hgd fun K hK => ?_
  unfold Oper.wp execOp
  simp only [ho, hty, resolve, invoke, builtin, Sem.run_bind, Sem.run_pure, Result.andThen_ok, List.map_toArray, List.map_cons, List.map_nil, hs, hx, hr]
  exact hK _ _ h
/-- the block of the named result, behind a call that wrote new memory alone -/
theorem res_cells {w w2 : World} (hB : Below (w.heap.size + 1) (w.alloc (.cells #[.slice none 0 0, .int .i64 0] 37)) w2) :
    w2.cell? ⟨w.heap.size, 0, none⟩ = some (.slice none 0 0) ∧ w2.cell? ⟨w.heap.size, 1, none⟩ = some (.int .i64 0) ∧ w2.frozen? ⟨w.heap.size, 0, none⟩ = false ∧ w2.frozen? ⟨w.heap.size, 1, none⟩ = false ∧ w.heap.size + 1 ≤ w2.heap.size ∧ Below w.heap.size w w2 := by
  refine ⟨?_, ?_, ?_, ?_, by have := hB.size; simpa using this, ((Below.refl _ _).alloc (Nat.le_refl _) _).trans (hB.mono (by omega))⟩
  · rw [hB.cell (p := ⟨w.heap.size, 0, none⟩) (by simp)]; simp
  · rw [hB.cell (p := ⟨w.heap.size, 1, none⟩) (by simp)]; simp
  · rw [hB.frozen (p := ⟨w.heap.size, 0, none⟩) (by simp)]; simp
  · rw [hB.frozen (p := ⟨w.heap.size, 1, none⟩) (by simp)]; simp
theorem told_mk {w w2 : World} {b k err : Nat} {word : List UInt8} {u u' : Value} (he : err ≠ 0) (hb : w.heap.size + 1 ≤ b) (h0 : w2.cell? ⟨b, 0, none⟩ = some (.string ⟨word.toArray⟩)) (h1 : w2.cell? ⟨b, 1, none⟩ = some (.int .i64 k)) :
    Told w.heap.size ((w2.setCell ⟨w.heap.size, 0, none⟩ u).setCell ⟨w.heap.size, 1, none⟩ u') (.agg #[.slice (some ⟨b, 0, none⟩) 1 1, .int .i64 err]) word k err := by
  have h : Told (w.heap.size + 1) w2 (.agg #[.slice (some ⟨b, 0, none⟩) 1 1, .int .i64 err]) word k err := .inr ⟨he, b, hb, rfl, h0, h1⟩
  exact ((h.setCell ⟨w.heap.size, 0, none⟩ (by simp) u).setCell ⟨w.heap.size, 1, none⟩ (by simp) u').mono (by omega)
end Go.Proofs.YtepnafnljfjeoaaGreatDoor.Line
