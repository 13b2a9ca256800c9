/- The contracts of the reference's letter, digit, behind, IsKey, sign, number.
   The contract of the reference's number.
   Words in memory: a row of a call's own (OwnT), one that is only read (Tks); one more word behind it; the named result's block.
   The contract of the reference's Toks. -/
import Derived.Test.YtomnbidppkpfiaaDoorBaseAll
import Derived.Test.YtomnbidppkpfiaaDoorPlainX
import Derived.Laws.OwnMore
import Derived.Deep.AppendLies
import Derived.Deep.CutBlock
namespace Go.Proofs.YtomnbidppkpfiaaDoor.Line
open Go.ChangeShapes Go.WideShapes Go.ChangeAt Go.RowKit
set_option linter.unusedVariables false

theorem letter_any (c : UInt8) (w : World) : Calls Tryd.prog 39 #[.int .u8 (c.toNat : Int)] w fun e w' => e = .returned (.bool (Words.letterB c)) ∧ w' = w := by
  have hE : Words.letterB c = (decide (97 ≤ c.toNat) && decide (c.toNat ≤ 122)) := rfl
  rw [hE]
  clear hE
  generalize c.toNat = n
  by_cases h1 : 97 ≤ n
  · have q1 : decide (97 ≤ n) = true := decide_eq_true h1
    go_enter Tryd.func39, Tryd.ntmps39
    go_wp2
    go_ret
    refine ⟨ret_bool ?_, rfl⟩
    simp [h1]
    omega
  · have q1 : decide (97 ≤ n) = false := decide_eq_false h1
    go_enter Tryd.func39, Tryd.ntmps39
    go_wp2
    go_ret
    refine ⟨ret_bool ?_, rfl⟩
    simp
theorem digit_any (c : UInt8) (w : World) : Calls Tryd.prog 42 #[.int .u8 (c.toNat : Int)] w fun e w' => e = .returned (.bool (Words.digitB c)) ∧ w' = w := by
  have hE : Words.digitB c = (decide (48 ≤ c.toNat) && decide (c.toNat ≤ 57)) := rfl
  rw [hE]
  clear hE
  generalize c.toNat = n
  by_cases h1 : 48 ≤ n
  · have q1 : decide (48 ≤ n) = true := decide_eq_true h1
    go_enter Tryd.func42, Tryd.ntmps42
    go_wp2
    go_ret
    refine ⟨ret_bool ?_, rfl⟩
    simp [h1]
    omega
  · have q1 : decide (48 ≤ n) = false := decide_eq_false h1
    go_enter Tryd.func42, Tryd.ntmps42
    go_wp2
    go_ret
    refine ⟨ret_bool ?_, rfl⟩
    simp
theorem behind_any (c : UInt8) (w : World) : Calls Tryd.prog 40 #[.int .u8 (c.toNat : Int)] w fun e w' => e = .returned (.bool (Words.behindB c)) ∧ w' = w := by
  have hE : Words.behindB c = (Words.letterB c || Words.digitB c || decide (c.toNat = 95)) := rfl
  rw [hE]
  clear hE
  have HL := hide (letter_any c w)
  have HD := hide (digit_any c w)
  generalize Words.letterB c = bl at *
  generalize Words.digitB c = bd at *
  generalize c.toNat = n at *
  cases bl
  · cases bd
    · go_enter Tryd.func40, Tryd.ntmps40
      go_wp2_with (first | (go_at_call 39; refine (unhide HL).mono ?_; rintro e w1 ⟨rfl, rfl⟩) | (go_at_call 42; refine (unhide HD).mono ?_; rintro e w1 ⟨rfl, rfl⟩))
      go_ret
      refine ⟨ret_bool ?_, rfl⟩
      simp only [Bool.false_or]
      by_cases h : n = 95
      · subst h; rfl
      · rw [decide_eq_false h]
        rw [beq_eq_false_iff_ne]
        omega
    · go_enter Tryd.func40, Tryd.ntmps40
      go_wp2_with (first | (go_at_call 39; refine (unhide HL).mono ?_; rintro e w1 ⟨rfl, rfl⟩) | (go_at_call 42; refine (unhide HD).mono ?_; rintro e w1 ⟨rfl, rfl⟩))
      go_ret
      exact ⟨rfl, rfl⟩
  · go_enter Tryd.func40, Tryd.ntmps40
    go_wp2_with (go_at_call 39; refine (unhide HL).mono ?_; rintro e w1 ⟨rfl, rfl⟩)
    go_ret
    exact ⟨rfl, rfl⟩

abbrev keyCells : Array Value := #[.string ⟨#[105, 110, 116, 101, 103, 101, 114]⟩, .string ⟨#[100, 111]⟩, .string ⟨#[101, 110, 100]⟩, .string ⟨#[105, 102]⟩, .string ⟨#[116, 104, 101, 110]⟩, .string ⟨#[101, 108, 115, 101]⟩, .string ⟨#[114, 101, 97, 100]⟩, .string ⟨#[112, 114, 105, 110, 116]⟩]
theorem isKey_yes (l : List UInt8) (i : Nat) (h : i < Words.keys.length) (he : Words.keys[i] = l) : Words.isKey l = true := by
  unfold Words.isKey
  rw [List.contains_iff_mem, ← he]
  exact List.getElem_mem h
theorem isKey_no (l : List UInt8) (h : ∀ j (hj : j < Words.keys.length), Words.keys[j] ≠ l) : Words.isKey l = false := by
  rw [← Bool.not_eq_true]
  intro h1
  unfold Words.isKey at h1
  rw [List.contains_iff_mem] at h1
  obtain ⟨j, hj, he⟩ := List.getElem_of_mem h1
  exact h j hj he
set_option maxHeartbeats 1000000 in
theorem refIsKey_any (l : List UInt8) (w : World) : Calls Tryd.prog 41 #[.string ⟨l.toArray⟩] w fun e w' => e = .returned (.bool (Words.isKey l)) ∧ Below w.heap.size w w' := by
  have hrow : Row (w.alloc (.cells keyCells 9)) (.slice (some ⟨w.heap.size, 0, none⟩) 8 8) Words.keys := (show Own w.heap.size (w.alloc (.cells keyCells 9)) (.slice (some ⟨w.heap.size, 0, none⟩) 8 8) Words.keys from World.ownsRow_lit w keyCells 8 (Nat.le_refl _) (by decide) rfl).row
  have hcell : ∀ i (h : i < Words.keys.length), (w.alloc (.cells keyCells 9)).cell? ⟨w.heap.size, i, none⟩ = some (.string ⟨(Words.keys[i]).toArray⟩) := by
    rcases hrow with ⟨_, _, h, _⟩ | ⟨b, off, c, h1, _, h2⟩
    · cases h
    · injection h1 with h1
      injection h1 with h1
      injection h1 with h1 h3
      subst h1
      subst h3
      intro i hi
      have := h2 i hi
      rwa [Nat.zero_add] at this
  have HC := hide hcell
  clear hcell hrow
  go_enter Tryd.func41, Tryd.ntmps41
  go_wp2_with fail
  have hb := alloc_below w (.cells keyCells 9)
  have HB := hide hb
  clear hb
  generalize w.alloc (.cells keyCells 9) = W at *
  generalize hB0 : w.heap.size = B0 at *
  have HB0 := hide hB0
  clear hB0
  go_loopw [4] (fun q wr => ∃ i : Nat, i ≤ 8 ∧ q = .int .i64 i ∧ wr = W ∧ Hid (∀ j (hj : j < Words.keys.length), j < i → Words.keys[j] ≠ l)) (fun q _ => 8 - (intOf q).toNat)
  case atStart => exact ⟨0, by omega, rfl, rfl, hide (fun j hj h => by omega)⟩
  case round =>
    obtain ⟨i, hi, rfl, rfl, HN⟩ := hrel
    by_cases hlt : i < 8
    · have c1 := unhide HC i hlt
      have HK := hide (isKey_yes l i hlt)
      have HN2 : Hid (Words.keys[i] ≠ l → ∀ j (hj : j < Words.keys.length), j < i + 1 → Words.keys[j] ≠ l) := hide (fun h j hj hji => by
        by_cases e : j = i
        · subst e; exact h
        · exact unhide HN j hj (by omega))
      generalize Words.keys[i] = x at *
      by_cases hx : x = l
      · subst hx
        go_wp2
        go_ret
        exact ⟨ret_bool (unhide HK trivial).symm, by rw [unhide HB0]; exact unhide HB⟩
      · have hxb : (x == l) = false := beq_eq_false_iff_ne.2 hx
        have HN3 := hide (unhide HN2 hx)
        go_wp2
        go_roundw
        case rel => exact ⟨i + 1, by omega, by go_num, trivial, HN3⟩
        case measure => simp [intOf]; omega
    · have HK := hide (isKey_no l (fun j hj => unhide HN j hj (by have : j < 8 := hj; omega)))
      go_wp2
      go_ret
      exact ⟨ret_bool (unhide HK).symm, by rw [unhide HB0]; exact unhide HB⟩

theorem signLen_at (l : List UInt8) (i : Nat) (h : i < l.length) (two : Bool) (ht : two = true ↔ ∃ h2 : i + 1 < l.length, l[i + 1].toNat = 61) : Words.signLen (l.drop i) = if l[i].toNat = 60 ∨ l[i].toNat = 62 ∨ l[i].toNat = 61 ∨ l[i].toNat = 47 then (if two = true then 2 else 1) else if l[i].toNat = 43 ∨ l[i].toNat = 45 ∨ l[i].toNat = 42 ∨ l[i].toNat = 40 ∨ l[i].toNat = 41 ∨ l[i].toNat = 44 then 1 else 0 := by
  rw [List.drop_eq_getElem_cons h]
  have e : ((l.drop (i + 1)).head? = some 61) = (two = true) := by
    rw [List.head?_drop]
    apply propext
    constructor
    · intro h1
      obtain ⟨h2, h3⟩ := List.getElem?_eq_some_iff.1 h1
      exact ht.2 ⟨h2, by rw [h3]; rfl⟩
    · intro h1
      obtain ⟨h2, h3⟩ := ht.1 h1
      rw [List.getElem?_eq_getElem h2]
      exact congrArg some (UInt8.toNat.inj h3)
  simp only [Words.signLen, e]
set_option maxHeartbeats 4000000 in
theorem refSign_any (l : List UInt8) (i : Nat) (h : i < l.length) (hl : l.length ≤ 1000000) (w : World) : Calls Tryd.prog 44 #[.string ⟨l.toArray⟩, .int .i64 i] w fun e w' => e = .returned (.int .i64 (Words.signLen (l.drop i))) ∧ w' = w := by
  have hs : i < (⟨l.toArray⟩ : ByteArray).size := h
  have hbv : (((⟨l.toArray⟩ : ByteArray)[i]'hs).toNat : Int) = (l[i].toNat : Int) := rfl
  have hsz : ((⟨l.toArray⟩ : ByteArray).size : Int) = l.length := rfl
  have hi1 : (i : Int) < l.length := by omega
  have core : ∀ two : Bool, (two = true ↔ ∃ h2 : i + 1 < l.length, l[i + 1].toNat = 61) → Calls Tryd.prog 44 #[.string ⟨l.toArray⟩, .int .i64 i] w fun e w' => e = .returned (.int .i64 (if l[i].toNat = 60 ∨ l[i].toNat = 62 ∨ l[i].toNat = 61 ∨ l[i].toNat = 47 then (if two = true then 2 else 1) else if l[i].toNat = 43 ∨ l[i].toNat = 45 ∨ l[i].toNat = 42 ∨ l[i].toNat = 40 ∨ l[i].toNat = 41 ∨ l[i].toNat = 44 then 1 else 0 : Nat)) ∧ w' = w := by
    intro two ht
    have hcase : (∃ (h2 : i + 1 < l.length), l[i + 1].toNat = 61 ∧ two = true) ∨ (∃ (h2 : i + 1 < l.length), l[i + 1].toNat ≠ 61 ∧ two = false) ∨ (¬ i + 1 < l.length ∧ two = false) := by
      by_cases h2 : i + 1 < l.length
      · by_cases h3 : l[i + 1].toNat = 61
        · exact .inl ⟨h2, h3, ht.2 ⟨h2, h3⟩⟩
        · refine .inr (.inl ⟨h2, h3, ?_⟩)
          cases two
          · rfl
          · obtain ⟨h4, h5⟩ := ht.1 rfl; exact absurd h5 h3
      · refine .inr (.inr ⟨h2, ?_⟩)
        cases two
        · rfl
        · obtain ⟨h4, h5⟩ := ht.1 rfl; exact absurd h4 h2
    clear ht
    generalize l[i].toNat = n at *
    have hn : n = 60 ∨ n = 62 ∨ n = 61 ∨ n = 47 ∨ n = 43 ∨ n = 45 ∨ n = 42 ∨ n = 40 ∨ n = 41 ∨ n = 44 ∨ (¬ (n = 60 ∨ n = 62 ∨ n = 61 ∨ n = 47) ∧ ¬ (n = 43 ∨ n = 45 ∨ n = 42 ∨ n = 40 ∨ n = 41 ∨ n = 44)) := by omega
    rcases hcase with ⟨h2, h3, rfl⟩ | ⟨h2, h3, rfl⟩ | ⟨h2, rfl⟩
    · have hs2 : i + 1 < (⟨l.toArray⟩ : ByteArray).size := h2
      have hb2 : (((⟨l.toArray⟩ : ByteArray)[i + 1]'hs2).toNat : Int) = 61 := by
        show (l[i + 1].toNat : Int) = 61
        rw [h3]; rfl
      have q1 : decide (i + 1 < l.length) = true := decide_eq_true h2
      have q2 : (i : Int) + 1 < l.length := by omega
      clear h3
      rcases hn with rfl | rfl | rfl | rfl | rfl | rfl | rfl | rfl | rfl | rfl | ⟨hn1, hn2⟩
      all_goals try (
        go_enter Tryd.func44, Tryd.ntmps44
        go_wp2
        go_ret
        exact ⟨rfl, rfl⟩)
      all_goals (
        rw [if_neg hn1, if_neg hn2]
        have k1 : ((n : Int) == 60) = false := by rw [beq_eq_false_iff_ne]; omega
        have k2 : ((n : Int) == 62) = false := by rw [beq_eq_false_iff_ne]; omega
        have k3 : ((n : Int) == 61) = false := by rw [beq_eq_false_iff_ne]; omega
        have k4 : ((n : Int) == 47) = false := by rw [beq_eq_false_iff_ne]; omega
        have k5 : ((n : Int) == 43) = false := by rw [beq_eq_false_iff_ne]; omega
        have k6 : ((n : Int) == 45) = false := by rw [beq_eq_false_iff_ne]; omega
        have k7 : ((n : Int) == 42) = false := by rw [beq_eq_false_iff_ne]; omega
        have k8 : ((n : Int) == 40) = false := by rw [beq_eq_false_iff_ne]; omega
        have k9 : ((n : Int) == 41) = false := by rw [beq_eq_false_iff_ne]; omega
        have k0 : ((n : Int) == 44) = false := by rw [beq_eq_false_iff_ne]; omega
        clear hn1 hn2
        go_enter Tryd.func44, Tryd.ntmps44
        go_wp2
        go_ret
        exact ⟨rfl, rfl⟩)
    · have hs2 : i + 1 < (⟨l.toArray⟩ : ByteArray).size := h2
      have hb2 : ((((⟨l.toArray⟩ : ByteArray)[i + 1]'hs2).toNat : Int) == 61) = false := by
        show ((l[i + 1].toNat : Int) == 61) = false
        rw [beq_eq_false_iff_ne]
        omega
      have q1 : decide (i + 1 < l.length) = true := decide_eq_true h2
      have q2 : (i : Int) + 1 < l.length := by omega
      clear h3
      rcases hn with rfl | rfl | rfl | rfl | rfl | rfl | rfl | rfl | rfl | rfl | ⟨hn1, hn2⟩
      all_goals try (
        go_enter Tryd.func44, Tryd.ntmps44
        go_wp2
        go_ret
        exact ⟨rfl, rfl⟩)
      all_goals (
        rw [if_neg hn1, if_neg hn2]
        have k1 : ((n : Int) == 60) = false := by rw [beq_eq_false_iff_ne]; omega
        have k2 : ((n : Int) == 62) = false := by rw [beq_eq_false_iff_ne]; omega
        have k3 : ((n : Int) == 61) = false := by rw [beq_eq_false_iff_ne]; omega
        have k4 : ((n : Int) == 47) = false := by rw [beq_eq_false_iff_ne]; omega
        have k5 : ((n : Int) == 43) = false := by rw [beq_eq_false_iff_ne]; omega
        have k6 : ((n : Int) == 45) = false := by rw [beq_eq_false_iff_ne]; omega
        have k7 : ((n : Int) == 42) = false := by rw [beq_eq_false_iff_ne]; omega
        have k8 : ((n : Int) == 40) = false := by rw [beq_eq_false_iff_ne]; omega
        have k9 : ((n : Int) == 41) = false := by rw [beq_eq_false_iff_ne]; omega
        have k0 : ((n : Int) == 44) = false := by rw [beq_eq_false_iff_ne]; omega
        clear hn1 hn2
        go_enter Tryd.func44, Tryd.ntmps44
        go_wp2
        go_ret
        exact ⟨rfl, rfl⟩)
    · have q1 : decide (i + 1 < l.length) = false := decide_eq_false h2
      rcases hn with rfl | rfl | rfl | rfl | rfl | rfl | rfl | rfl | rfl | rfl | ⟨hn1, hn2⟩
      all_goals try (
        go_enter Tryd.func44, Tryd.ntmps44
        go_wp2
        go_ret
        exact ⟨rfl, rfl⟩)
      all_goals (
        rw [if_neg hn1, if_neg hn2]
        have k1 : ((n : Int) == 60) = false := by rw [beq_eq_false_iff_ne]; omega
        have k2 : ((n : Int) == 62) = false := by rw [beq_eq_false_iff_ne]; omega
        have k3 : ((n : Int) == 61) = false := by rw [beq_eq_false_iff_ne]; omega
        have k4 : ((n : Int) == 47) = false := by rw [beq_eq_false_iff_ne]; omega
        have k5 : ((n : Int) == 43) = false := by rw [beq_eq_false_iff_ne]; omega
        have k6 : ((n : Int) == 45) = false := by rw [beq_eq_false_iff_ne]; omega
        have k7 : ((n : Int) == 42) = false := by rw [beq_eq_false_iff_ne]; omega
        have k8 : ((n : Int) == 40) = false := by rw [beq_eq_false_iff_ne]; omega
        have k9 : ((n : Int) == 41) = false := by rw [beq_eq_false_iff_ne]; omega
        have k0 : ((n : Int) == 44) = false := by rw [beq_eq_false_iff_ne]; omega
        clear hn1 hn2
        go_enter Tryd.func44, Tryd.ntmps44
        go_wp2
        go_ret
        exact ⟨rfl, rfl⟩)
  by_cases hx : ∃ h2 : i + 1 < l.length, l[i + 1].toNat = 61
  · rw [signLen_at l i h true ⟨fun _ => hx, fun _ => rfl⟩]
    exact core true ⟨fun _ => hx, fun _ => rfl⟩
  · rw [signLen_at l i h false ⟨fun h => (by cases h), fun h => absurd h hx⟩]
    exact core false ⟨fun h => (by cases h), fun h => absurd h hx⟩
end Go.Proofs.YtomnbidppkpfiaaDoor.Line

namespace Go.Proofs.YtomnbidppkpfiaaDoor.Line
open Go.ChangeShapes Go.WideShapes Go.ChangeAt Go.RowKit
set_option linter.unusedVariables false

theorem num_snoc (l : List UInt8) (c : UInt8) : Words.num (l ++ [c]) = 10 * Words.num l + (c.toNat - 48) := by
  unfold Words.num
  rw [List.foldl_append]
  rfl
theorem num_take (l : List UInt8) (i : Nat) (h : i < l.length) : Words.num (l.take (i + 1)) = 10 * Words.num (l.take i) + (l[i].toNat - 48) := by
  rw [List.take_succ_eq_append_getElem h, num_snoc]
theorem num_le (l : List UInt8) : ∀ i, Words.num (l.take i) ≤ Words.num l := by
  have key : ∀ (m : List UInt8) (a : Nat), a ≤ m.foldl (fun n c => 10 * n + (c.toNat - 48)) a := by
    intro m
    induction m with
    | nil => intro a; exact Nat.le_refl _
    | cons c m ih => intro a; exact Nat.le_trans (by omega) (ih (10 * a + (c.toNat - 48)))
  intro i
  conv => rhs; rw [← List.take_append_drop i l]
  unfold Words.num
  rw [List.foldl_append]
  exact key _ _

set_option maxHeartbeats 2000000 in
set_option maxRecDepth 100000 in
theorem refNumber_any (l : List UInt8) (hd : ∀ i (h : i < l.length), Words.digitB l[i] = true) (hl : l.length ≤ 1000000) (w : World) : Calls Tryd.prog 43 #[.string ⟨l.toArray⟩] w fun e w' =>
    e = .returned (.tuple #[.int .i64 ((if Words.num l ≤ Words.big then Words.num l else 0 : Nat) : Int), .bool (decide (Words.num l ≤ Words.big))]) ∧ w' = w := by
  have hsz : ((⟨l.toArray⟩ : ByteArray).size : Int) = l.length := rfl
  have HD := hide hd
  clear hd
  obtain ⟨ans, hans⟩ : ∃ a, Ending.returned (.tuple #[.int .i64 ((if Words.num l ≤ Words.big then Words.num l else 0 : Nat) : Int), .bool (decide (Words.num l ≤ Words.big))]) = a := ⟨_, rfl⟩
  rw [hans]
  have HANS := hide hans
  clear hans
  go_enter Tryd.func43, Tryd.ntmps43
  go_wp2
  go_loopw [4, 5] (fun x q wr => ∃ i : Nat, i ≤ l.length ∧ q = .int .i64 i ∧ x = .int .u64 (Words.num (l.take i) : Int) ∧ wr = w ∧ Hid (Words.num (l.take i) ≤ Words.big)) (fun _ q _ => l.length - (intOf q).toNat)
  case atStart => exact ⟨0, Nat.zero_le _, rfl, rfl, rfl, hide (Nat.zero_le _)⟩
  case round =>
    obtain ⟨i, hi, rfl, rfl, rfl, HB⟩ := hrel
    by_cases hlt : i < l.length
    · have hs : i < (⟨l.toArray⟩ : ByteArray).size := hlt
      have hbv : (((⟨l.toArray⟩ : ByteArray)[i]'hs).toNat : Int) = (l[i].toNat : Int) := rfl
      have hlt2 : (i : Int) < l.length := by omega
      have hdg := unhide HD i hlt
      unfold Words.digitB at hdg
      simp only [Bool.and_eq_true, decide_eq_true_eq] at hdg
      have HNT := hide (num_take l i hlt)
      have HLE := hide (num_le l (i + 1))
      have hnb := unhide HB
      generalize hnn : l[i].toNat = n at *
      generalize Words.num (l.take i) = m at *
      obtain ⟨d, rfl⟩ : ∃ d, n = d + 48 := ⟨n - 48, by omega⟩
      have hd9 : d ≤ 9 := by omega
      unfold Words.big at hnb
      clear hdg
      have e1 : ((d + 48 : Nat) : Int) - 48 = d := by omega
      by_cases hov : 10 * m + d ≤ 9223372036854775807
      · have q1 : ¬ (9223372036854775807 - (d : Int)) / 10 < (m : Int) := by omega
        have q2 : decide ((9223372036854775807 - (d : Int)) / 10 < (m : Int)) = false := decide_eq_false q1
        go_wp2_with fail
        go_roundw
        case rel => exact ⟨i + 1, by omega, by go_num, by rw [unhide HNT, show d + 48 - 48 = d by omega]; simp, trivial, hide (by rw [unhide HNT]; unfold Words.big; omega)⟩
        case measure => simp [intOf]; omega
      · have q1 : (9223372036854775807 - (d : Int)) / 10 < (m : Int) := by omega
        have q2 : decide ((9223372036854775807 - (d : Int)) / 10 < (m : Int)) = true := decide_eq_true q1
        have HOV : Hid (¬ Words.num l ≤ Words.big) := hide (by have h1 := unhide HNT; have h2 := unhide HLE; unfold Words.big; omega)
        go_wp2
        refine bodyPost_ret (v := .tuple #[.int .i64 0, .bool false]) (by simp [results, Tryd.results43, go_sem]) rfl ⟨?_, rfl⟩
        rw [← unhide HANS, if_neg (unhide HOV), decide_eq_false (unhide HOV)]
        rfl
    · have hil : i = l.length := by omega
      have HQ : Hid (l.take i = l) := hide (by rw [hil, List.take_length])
      have hnb := unhide HB
      rw [unhide HQ] at hnb
      have HNB := hide hnb
      unfold Words.big at hnb
      rw [unhide HQ]
      generalize hm : Words.num l = m at *
      clear hil
      have HM := hide hm
      clear hm
      go_wp2
      refine bodyPost_ret (v := .tuple #[.int .i64 (m : Int), .bool true]) (by simp [results, Tryd.results43, go_sem]) rfl ⟨?_, rfl⟩
      rw [← unhide HANS, if_pos (unhide HNB), decide_eq_true (unhide HNB)]
end Go.Proofs.YtomnbidppkpfiaaDoor.Line

namespace Go.Proofs.YtomnbidppkpfiaaDoor.Line
open Go.ChangeShapes Go.WideShapes Go.ChangeAt Go.RowKit
set_option linter.unusedVariables false

abbrev wWord : List UInt8 := [119, 111, 114, 100]
def tokV (t : Words.T) : List Value := [.int .i64 t.kind, .string ⟨t.text.toArray⟩, .int .i64 t.pos, .int .i64 t.n]
def flatT (l : List Words.T) : List Value := l.flatMap tokV
theorem flatT_length (l : List Words.T) : (flatT l).length = l.length * 4 := by
  induction l with
  | nil => rfl
  | cons t l ih => show (tokV t ++ flatT l).length = _; rw [List.length_append, ih, List.length_cons]; show 4 + l.length * 4 = _; omega
theorem flatT_snoc (l : List Words.T) (t : Words.T) : flatT (l ++ [t]) = flatT l ++ tokV t := by simp [flatT]
theorem flatT_at (l : List Words.T) : ∀ (i : Nat) (h : i < l.length), (flatT l)[i * 4]? = some (.int .i64 l[i].kind) ∧ (flatT l)[i * 4 + 1]? = some (.string ⟨l[i].text.toArray⟩) ∧ (flatT l)[i * 4 + 2]? = some (.int .i64 l[i].pos) ∧ (flatT l)[i * 4 + 3]? = some (.int .i64 l[i].n) := by
  induction l with
  | nil => intro i h; simp at h
  | cons t l ih =>
    intro i h
    have e : flatT (t :: l) = .int .i64 t.kind :: .string ⟨t.text.toArray⟩ :: .int .i64 t.pos :: .int .i64 t.n :: flatT l := rfl
    cases i with
    | zero => rw [e]; exact ⟨rfl, rfl, rfl, rfl⟩
    | succ i =>
      have := ih i (by simpa using h)
      rw [e]
      rw [show (i + 1) * 4 = i * 4 + 4 by omega, show i * 4 + 4 + 1 = (i * 4 + 1) + 4 by omega, show i * 4 + 4 + 2 = (i * 4 + 2) + 4 by omega, show i * 4 + 4 + 3 = (i * 4 + 3) + 4 by omega]
      simpa using this
/-- words of a call's own, of type T -/
def OwnT (T : TypeId) (base : Nat) (w : World) (v : Value) (l : List Words.T) : Prop := w.ownsRow base T 4 v l.length (flatT l)
/-- words that are only read -/
def Tks (w : World) (v : Value) (l : List Words.T) : Prop :=
  (∃ a cap, v = .slice a 0 cap ∧ l = []) ∨
  (∃ b off cap, v = .slice (some ⟨b, off, none⟩) l.length cap ∧ l.length ≤ cap ∧ ∀ i (h : i < l.length), w.cell? ⟨b, off + i * 4, none⟩ = some (.int .i64 l[i].kind) ∧ w.cell? ⟨b, off + i * 4 + 1, none⟩ = some (.string ⟨l[i].text.toArray⟩) ∧ w.cell? ⟨b, off + i * 4 + 2, none⟩ = some (.int .i64 l[i].pos) ∧ w.cell? ⟨b, off + i * 4 + 3, none⟩ = some (.int .i64 l[i].n))
theorem OwnT.nil (T : TypeId) (base : Nat) (w : World) : OwnT T base w (.slice none 0 0) [] := World.ownsRow_nil _ _ _ _
theorem ownsRow_below {base size n : Nat} {T : TypeId} {w w' : World} {v : Value} {xs : List Value} (h : w.ownsRow base T size v n xs) (hb : Below w.heap.size w w') : w'.ownsRow base T size v n xs := by
  obtain ⟨h1, h2⟩ := h
  refine ⟨h1, ?_⟩
  rcases h2 with h2 | ⟨g, cap, cur, hv, hg, hh, r⟩
  · exact .inl h2
  · refine .inr ⟨g, cap, cur, hv, hg, ?_, r⟩
    rw [hb.block g (by
      rcases Nat.lt_or_ge g w.heap.size with h | h
      · exact h
      · rw [Array.getElem?_eq_none h] at hh; cases hh)]
    exact hh
theorem OwnT.below {T : TypeId} {base : Nat} {w w' : World} {v : Value} {l : List Words.T} (h : OwnT T base w v l) (hb : Below w.heap.size w w') : OwnT T base w' v l := ownsRow_below h hb
theorem OwnT.tks {T : TypeId} {base : Nat} {w : World} {v : Value} {l : List Words.T} (h : OwnT T base w v l) : Tks w v l := by
  have h2' := h
  obtain ⟨h4, h5⟩ := h
  rcases h5 with ⟨rfl, h5⟩ | ⟨g, cap, cur, rfl, hg, hh, hc, r⟩
  · exact .inl ⟨none, 0, rfl, List.length_eq_zero_iff.1 h5⟩
  · refine .inr ⟨g, 0, cap, rfl, hc, fun i hi => ?_⟩
    obtain ⟨f0, f1, f2, f3⟩ := flatT_at l i hi
    have c0 := World.ownsRow.cellAt h2' (i * 4) (by omega)
    have c1 := World.ownsRow.cellAt h2' (i * 4 + 1) (by omega)
    have c2 := World.ownsRow.cellAt h2' (i * 4 + 2) (by omega)
    have c3 := World.ownsRow.cellAt h2' (i * 4 + 3) (by omega)
    simp only [Nat.zero_add]
    exact ⟨c0.trans f0, c1.trans f1, c2.trans f2, c3.trans f3⟩
theorem Tks.shape {w : World} {v : Value} {l : List Words.T} (h : Tks w v l) : ∃ a cap, v = .slice a l.length cap := by
  rcases h with ⟨a, cap, rfl, rfl⟩ | ⟨b, off, cap, rfl, _⟩
  · exact ⟨_, _, rfl⟩
  · exact ⟨_, _, rfl⟩
theorem Tks.below {w w' : World} {v : Value} {l : List Words.T} (h : Tks w v l) (hb : Below w.heap.size w w') : Tks w' v l := by
  rcases h with h | ⟨b, off, cap, rfl, hc, h⟩
  · exact .inl h
  · refine .inr ⟨b, off, cap, rfl, hc, fun i hi => ?_⟩
    obtain ⟨h0, h1, h2, h3⟩ := h i hi
    have hl := cell_lt h0
    exact ⟨by rw [hb.cell (p := ⟨b, off + i * 4, none⟩) hl]; exact h0, by rw [hb.cell (p := ⟨b, off + i * 4 + 1, none⟩) hl]; exact h1, by rw [hb.cell (p := ⟨b, off + i * 4 + 2, none⟩) hl]; exact h2, by rw [hb.cell (p := ⟨b, off + i * 4 + 3, none⟩) hl]; exact h3⟩
theorem Tks.drewN {w : World} {v : Value} {l : List Words.T} (h : Tks w v l) (n : Nat) : Tks (w.drewN n) v l := h.below (below_drewN (Below.refl _ _) n)
theorem infoRTok : (Tryd.prog.info? 89).map (fun i => (i.zero, i.size, i.bytes)) = some (some (.agg #[.int .i64 0, .string ⟨#[]⟩, .int .i64 0, .int .i64 0]), 4, 40) := by kernel_rfl
/-- one word more (the reference's) -/
theorem append_rtok {base : Nat} {w : World} {s : Value} {l : List Words.T} (hs : OwnT 89 base w s l) (t : Words.T) (hb : base ≤ w.heap.size) (hl : l.length + 1 ≤ 1000000) :
    ∃ v' w', (Builtin.append_ #[85, 85] 85 #[s, .slice (some ⟨w.heap.size, 0, none⟩) 1 1]).run Tryd.prog (w.alloc (.cells #[.int .i64 t.kind, .string ⟨t.text.toArray⟩, .int .i64 t.pos, .int .i64 t.n] 89)) = .ok v' w' ∧ OwnT 89 base w' v' (l ++ [t]) ∧ (w.alloc (.cells #[.int .i64 t.kind, .string ⟨t.text.toArray⟩, .int .i64 t.pos, .int .i64 t.n] 89)).grownBy w' s.ownBlock := by
  obtain ⟨i0, hi, hz0, hz1, hz2⟩ := info_parts infoRTok
  obtain ⟨v', w', hr, ho, hgr, _⟩ := run_append_own (P := Tryd.prog) (w.alloc (.cells #[.int .i64 t.kind, .string ⟨t.text.toArray⟩, .int .i64 t.pos, .int .i64 t.n] 89)) base 85 85 89 i0 _ 4 40 Tryd.underlying85 hi hz0 hz1 hz2 rfl (by decide) s l.length (flatT l) (World.ownsRow.alloc hs _) ⟨w.heap.size, 0, none⟩ 1 1 (tokV t) rfl
    (World.news_of_block (cs := #[.int .i64 t.kind, .string ⟨t.text.toArray⟩, .int .i64 t.pos, .int .i64 t.n]) (t := 89) (fr := (0, 0)) (by show (w.heap.push _)[w.heap.size]? = _; exact Array.getElem?_push_size))
    (by intro u hu; simp [tokV] at hu; rcases hu with rfl | rfl | rfl | rfl <;> rfl) (by unfold maxLen; omega) (by omega) (by simp; omega)
  refine ⟨v', w', hr, ?_, hgr⟩
  unfold OwnT
  rw [flatT_snoc, List.length_append]
  exact ho
/-- an append of such words in a plain region, by its run -/
theorem wpList_append_runT {ops : Array Oper} {rest : List Oper} {o : Oper} {a : Act} {w : World} {Q : Exit → Act → World → Prop} (hgd : o.guard = none) (s x : Operand)
    (ho : o.op = .call { callee := .builtin .append, args := #[s, x], argTypes := #[85, 85] }) (hty : o.type = 85) (sv xv : Value) (hs : a.eval s = sv) (hx : a.eval x = xv) (v' : Value) (w' : World)
    (hr : (Builtin.append_ #[85, 85] 85 #[sv, xv]).run Tryd.prog w = .ok v' w') (h : wpList Tryd.prog ops Q rest (a.put o.dst v') w') : wpList Tryd.prog ops Q (o :: rest) a w := by
  refine wpList_plain hgd fun K hK => ?_
  unfold Oper.wp execOp
  simp only [ho, hty, resolve, invoke, builtin, Sem.run_bind, Sem.run_pure, Result.andThen_ok, List.map_toArray, List.map_cons, List.map_nil, hs, hx, hr]
  exact hK _ _ h
/-- the block of the named result, behind a call that wrote new memory alone -/
theorem res_cells {w w2 : World} (hB : Below (w.heap.size + 1) (w.alloc (.cells #[.slice none 0 0, .int .i64 0] 50)) w2) :
    w2.cell? ⟨w.heap.size, 0, none⟩ = some (.slice none 0 0) ∧ w2.cell? ⟨w.heap.size, 1, none⟩ = some (.int .i64 0) ∧ w2.frozen? ⟨w.heap.size, 0, none⟩ = false ∧ w2.frozen? ⟨w.heap.size, 1, none⟩ = false ∧ w.heap.size + 1 ≤ w2.heap.size ∧ Below w.heap.size w w2 := by
  refine ⟨?_, ?_, ?_, ?_, by have := hB.size; simpa using this, ((Below.refl _ _).alloc (Nat.le_refl _) _).trans (hB.mono (by omega))⟩
  · rw [hB.cell (p := ⟨w.heap.size, 0, none⟩) (by simp)]; simp
  · rw [hB.cell (p := ⟨w.heap.size, 1, none⟩) (by simp)]; simp
  · rw [hB.frozen (p := ⟨w.heap.size, 0, none⟩) (by simp)]; simp
  · rw [hB.frozen (p := ⟨w.heap.size, 1, none⟩) (by simp)]; simp
theorem told_mk {w w2 : World} {b k err : Nat} {word : List UInt8} {u u' : Value} (he : err ≠ 0) (hb : w.heap.size + 1 ≤ b) (h0 : w2.cell? ⟨b, 0, none⟩ = some (.string ⟨word.toArray⟩)) (h1 : w2.cell? ⟨b, 1, none⟩ = some (.int .i64 k)) :
    Told w.heap.size ((w2.setCell ⟨w.heap.size, 0, none⟩ u).setCell ⟨w.heap.size, 1, none⟩ u') (.agg #[.slice (some ⟨b, 0, none⟩) 1 1, .int .i64 err]) word k err := by
  have h : Told (w.heap.size + 1) w2 (.agg #[.slice (some ⟨b, 0, none⟩) 1 1, .int .i64 err]) word k err := .inr ⟨he, b, hb, rfl, h0, h1⟩
  exact ((h.setCell ⟨w.heap.size, 0, none⟩ (by simp) u).setCell ⟨w.heap.size, 1, none⟩ (by simp) u').mono (by omega)
end Go.Proofs.YtomnbidppkpfiaaDoor.Line

namespace Go.Proofs.YtomnbidppkpfiaaDoor.Line
open Go.ChangeShapes Go.WideShapes Go.ChangeAt Go.RowKit
set_option linter.unusedVariables false

theorem headIs_at (p : UInt8 → Bool) (l : List UInt8) (i : Nat) (h : i < l.length) : Words.headIs p (l.drop i) = p l[i] := by rw [List.drop_eq_getElem_cons h]; rfl
/-- where a run of such bytes ends -/
theorem run_spec (p : UInt8 → Bool) (l : List UInt8) (i : Nat) (h : i ≤ l.length) : ∃ e, i + ((l.drop i).takeWhile p).length = e ∧ e ≤ l.length ∧ (∀ j (hj : j < l.length), i ≤ j → j < e → p l[j] = true) ∧ (∀ he : e < l.length, p l[e] = false) ∧ (l.drop i).takeWhile p = (l.drop i).take (e - i) := by
  have h1 : ((l.drop i).takeWhile p).length ≤ (l.drop i).length := (List.takeWhile_prefix p).length_le
  have h2 : (l.drop i).takeWhile p = (l.drop i).take ((l.drop i).takeWhile p).length := List.prefix_iff_eq_take.1 (List.takeWhile_prefix p)
  refine ⟨_, rfl, by rw [List.length_drop] at h1; omega, fun j hj h3 h4 => ?_, fun he => ?_, by rw [Nat.add_sub_cancel_left]; exact h2⟩
  · have h5 : j - i < ((l.drop i).takeWhile p).length := by omega
    have h6 : ((l.drop i).takeWhile p)[j - i] = l[j] := by
      have h7 : ((l.drop i).takeWhile p)[j - i]? = l[j]? := by
        rw [h2, List.getElem?_take_of_lt h5, List.getElem?_drop]
        congr 1
        omega
      rw [List.getElem?_eq_getElem h5, List.getElem?_eq_getElem hj] at h7
      exact Option.some.inj h7
    rw [← h6]
    have := List.all_takeWhile (p := p) (l := l.drop i)
    exact List.all_eq_true.1 this _ (List.getElem_mem h5)
  · have h3 : (l.drop i).drop ((l.drop i).takeWhile p).length = (l.drop i).dropWhile p := by
      conv => lhs; rhs; rw [← List.takeWhile_append_dropWhile (p := p) (l := l.drop i)]
      rw [List.drop_left]
    rw [List.drop_drop] at h3
    rw [List.drop_eq_getElem_cons he] at h3
    have hne : (l.drop i).dropWhile p ≠ [] := by rw [← h3]; exact List.cons_ne_nil _ _
    have h4 := List.head_dropWhile_not p hne
    simp only [← h3, List.head_cons] at h4
    exact h4

theorem step_blankAt (l : List UInt8) (i : Nat) (h : i < l.length) (hb : Words.blankB l[i] = true) : Words.step (l.drop i) = .blank := by
  unfold Words.step
  rw [headIs_at _ l i h, if_pos hb]
theorem step_nameAt (l : List UInt8) (i e : Nat) (h : i < l.length) (hb : Words.blankB l[i] = false) (hl : Words.letterB l[i] = true) (he : i + ((l.drop i).takeWhile Words.behindB).length = e) (ht : (l.drop i).takeWhile Words.behindB = (l.drop i).take (e - i)) :
    Words.step (l.drop i) = if 31 < e - i then .bad 4 0 else .tok (if Words.isKey ((l.drop i).take (e - i)) then 4 else 1) 0 (e - i) := by
  unfold Words.step
  rw [headIs_at _ l i h, headIs_at _ l i h, if_neg (by rw [hb]; decide), if_pos hl]
  have : ((l.drop i).takeWhile Words.behindB).length = e - i := by omega
  rw [this, ht]
theorem step_numAt (l : List UInt8) (i e : Nat) (h : i < l.length) (hb : Words.blankB l[i] = false) (hl : Words.letterB l[i] = false) (hd : Words.digitB l[i] = true) (he : i + ((l.drop i).takeWhile Words.digitB).length = e) (ht : (l.drop i).takeWhile Words.digitB = (l.drop i).take (e - i)) :
    Words.step (l.drop i) = if Words.big < Words.num ((l.drop i).take (e - i)) then .bad 5 0 else if Words.headIs Words.letterB (l.drop e) then .bad 3 (e - i) else .tok 2 (Words.num ((l.drop i).take (e - i))) (e - i) := by
  unfold Words.step
  rw [headIs_at _ l i h, headIs_at _ l i h, headIs_at _ l i h, if_neg (by rw [hb]; decide), if_neg (by rw [hl]; decide), if_pos hd]
  have h1 : ((l.drop i).takeWhile Words.digitB).length = e - i := by omega
  rw [h1, ht, List.drop_drop, show i + (e - i) = e by omega]
theorem step_signAt (l : List UInt8) (i : Nat) (h : i < l.length) (hb : Words.blankB l[i] = false) (hl : Words.letterB l[i] = false) (hd : Words.digitB l[i] = false) :
    Words.step (l.drop i) = if Words.signLen (l.drop i) = 0 then .bad 3 0 else .tok 3 0 (Words.signLen (l.drop i)) := by
  unfold Words.step
  rw [headIs_at _ l i h, headIs_at _ l i h, headIs_at _ l i h, if_neg (by rw [hb]; decide), if_neg (by rw [hl]; decide), if_neg (by rw [hd]; decide)]
theorem blank_no (c : UInt8) (h : Words.blankB c = false) : ((c.toNat : Int) == 32) = false ∧ ((c.toNat : Int) == 9) = false := by
  unfold Words.blankB at h
  simp only [Bool.or_eq_false_iff, decide_eq_false_iff_not] at h
  simp only [beq_eq_false_iff_ne]
  omega

theorem ownT_fin {T : TypeId} {w w1 : World} {v u u' : Value} {l : List Words.T} (h : OwnT T (w.heap.size + 1) w1 v l) : OwnT T w.heap.size ((w1.setCell ⟨w.heap.size, 0, none⟩ u).setCell ⟨w.heap.size, 1, none⟩ u') v l := by
  have h2 : OwnT T (w.heap.size + 1) ((w1.setCell ⟨w.heap.size, 0, none⟩ u).setCell ⟨w.heap.size, 1, none⟩ u') v l := ownsRow_setCell_below (ownsRow_setCell_below h (by simp) u) (by simp) u'
  obtain ⟨h3, h4⟩ := h2
  refine ⟨h3, ?_⟩
  rcases h4 with h4 | ⟨g, cap, cur, hv, hg, r⟩
  · exact .inl h4
  · exact .inr ⟨g, cap, cur, hv, by omega, r⟩

set_option maxHeartbeats 16000000 in
set_option maxRecDepth 100000 in
theorem refToks_any (l : List UInt8) (hl : l.length ≤ 100000) (w : World) : Calls Tryd.prog 29 #[.string ⟨l.toArray⟩] w fun e w' =>
    ∃ u g, e = .returned (.tuple #[u, g]) ∧ OwnT 89 w.heap.size w' u (Words.toks l).1 ∧ Told w.heap.size w' g wWord (Words.toks l).2.2 (Words.toks l).2.1 ∧ Below w.heap.size w w' := by
  have hsz : ((⟨l.toArray⟩ : ByteArray).size : Int) = l.length := rfl
  obtain ⟨R, hR⟩ : ∃ R, Words.toks l = R := ⟨_, rfl⟩
  rw [hR]
  have HR := hide hR
  clear hR
  go_enter Tryd.func29, Tryd.ntmps29
  go_wp2
  obtain ⟨c0, c1, f0, f1, hs, hB2⟩ := res_cells (w := w) (Below.refl _ _)
  generalize w.alloc (.cells #[.slice none 0 0, .int .i64 0] 50) = W at *
  have HB2 := hide hB2
  have HC := hide (And.intro c0 (And.intro c1 (And.intro f0 f1)))
  clear hB2 c0 c1 f0 f1
  go_loopw [4, 5] (fun x q wr => ∃ (i : Nat) (done : List Words.T), i ≤ l.length ∧ q = .int .i64 i ∧ done.length ≤ i ∧ Hid (Words.also done (Words.scanAt l i) = R) ∧ Hid (OwnT 89 (w.heap.size + 1) wr x done) ∧ Hid (Below (w.heap.size + 1) W wr)) (fun _ q _ => l.length - (intOf q).toNat)
  case atStart => exact ⟨0, [], Nat.zero_le _, rfl, Nat.zero_le _, hide (by rw [Words.also_nil _ (Words.scanAt_form l 0).1 (Words.scanAt_form l 0).2]; exact unhide HR), hide (OwnT.nil _ _ _), hide (Below.refl _ _)⟩
  case round =>
    obtain ⟨i, done, hi, rfl, hdl, HEQ, HOWN, HBW⟩ := hrel
    by_cases hlt : i < l.length
    · have hs1 : i < (⟨l.toArray⟩ : ByteArray).size := hlt
      have hbv : (((⟨l.toArray⟩ : ByteArray)[i]'hs1).toNat : Int) = (l[i].toNat : Int) := rfl
      have hlt2 : (i : Int) < l.length := by omega
      have HSB := hide (step_blankAt l i hlt)
      have HSN := hide (fun e => step_nameAt l i e hlt)
      have HSD := hide (fun e => step_numAt l i e hlt)
      have HSS := hide (step_signAt l i hlt)
      generalize l[i] = c at *
      have HL := hide (fun W => letter_any c W)
      have HDG := hide (fun W => digit_any c W)
      by_cases hb : Words.blankB c = true
      · have HQ : Hid (Words.also done (Words.scanAt l (i + 1)) = R) := hide (by rw [← unhide HEQ, Words.scanAt_blank hlt (unhide HSB hb)])
        have hcc : c.toNat = 32 ∨ (((c.toNat : Int) == 32) = false ∧ c.toNat = 9) := by
          unfold Words.blankB at hb
          simp only [Bool.or_eq_true, decide_eq_true_eq] at hb
          simp only [beq_eq_false_iff_ne]
          omega
        clear hb
        generalize c.toNat = cn at *
        rcases hcc with rfl | ⟨k1, rfl⟩
        · go_wp2
          go_roundw
          case rel => exact ⟨i + 1, done, by omega, by go_num, by omega, HQ, HOWN, HBW⟩
          case measure => simp [intOf]; omega
        · go_wp2
          go_roundw
          case rel => exact ⟨i + 1, done, by omega, by go_num, by omega, HQ, HOWN, HBW⟩
          case measure => simp [intOf]; omega
      replace hb : Words.blankB c = false := by simpa using hb
      obtain ⟨k32, k9⟩ := blank_no c hb
      by_cases hlet : Words.letterB c = true
      · rw [hlet] at HL
        obtain ⟨e, he1, he2, he3, he4, he5⟩ := run_spec Words.behindB l i hi
        have HST := hide (unhide HSN e hb hlet he1 he5)
        have HE3 := hide he3
        have HE4 := hide he4
        have hie : i ≤ e := by omega
        clear hb he1 he3 he4 he5 HSB HSN HSD HSS HDG hlet
        generalize c.toNat = cn at *
        go_upto_block 3 with (go_at_call 39; refine (unhide HL _).mono ?_; rintro ev w1 ⟨rfl, hw⟩; have hw := hw.symm; subst hw)
        go_cut [5] from 11 to 136 (fun x wx => x = .int .i64 e ∧ wx = wr)
        case first =>
          go_wp2_with fail
          go_loopw [5] (fun x wx => ∃ j : Nat, i ≤ j ∧ j ≤ e ∧ x = .int .i64 j ∧ wx = wr) (fun x _ => e - (intOf x).toNat)
          case atStart => exact ⟨i, Nat.le_refl _, hie, rfl, rfl⟩
          case round =>
            obtain ⟨j, hij, hje, rfl, rfl⟩ := hrel
            by_cases hj : j < e
            · have hjl : j < l.length := by omega
              have q1 : decide (j < l.length) = true := decide_eq_true hjl
              have hs2 : j < (⟨l.toArray⟩ : ByteArray).size := hjl
              have hbv2 : (((⟨l.toArray⟩ : ByteArray)[j]'hs2).toNat : Int) = (l[j].toNat : Int) := rfl
              have hj2 : (j : Int) < l.length := by omega
              have HBH := hide (fun W => behind_any l[j] W)
              rw [unhide HE3 j hjl hij hj] at HBH
              generalize l[j].toNat = m at *
              go_wp2_with (go_at_call 40; refine (unhide HBH _).mono ?_; rintro ev w1 ⟨rfl, hw⟩; have hw := hw.symm; subst hw)
              go_roundw
              case rel => exact ⟨j + 1, by omega, by omega, by go_num, trivial⟩
              case measure => simp [intOf]; omega
            · obtain rfl : j = e := by omega
              by_cases hjl : j < l.length
              · have q1 : decide (j < l.length) = true := decide_eq_true hjl
                have hs2 : j < (⟨l.toArray⟩ : ByteArray).size := hjl
                have hbv2 : (((⟨l.toArray⟩ : ByteArray)[j]'hs2).toNat : Int) = (l[j].toNat : Int) := rfl
                have hj2 : (j : Int) < l.length := by omega
                have HBH := hide (fun W => behind_any l[j] W)
                rw [unhide HE4 hjl] at HBH
                generalize l[j].toNat = m at *
                go_wp2_with (go_at_call 40; refine (unhide HBH _).mono ?_; rintro ev w1 ⟨rfl, hw⟩; have hw := hw.symm; subst hw)
                go_meet
                case rel => exact ⟨rfl, rfl⟩
              · have q1 : decide (j < l.length) = false := decide_eq_false hjl
                go_wp2_with fail
                go_meet
                case rel => exact ⟨rfl, rfl⟩
        case rest =>
          obtain ⟨rfl, hwc⟩ := hcut
          have hwc := hwc.symm
          subst hwc
          have hel : (e : Int) ≤ l.length := by omega
          have hie2 : (i : Int) ≤ e := by omega
          go_wp2_with fail
          rw [ext]
          obtain ⟨X, hX⟩ : ∃ X, (l.drop i).take (e - i) = X := ⟨_, rfl⟩
          rw [hX] at HST ⊢
          have HX := hide hX
          have hXe : (⟨l.toArray⟩ : ByteArray).extract i e = ⟨X.toArray⟩ := by rw [ext, hX]
          clear hX
          refine (refIsKey_any X _).mono ?_
          rintro ev w5 ⟨rfl, hb5⟩
          have HB5 : Hid (Below (w.heap.size + 1) W w5) := hide ((unhide HBW).trans (hb5.mono (Nat.le_trans hs (unhide HBW).size)))
          have HOWN5 := hide ((unhide HOWN).below hb5)
          clear hb5
          generalize Words.isKey X = ky at *
          by_cases h31 : 31 < e - i
          · have HRR : Hid (R = ([], 4, i)) := hide (by
              have h1 := unhide HST
              rw [if_pos h31] at h1
              rw [← unhide HEQ, Words.scanAt_bad hlt h1]
              rfl)
            have q31 : (31 : Int) < (e : Int) - i := by omega
            have q32 : decide ((31 : Int) < (e : Int) - i) = true := decide_eq_true q31
            cases ky
            all_goals (
              have HAT := hide (fun W => at_any wWord i 4 W)
              have HKK := hide (And.intro (((unhide HB5).cell (p := ⟨w.heap.size, 0, none⟩) (Nat.lt_succ_self _)).trans (unhide HC).1) (And.intro (((unhide HB5).cell (p := ⟨w.heap.size, 1, none⟩) (Nat.lt_succ_self _)).trans (unhide HC).2.1) (And.intro (((unhide HB5).frozen (p := ⟨w.heap.size, 0, none⟩) (Nat.lt_succ_self _)).trans (unhide HC).2.2.1) (((unhide HB5).frozen (p := ⟨w.heap.size, 1, none⟩) (Nat.lt_succ_self _)).trans (unhide HC).2.2.2))))
              have hs5 : w.heap.size < (w5).heap.size := Nat.lt_of_lt_of_le (Nat.lt_of_lt_of_le (Nat.lt_succ_self _) hs) (unhide HB5).size
              go_wp2_with (go_at_call 18; refine (unhide HAT _).mono ?_; rintro ev w8 ⟨b8, rfl, hb8, h0, h1, hB8⟩; have k0 := (hB8.cell (p := ⟨w.heap.size, 0, none⟩) hs5).trans (unhide HKK).1; have k1 := (hB8.cell (p := ⟨w.heap.size, 1, none⟩) hs5).trans (unhide HKK).2.1; have l0 := (hB8.frozen (p := ⟨w.heap.size, 0, none⟩) hs5).trans (unhide HKK).2.2.1; have l1 := (hB8.frozen (p := ⟨w.heap.size, 1, none⟩) hs5).trans (unhide HKK).2.2.2)
              rw [unhide HRR]
              have y8 : Below (w.heap.size + 1) W w8 := (unhide HB5).trans (hB8.mono hs5)
              exact bodyPost_ret (v := .tuple #[.slice none 0 0, .agg #[.slice (some ⟨b8, 0, none⟩) 1 1, .int .i64 4]]) (by simp [results, Tryd.results29, go_sem, k0, k1]) rfl ⟨_, _, rfl, OwnT.nil _ _ _, told_mk (err := 4) (by decide) (Nat.le_trans hs5 hb8) h0 h1, (((unhide HB2).trans (y8.mono (by omega))).setCell (Nat.le_refl _) _).setCell (Nat.le_refl _) _⟩)
          · have q31 : ¬ (31 : Int) < (e : Int) - i := by omega
            have q32 : decide ((31 : Int) < (e : Int) - i) = false := decide_eq_false q31
            have HST2 := unhide HST
            rw [if_neg h31] at HST2
            have hlen := (Words.step_len HST2).1
            have hie3 : i < e := by omega
            have HQ0 : Hid (Words.also (done ++ [⟨if ky then 4 else 1, X, i, 0⟩]) (Words.scanAt l e) = R) := hide (by
              rw [← unhide HEQ, Words.scanAt_tok hlt HST2, Words.also_also, unhide HX, show i + (e - i) = e by omega])
            clear HST2 hlen
            cases ky
            · have HQ : Hid (Words.also (done ++ [⟨1, X, i, 0⟩]) (Words.scanAt l e) = R) := HQ0
              have hown5 := (unhide HOWN5)
              obtain ⟨v9, w9, hr9, ho9, hg9⟩ := append_rtok hown5 ⟨1, X, i, 0⟩ (Nat.le_trans hs (unhide HB5).size) (by omega)
              have y9 : Below (w.heap.size + 1) W w9 := ((unhide HB5).alloc (Nat.le_trans hs (unhide HB5).size) _).grown hg9 (by have := (unhide HB5).size; simp; omega) (fun j hj => (World.ownsRow.lt hown5 j hj).1)
              have H9 := hide (And.intro ho9 y9)
              clear hown5 ho9 hg9 y9
              go_wp2_with (at_builtin; refine wpList_append_runT rfl _ _ rfl rfl _ _ rfl rfl v9 w9 hr9 ?_)
              go_roundw
              case rel => exact ⟨e, done ++ [⟨1, X, i, 0⟩], by omega, by first | rfl | go_num, by rw [List.length_append, List.length_singleton]; omega, HQ, hide (unhide H9).1, hide (unhide H9).2⟩
              case measure => simp [intOf]; omega
            · have HQ : Hid (Words.also (done ++ [⟨4, X, i, 0⟩]) (Words.scanAt l e) = R) := HQ0
              have hown5 := (unhide HOWN5)
              obtain ⟨v9, w9, hr9, ho9, hg9⟩ := append_rtok hown5 ⟨4, X, i, 0⟩ (Nat.le_trans hs (unhide HB5).size) (by omega)
              have y9 : Below (w.heap.size + 1) W w9 := ((unhide HB5).alloc (Nat.le_trans hs (unhide HB5).size) _).grown hg9 (by have := (unhide HB5).size; simp; omega) (fun j hj => (World.ownsRow.lt hown5 j hj).1)
              have H9 := hide (And.intro ho9 y9)
              clear hown5 ho9 hg9 y9
              go_wp2_with (at_builtin; refine wpList_append_runT rfl _ _ rfl rfl _ _ rfl rfl v9 w9 hr9 ?_)
              go_roundw
              case rel => exact ⟨e, done ++ [⟨4, X, i, 0⟩], by omega, by first | rfl | go_num, by rw [List.length_append, List.length_singleton]; omega, HQ, hide (unhide H9).1, hide (unhide H9).2⟩
              case measure => simp [intOf]; omega
      replace hlet : Words.letterB c = false := by simpa using hlet
      rw [hlet] at HL
      by_cases hdig : Words.digitB c = true
      · rw [hdig] at HDG
        obtain ⟨e, he1, he2, he3, he4, he5⟩ := run_spec Words.digitB l i hi
        have HST := hide (unhide HSD e hb hlet hdig he1 he5)
        have HXD : Hid (∀ k (h : k < ((l.drop i).take (e - i)).length), Words.digitB ((l.drop i).take (e - i))[k] = true) := hide (fun k h => by
          have h1 : k < e - i := by rw [List.length_take] at h; omega
          have h2 : i + k < l.length := by omega
          rw [List.getElem_take, List.getElem_drop]
          exact he3 (i + k) h2 (by omega) (by omega))
        have HE3 := hide he3
        have HE4 := hide he4
        have hie : i ≤ e := by omega
        clear hb he1 he3 he4 he5 HSB HSN HSD HSS hdig hlet
        generalize c.toNat = cn at *
        go_upto_block 5 with (first | (go_at_call 39; refine (unhide HL _).mono ?_; rintro ev w1 ⟨rfl, hw⟩; have hw := hw.symm; subst hw) | (go_at_call 42; refine (unhide HDG _).mono ?_; rintro ev w1 ⟨rfl, hw⟩; have hw := hw.symm; subst hw))
        go_cut [5] from 11 to 136 (fun x wx => x = .int .i64 e ∧ wx = wr)
        case first =>
          go_wp2_with fail
          go_loopw [5] (fun x wx => ∃ j : Nat, i ≤ j ∧ j ≤ e ∧ x = .int .i64 j ∧ wx = wr) (fun x _ => e - (intOf x).toNat)
          case atStart => exact ⟨i, Nat.le_refl _, hie, rfl, rfl⟩
          case round =>
            obtain ⟨j, hij, hje, rfl, rfl⟩ := hrel
            by_cases hj : j < e
            · have hjl : j < l.length := by omega
              have q1 : decide (j < l.length) = true := decide_eq_true hjl
              have hs2 : j < (⟨l.toArray⟩ : ByteArray).size := hjl
              have hbv2 : (((⟨l.toArray⟩ : ByteArray)[j]'hs2).toNat : Int) = (l[j].toNat : Int) := rfl
              have hj2 : (j : Int) < l.length := by omega
              have HBH := hide (fun W => digit_any l[j] W)
              rw [unhide HE3 j hjl hij hj] at HBH
              generalize l[j].toNat = m at *
              go_wp2_with (go_at_call 42; refine (unhide HBH _).mono ?_; rintro ev w1 ⟨rfl, hw⟩; have hw := hw.symm; subst hw)
              go_roundw
              case rel => exact ⟨j + 1, by omega, by omega, by go_num, trivial⟩
              case measure => simp [intOf]; omega
            · obtain rfl : j = e := by omega
              by_cases hjl : j < l.length
              · have q1 : decide (j < l.length) = true := decide_eq_true hjl
                have hs2 : j < (⟨l.toArray⟩ : ByteArray).size := hjl
                have hbv2 : (((⟨l.toArray⟩ : ByteArray)[j]'hs2).toNat : Int) = (l[j].toNat : Int) := rfl
                have hj2 : (j : Int) < l.length := by omega
                have HBH := hide (fun W => digit_any l[j] W)
                rw [unhide HE4 hjl] at HBH
                generalize l[j].toNat = m at *
                go_wp2_with (go_at_call 42; refine (unhide HBH _).mono ?_; rintro ev w1 ⟨rfl, hw⟩; have hw := hw.symm; subst hw)
                go_meet
                case rel => exact ⟨rfl, rfl⟩
              · have q1 : decide (j < l.length) = false := decide_eq_false hjl
                go_wp2_with fail
                go_meet
                case rel => exact ⟨rfl, rfl⟩
        case rest =>
          obtain ⟨rfl, hwc⟩ := hcut
          have hwc := hwc.symm
          subst hwc
          have hel : (e : Int) ≤ l.length := by omega
          have hie2 : (i : Int) ≤ e := by omega
          have HHE : Hid (∀ h : e < l.length, Words.headIs Words.letterB (l.drop e) = Words.letterB l[e]) := hide (fun h => headIs_at _ l e h)
          have HHN : Hid (¬ e < l.length → Words.headIs Words.letterB (l.drop e) = false) := hide (fun h => by rw [List.drop_of_length_le (by omega)]; rfl)
          go_wp2_with fail
          rw [ext]
          obtain ⟨X, hX⟩ : ∃ X, (l.drop i).take (e - i) = X := ⟨_, rfl⟩
          have hXl : X.length ≤ 1000000 := by rw [← hX, List.length_take, List.length_drop]; omega
          rw [hX] at HST HXD ⊢
          have HX := hide hX
          have hXe : (⟨l.toArray⟩ : ByteArray).extract i e = ⟨X.toArray⟩ := by rw [ext, hX]
          clear hX
          refine (refNumber_any X (unhide HXD) hXl _).mono ?_
          rintro ev w5 ⟨rfl, hw⟩
          have hw := hw.symm
          subst hw
          by_cases hov : Words.num X ≤ Words.big
          · rw [if_pos hov, decide_eq_true hov]
            have HST2 := unhide HST
            rw [if_neg (by omega)] at HST2
            have HST3 := hide HST2
            clear HST2
            generalize hnX : Words.num X = nX at *
            have HNX := hide hnX
            clear hnX
            by_cases hel2 : e < l.length
            · have q1 : decide (e < l.length) = true := decide_eq_true hel2
              have hs2 : e < (⟨l.toArray⟩ : ByteArray).size := hel2
              have hbv2 : (((⟨l.toArray⟩ : ByteArray)[e]'hs2).toNat : Int) = (l[e].toNat : Int) := rfl
              have hj2 : (e : Int) < l.length := by omega
              have HL2 := hide (fun W => letter_any l[e] W)
              have HHE2 := unhide HHE hel2
              by_cases hle : Words.letterB l[e] = true
              · rw [hle] at HL2
                have HRR : Hid (R = ([], 3, e)) := hide (by
                  have h1 := unhide HST3
                  rw [HHE2, hle, if_pos rfl] at h1
                  rw [← unhide HEQ, Words.scanAt_bad hlt h1, show i + (e - i) = e by omega]
                  rfl)
                clear hle HHE2
                generalize l[e].toNat = m at *
                have HAT := hide (fun W => at_any wWord e 3 W)
                have HKK := hide (And.intro (((unhide HBW).cell (p := ⟨w.heap.size, 0, none⟩) (Nat.lt_succ_self _)).trans (unhide HC).1) (And.intro (((unhide HBW).cell (p := ⟨w.heap.size, 1, none⟩) (Nat.lt_succ_self _)).trans (unhide HC).2.1) (And.intro (((unhide HBW).frozen (p := ⟨w.heap.size, 0, none⟩) (Nat.lt_succ_self _)).trans (unhide HC).2.2.1) (((unhide HBW).frozen (p := ⟨w.heap.size, 1, none⟩) (Nat.lt_succ_self _)).trans (unhide HC).2.2.2))))
                have hs5 : w.heap.size < (wr).heap.size := Nat.lt_of_lt_of_le (Nat.lt_of_lt_of_le (Nat.lt_succ_self _) hs) (unhide HBW).size
                go_wp2_with (first | (go_at_call 18; refine (unhide HAT _).mono ?_; rintro ev w8 ⟨b8, rfl, hb8, h0, h1, hB8⟩; have k0 := (hB8.cell (p := ⟨w.heap.size, 0, none⟩) hs5).trans (unhide HKK).1; have k1 := (hB8.cell (p := ⟨w.heap.size, 1, none⟩) hs5).trans (unhide HKK).2.1; have l0 := (hB8.frozen (p := ⟨w.heap.size, 0, none⟩) hs5).trans (unhide HKK).2.2.1; have l1 := (hB8.frozen (p := ⟨w.heap.size, 1, none⟩) hs5).trans (unhide HKK).2.2.2) | (go_at_call 39; refine (unhide HL2 _).mono ?_; rintro ev w1 ⟨rfl, hw⟩; have hw := hw.symm; subst hw))
                rw [unhide HRR]
                have y8 : Below (w.heap.size + 1) W w8 := (unhide HBW).trans (hB8.mono hs5)
                exact bodyPost_ret (v := .tuple #[.slice none 0 0, .agg #[.slice (some ⟨b8, 0, none⟩) 1 1, .int .i64 3]]) (by simp [results, Tryd.results29, go_sem, k0, k1]) rfl ⟨_, _, rfl, OwnT.nil _ _ _, told_mk (err := 3) (by decide) (Nat.le_trans hs5 hb8) h0 h1, (((unhide HB2).trans (y8.mono (by omega))).setCell (Nat.le_refl _) _).setCell (Nat.le_refl _) _⟩
              · replace hle : Words.letterB l[e] = false := by simpa using hle
                rw [hle] at HL2
                have h1 := unhide HST3
                rw [HHE2, hle, if_neg (by decide)] at h1
                have hlen := (Words.step_len h1).1
                have hie3 : i < e := by omega
                have HQ : Hid (Words.also (done ++ [⟨2, X, i, nX⟩]) (Words.scanAt l e) = R) := hide (by
                  rw [← unhide HEQ, Words.scanAt_tok hlt h1, Words.also_also, unhide HX, show i + (e - i) = e by omega])
                clear h1 hlen hle HHE2
                generalize l[e].toNat = m at *
                have hown5 := (unhide HOWN)
                obtain ⟨v9, w9, hr9, ho9, hg9⟩ := append_rtok hown5 ⟨2, X, i, nX⟩ (Nat.le_trans hs (unhide HBW).size) (by omega)
                have y9 : Below (w.heap.size + 1) W w9 := ((unhide HBW).alloc (Nat.le_trans hs (unhide HBW).size) _).grown hg9 (by have := (unhide HBW).size; simp; omega) (fun j hj => (World.ownsRow.lt hown5 j hj).1)
                have H9 := hide (And.intro ho9 y9)
                clear hown5 ho9 hg9 y9
                go_wp2_with (first | (at_builtin; refine wpList_append_runT rfl _ _ rfl rfl _ _ rfl rfl v9 w9 hr9 ?_) | (go_at_call 39; refine (unhide HL2 _).mono ?_; rintro ev w1 ⟨rfl, hw⟩; have hw := hw.symm; subst hw))
                go_roundw
                case rel => exact ⟨e, done ++ [⟨2, X, i, nX⟩], by omega, by first | rfl | go_num, by rw [List.length_append, List.length_singleton]; omega, HQ, hide (unhide H9).1, hide (unhide H9).2⟩
                case measure => simp [intOf]; omega
            · have q1 : decide (e < l.length) = false := decide_eq_false hel2
              have h1 := unhide HST3
              rw [unhide HHN hel2, if_neg (by decide)] at h1
              have hlen := (Words.step_len h1).1
              have hie3 : i < e := by omega
              have HQ : Hid (Words.also (done ++ [⟨2, X, i, nX⟩]) (Words.scanAt l e) = R) := hide (by
                rw [← unhide HEQ, Words.scanAt_tok hlt h1, Words.also_also, unhide HX, show i + (e - i) = e by omega])
              clear h1 hlen
              have hown5 := (unhide HOWN)
              obtain ⟨v9, w9, hr9, ho9, hg9⟩ := append_rtok hown5 ⟨2, X, i, nX⟩ (Nat.le_trans hs (unhide HBW).size) (by omega)
              have y9 : Below (w.heap.size + 1) W w9 := ((unhide HBW).alloc (Nat.le_trans hs (unhide HBW).size) _).grown hg9 (by have := (unhide HBW).size; simp; omega) (fun j hj => (World.ownsRow.lt hown5 j hj).1)
              have H9 := hide (And.intro ho9 y9)
              clear hown5 ho9 hg9 y9
              go_wp2_with (first | (at_builtin; refine wpList_append_runT rfl _ _ rfl rfl _ _ rfl rfl v9 w9 hr9 ?_))
              go_roundw
              case rel => exact ⟨e, done ++ [⟨2, X, i, nX⟩], by omega, by first | rfl | go_num, by rw [List.length_append, List.length_singleton]; omega, HQ, hide (unhide H9).1, hide (unhide H9).2⟩
              case measure => simp [intOf]; omega
          · rw [if_neg hov, decide_eq_false hov]
            have HRR : Hid (R = ([], 5, i)) := hide (by
              have h1 := unhide HST
              rw [if_pos (by omega)] at h1
              rw [← unhide HEQ, Words.scanAt_bad hlt h1]
              rfl)
            clear hov
            have HAT := hide (fun W => at_any wWord i 5 W)
            have HKK := hide (And.intro (((unhide HBW).cell (p := ⟨w.heap.size, 0, none⟩) (Nat.lt_succ_self _)).trans (unhide HC).1) (And.intro (((unhide HBW).cell (p := ⟨w.heap.size, 1, none⟩) (Nat.lt_succ_self _)).trans (unhide HC).2.1) (And.intro (((unhide HBW).frozen (p := ⟨w.heap.size, 0, none⟩) (Nat.lt_succ_self _)).trans (unhide HC).2.2.1) (((unhide HBW).frozen (p := ⟨w.heap.size, 1, none⟩) (Nat.lt_succ_self _)).trans (unhide HC).2.2.2))))
            have hs5 : w.heap.size < (wr).heap.size := Nat.lt_of_lt_of_le (Nat.lt_of_lt_of_le (Nat.lt_succ_self _) hs) (unhide HBW).size
            go_wp2_with ((go_at_call 18; refine (unhide HAT _).mono ?_; rintro ev w8 ⟨b8, rfl, hb8, h0, h1, hB8⟩; have k0 := (hB8.cell (p := ⟨w.heap.size, 0, none⟩) hs5).trans (unhide HKK).1; have k1 := (hB8.cell (p := ⟨w.heap.size, 1, none⟩) hs5).trans (unhide HKK).2.1; have l0 := (hB8.frozen (p := ⟨w.heap.size, 0, none⟩) hs5).trans (unhide HKK).2.2.1; have l1 := (hB8.frozen (p := ⟨w.heap.size, 1, none⟩) hs5).trans (unhide HKK).2.2.2))
            rw [unhide HRR]
            have y8 : Below (w.heap.size + 1) W w8 := (unhide HBW).trans (hB8.mono hs5)
            exact bodyPost_ret (v := .tuple #[.slice none 0 0, .agg #[.slice (some ⟨b8, 0, none⟩) 1 1, .int .i64 5]]) (by simp [results, Tryd.results29, go_sem, k0, k1]) rfl ⟨_, _, rfl, OwnT.nil _ _ _, told_mk (err := 5) (by decide) (Nat.le_trans hs5 hb8) h0 h1, (((unhide HB2).trans (y8.mono (by omega))).setCell (Nat.le_refl _) _).setCell (Nat.le_refl _) _⟩
      replace hdig : Words.digitB c = false := by simpa using hdig
      rw [hdig] at HDG
      have HST := hide (unhide HSS hb hlet hdig)
      have HSG := hide (fun W => refSign_any l i hlt (by omega) W)
      have HKL : Hid (Words.signLen (l.drop i) ≤ 2) := hide (by
        cases l.drop i with
        | nil => simp [Words.signLen]
        | cons a b => simp only [Words.signLen]; split <;> (try split) <;> omega)
      clear hb hlet hdig HSB HSN HSD HSS
      generalize Words.signLen (l.drop i) = k at *
      generalize c.toNat = cn at *
      by_cases hk0 : k = 0
      · subst hk0
        have HRR : Hid (R = ([], 3, i)) := hide (by
          have h1 := unhide HST
          rw [if_pos rfl] at h1
          rw [← unhide HEQ, Words.scanAt_bad hlt h1]
          rfl)
        have HAT := hide (fun W => at_any wWord i 3 W)
        have HKK := hide (And.intro (((unhide HBW).cell (p := ⟨w.heap.size, 0, none⟩) (Nat.lt_succ_self _)).trans (unhide HC).1) (And.intro (((unhide HBW).cell (p := ⟨w.heap.size, 1, none⟩) (Nat.lt_succ_self _)).trans (unhide HC).2.1) (And.intro (((unhide HBW).frozen (p := ⟨w.heap.size, 0, none⟩) (Nat.lt_succ_self _)).trans (unhide HC).2.2.1) (((unhide HBW).frozen (p := ⟨w.heap.size, 1, none⟩) (Nat.lt_succ_self _)).trans (unhide HC).2.2.2))))
        have hs5 : w.heap.size < (wr).heap.size := Nat.lt_of_lt_of_le (Nat.lt_of_lt_of_le (Nat.lt_succ_self _) hs) (unhide HBW).size
        go_wp2_with (first | (go_at_call 39; refine (unhide HL _).mono ?_; rintro ev w1 ⟨rfl, hw⟩; have hw := hw.symm; subst hw) | (go_at_call 42; refine (unhide HDG _).mono ?_; rintro ev w1 ⟨rfl, hw⟩; have hw := hw.symm; subst hw) | (go_at_call 44; refine (unhide HSG _).mono ?_; rintro ev w1 ⟨rfl, hw⟩; have hw := hw.symm; subst hw) | (go_at_call 18; refine (unhide HAT _).mono ?_; rintro ev w8 ⟨b8, rfl, hb8, h0, h1, hB8⟩; have k0 := (hB8.cell (p := ⟨w.heap.size, 0, none⟩) hs5).trans (unhide HKK).1; have k1 := (hB8.cell (p := ⟨w.heap.size, 1, none⟩) hs5).trans (unhide HKK).2.1; have l0 := (hB8.frozen (p := ⟨w.heap.size, 0, none⟩) hs5).trans (unhide HKK).2.2.1; have l1 := (hB8.frozen (p := ⟨w.heap.size, 1, none⟩) hs5).trans (unhide HKK).2.2.2))
        rw [unhide HRR]
        have y8 : Below (w.heap.size + 1) W w8 := (unhide HBW).trans (hB8.mono hs5)
        exact bodyPost_ret (v := .tuple #[.slice none 0 0, .agg #[.slice (some ⟨b8, 0, none⟩) 1 1, .int .i64 3]]) (by simp [results, Tryd.results29, go_sem, k0, k1]) rfl ⟨_, _, rfl, OwnT.nil _ _ _, told_mk (err := 3) (by decide) (Nat.le_trans hs5 hb8) h0 h1, (((unhide HB2).trans (y8.mono (by omega))).setCell (Nat.le_refl _) _).setCell (Nat.le_refl _) _⟩
      · have h1 := unhide HST
        rw [if_neg hk0] at h1
        have hlen := (Words.step_len h1).2
        rw [List.length_drop] at hlen
        have hk2 := unhide HKL
        obtain ⟨X, hX⟩ : ∃ X, (l.drop i).take k = X := ⟨_, rfl⟩
        obtain ⟨e, he⟩ : ∃ e, i + k = e := ⟨_, rfl⟩
        have hXe : (⟨l.toArray⟩ : ByteArray).extract i e = ⟨X.toArray⟩ := by rw [ext, ← he, Nat.add_sub_cancel_left, hX]
        have HQ : Hid (Words.also (done ++ [⟨3, X, i, 0⟩]) (Words.scanAt l e) = R) := hide (by
          rw [← unhide HEQ, Words.scanAt_tok hlt h1, Words.also_also, hX, he])
        clear h1 hX
        have hk0' : ((k : Int) == 0) = false := by rw [beq_eq_false_iff_ne]; omega
        have hk0'' : ¬ (k : Int) = 0 := by omega
        have hee : (i : Int) + k = e := by omega
        have hel : (e : Int) ≤ l.length := by omega
        have hie2 : (i : Int) ≤ e := by omega
        have hown5 := (unhide HOWN)
        obtain ⟨v9, w9, hr9, ho9, hg9⟩ := append_rtok hown5 ⟨3, X, i, 0⟩ (Nat.le_trans hs (unhide HBW).size) (by omega)
        have y9 : Below (w.heap.size + 1) W w9 := ((unhide HBW).alloc (Nat.le_trans hs (unhide HBW).size) _).grown hg9 (by have := (unhide HBW).size; simp; omega) (fun j hj => (World.ownsRow.lt hown5 j hj).1)
        have H9 := hide (And.intro ho9 y9)
        clear hown5 ho9 hg9 y9
        go_wp2_with (first | (go_at_call 39; refine (unhide HL _).mono ?_; rintro ev w1 ⟨rfl, hw⟩; have hw := hw.symm; subst hw) | (go_at_call 42; refine (unhide HDG _).mono ?_; rintro ev w1 ⟨rfl, hw⟩; have hw := hw.symm; subst hw) | (go_at_call 44; refine (unhide HSG _).mono ?_; rintro ev w1 ⟨rfl, hw⟩; have hw := hw.symm; subst hw) | (at_builtin; refine wpList_append_runT rfl _ _ rfl rfl _ _ rfl rfl v9 w9 hr9 ?_))
        go_roundw
        case rel => exact ⟨e, done ++ [⟨3, X, i, 0⟩], by omega, by first | rfl | go_num, by rw [List.length_append, List.length_singleton]; omega, HQ, hide (unhide H9).1, hide (unhide H9).2⟩
        case measure => simp [intOf]; omega
    · have HRR : Hid (R = (done, 0, 0)) := hide (by rw [← unhide HEQ, Words.scanAt_end l i (by omega)]; unfold Words.also; simp)
      have k0 := ((unhide HBW).cell (p := ⟨w.heap.size, 0, none⟩) (Nat.lt_succ_self _)).trans (unhide HC).1
      have k1 := ((unhide HBW).cell (p := ⟨w.heap.size, 1, none⟩) (Nat.lt_succ_self _)).trans (unhide HC).2.1
      have l0 := ((unhide HBW).frozen (p := ⟨w.heap.size, 0, none⟩) (Nat.lt_succ_self _)).trans (unhide HC).2.2.1
      have l1 := ((unhide HBW).frozen (p := ⟨w.heap.size, 1, none⟩) (Nat.lt_succ_self _)).trans (unhide HC).2.2.2
      go_wp2
      rw [unhide HRR]
      exact bodyPost_ret (v := .tuple #[u4, .agg #[.slice none 0 0, .int .i64 0]]) (by simp [results, Tryd.results29, go_sem, k0, k1]) rfl ⟨_, _, rfl, ownT_fin (unhide HOWN), .inl ⟨rfl, rfl⟩, (((unhide HB2).trans ((unhide HBW).mono (by omega))).setCell (Nat.le_refl _) _).setCell (Nat.le_refl _) _⟩
end Go.Proofs.YtomnbidppkpfiaaDoor.Line
