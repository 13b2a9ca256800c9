/- The contracts of the reference's letter, digit, behind, IsKey, sign, number. -/
import Derived.Test.YtbpmfkikhackfaaGreatDoorMemB
import Derived.Test.YtbpmfkikhackfaaGreatDoorPlainTok
import Derived.Laws.OwnMore
namespace Go.Proofs.YtbpmfkikhackfaaGreatDoor.Line
open Go.ChangeShapes Go.WideShapes Go.ChangeAt Go.RowKit
set_option linter.unusedVariables false

theorem letter_any (c : UInt8) (w : World) : Calls Tryz.prog 29 #[.int .u8 (c.toNat : Int)] w fun e w' => e = .returned (.bool (Words.letterB c)) ∧ w' = w := by
  have hE : Words.letterB c = (decide (97 ≤ c.toNat) && decide (c.toNat ≤ 122)) := rfl
  rw [hE]
  clear hE
  generalize c.toNat = n
  by_cases h1 : 97 ≤ n
  · have q1 : decide (97 ≤ n) = true := decide_eq_true h1
    go_enter Tryz.func29, Tryz.ntmps29
    go_wp2
    go_ret
    refine ⟨ret_bool ?_, rfl⟩
    simp [h1]
    omega
  · have q1 : decide (97 ≤ n) = false := decide_eq_false h1
    go_enter Tryz.func29, Tryz.ntmps29
    go_wp2
    go_ret
    refine ⟨ret_bool ?_, rfl⟩
    simp
theorem digit_any (c : UInt8) (w : World) : Calls Tryz.prog 32 #[.int .u8 (c.toNat : Int)] w fun e w' => e = .returned (.bool (Words.digitB c)) ∧ w' = w := by
  have hE : Words.digitB c = (decide (48 ≤ c.toNat) && decide (c.toNat ≤ 57)) := rfl
  rw [hE]
  clear hE
  generalize c.toNat = n
  by_cases h1 : 48 ≤ n
  · have q1 : decide (48 ≤ n) = true := decide_eq_true h1
    go_enter Tryz.func32, Tryz.ntmps32
    go_wp2
    go_ret
    refine ⟨ret_bool ?_, rfl⟩
    simp [h1]
    omega
  · have q1 : decide (48 ≤ n) = false := decide_eq_false h1
    go_enter Tryz.func32, Tryz.ntmps32
    go_wp2
    go_ret
    refine ⟨ret_bool ?_, rfl⟩
    simp
theorem behind_any (c : UInt8) (w : World) : Calls Tryz.prog 30 #[.int .u8 (c.toNat : Int)] w fun e w' => e = .returned (.bool (Words.behindB c)) ∧ w' = w := by
  have hE : Words.behindB c = (Words.letterB c || Words.digitB c || decide (c.toNat = 95)) := rfl
  rw [hE]
  clear hE
  have HL := hide (letter_any c w)
  have HD := hide (digit_any c w)
  generalize Words.letterB c = bl at *
  generalize Words.digitB c = bd at *
  generalize c.toNat = n at *
  cases bl
  · cases bd
    · go_enter Tryz.func30, Tryz.ntmps30
      go_wp2_with (first | (go_at_call 29; refine (unhide HL).mono ?_; rintro e w1 ⟨rfl, rfl⟩) | (go_at_call 32; refine (unhide HD).mono ?_; rintro e w1 ⟨rfl, rfl⟩))
      go_ret
      refine ⟨ret_bool ?_, rfl⟩
      simp only [Bool.false_or]
      by_cases h : n = 95
      · subst h; rfl
      · rw [decide_eq_false h]
        rw [beq_eq_false_iff_ne]
        omega
    · go_enter Tryz.func30, Tryz.ntmps30
      go_wp2_with (first | (go_at_call 29; refine (unhide HL).mono ?_; rintro e w1 ⟨rfl, rfl⟩) | (go_at_call 32; refine (unhide HD).mono ?_; rintro e w1 ⟨rfl, rfl⟩))
      go_ret
      exact ⟨rfl, rfl⟩
  · go_enter Tryz.func30, Tryz.ntmps30
    go_wp2_with (go_at_call 29; refine (unhide HL).mono ?_; rintro e w1 ⟨rfl, rfl⟩)
    go_ret
    exact ⟨rfl, rfl⟩

abbrev keyCells : Array Value := #[.string ⟨#[105, 110, 116, 101, 103, 101, 114]⟩, .string ⟨#[100, 111]⟩, .string ⟨#[101, 110, 100]⟩, .string ⟨#[105, 102]⟩, .string ⟨#[116, 104, 101, 110]⟩, .string ⟨#[101, 108, 115, 101]⟩, .string ⟨#[114, 101, 97, 100]⟩, .string ⟨#[112, 114, 105, 110, 116]⟩]
theorem isKey_yes (l : List UInt8) (i : Nat) (h : i < Words.keys.length) (he : Words.keys[i] = l) : Words.isKey l = true := by
  unfold Words.isKey
  rw [List.contains_iff_mem, ← he]
  exact List.getElem_mem h
theorem isKey_no (l : List UInt8) (h : ∀ j (hj : j < Words.keys.length), Words.keys[j] ≠ l) : Words.isKey l = false := by
  rw [← Bool.not_eq_true]
  intro h1
  unfold Words.isKey at h1
  rw [List.contains_iff_mem] at h1
  obtain ⟨j, hj, he⟩ := List.getElem_of_mem h1
  exact h j hj he
set_option maxHeartbeats 1000000 in
theorem refIsKey_any (l : List UInt8) (w : World) : Calls Tryz.prog 31 #[.string ⟨l.toArray⟩] w fun e w' => e = .returned (.bool (Words.isKey l)) ∧ Below w.heap.size w w' := by
  have hrow : Row (w.alloc (.cells keyCells 9)) (.slice (some ⟨w.heap.size, 0, none⟩) 8 8) Words.keys := (show Own w.heap.size (w.alloc (.cells keyCells 9)) (.slice (some ⟨w.heap.size, 0, none⟩) 8 8) Words.keys from World.ownsRow_lit w keyCells 8 (Nat.le_refl _) (by decide) rfl).row
  have hcell : ∀ i (h : i < Words.keys.length), (w.alloc (.cells keyCells 9)).cell? ⟨w.heap.size, i, none⟩ = some (.string ⟨(Words.keys[i]).toArray⟩) := by
    rcases hrow with ⟨_, _, h, _⟩ | ⟨b, off, c, h1, _, h2⟩
    · cases h
    · injection h1 with h1
      injection h1 with h1
      injection h1 with h1 h3
      subst h1
      subst h3
      intro i hi
      have := h2 i hi
      rwa [Nat.zero_add] at this
  have HC := hide hcell
  clear hcell hrow
  go_enter Tryz.func31, Tryz.ntmps31
  go_wp2_with fail
  have hb := alloc_below w (.cells keyCells 9)
  have HB := hide hb
  clear hb
  generalize w.alloc (.cells keyCells 9) = W at *
  generalize hB0 : w.heap.size = B0 at *
  have HB0 := hide hB0
  clear hB0
  go_loopw [4] (fun q wr => ∃ i : Nat, i ≤ 8 ∧ q = .int .i64 i ∧ wr = W ∧ Hid (∀ j (hj : j < Words.keys.length), j < i → Words.keys[j] ≠ l)) (fun q _ => 8 - (intOf q).toNat)
  case atStart => exact ⟨0, by omega, rfl, rfl, hide (fun j hj h => by omega)⟩
  case round =>
    obtain ⟨i, hi, rfl, rfl, HN⟩ := hrel
    by_cases hlt : i < 8
    · have c1 := unhide HC i hlt
      have HK := hide (isKey_yes l i hlt)
      have HN2 : Hid (Words.keys[i] ≠ l → ∀ j (hj : j < Words.keys.length), j < i + 1 → Words.keys[j] ≠ l) := hide (fun h j hj hji => by
        by_cases e : j = i
        · subst e; exact h
        · exact unhide HN j hj (by omega))
      generalize Words.keys[i] = x at *
      by_cases hx : x = l
      · subst hx
        go_wp2
        go_ret
        exact ⟨ret_bool (unhide HK trivial).symm, by rw [unhide HB0]; exact unhide HB⟩
      · have hxb : (x == l) = false := beq_eq_false_iff_ne.2 hx
        have HN3 := hide (unhide HN2 hx)
        go_wp2
        go_roundw
        case rel => exact ⟨i + 1, by omega, by go_num, trivial, HN3⟩
        case measure => simp [intOf]; omega
    · have HK := hide (isKey_no l (fun j hj => unhide HN j hj (by have : j < 8 := hj; omega)))
      go_wp2
      go_ret
      exact ⟨ret_bool (unhide HK).symm, by rw [unhide HB0]; exact unhide HB⟩

theorem signLen_at (l : List UInt8) (i : Nat) (h : i < l.length) (two : Bool) (ht : two = true ↔ ∃ h2 : i + 1 < l.length, l[i + 1].toNat = 61) : Words.signLen (l.drop i) = if l[i].toNat = 60 ∨ l[i].toNat = 62 ∨ l[i].toNat = 61 ∨ l[i].toNat = 47 then (if two = true then 2 else 1) else if l[i].toNat = 43 ∨ l[i].toNat = 45 ∨ l[i].toNat = 42 ∨ l[i].toNat = 40 ∨ l[i].toNat = 41 ∨ l[i].toNat = 44 then 1 else 0 := by
  rw [List.drop_eq_getElem_cons h]
  have e : ((l.drop (i + 1)).head? = some 61) = (two = true) := by
    rw [List.head?_drop]
    apply propext
    constructor
    · intro h1
      obtain ⟨h2, h3⟩ := List.getElem?_eq_some_iff.1 h1
      exact ht.2 ⟨h2, by rw [h3]; rfl⟩
    · intro h1
      obtain ⟨h2, h3⟩ := ht.1 h1
      rw [List.getElem?_eq_getElem h2]
      exact congrArg some (UInt8.toNat.inj h3)
  simp only [Words.signLen, e]
set_option maxHeartbeats 4000000 in
theorem refSign_any (l : List UInt8) (i : Nat) (h : i < l.length) (hl : l.length ≤ 1000000) (w : World) : Calls Tryz.prog 34 #[.string ⟨l.toArray⟩, .int .i64 i] w fun e w' => e = .returned (.int .i64 (Words.signLen (l.drop i))) ∧ w' = w := by
  have hs : i < (⟨l.toArray⟩ : ByteArray).size := h
  have hbv : (((⟨l.toArray⟩ : ByteArray)[i]'hs).toNat : Int) = (l[i].toNat : Int) := rfl
  have hsz : ((⟨l.toArray⟩ : ByteArray).size : Int) = l.length := rfl
  have hi1 : (i : Int) < l.length := by omega
  have core : ∀ two : Bool, (two = true ↔ ∃ h2 : i + 1 < l.length, l[i + 1].toNat = 61) → Calls Tryz.prog 34 #[.string ⟨l.toArray⟩, .int .i64 i] w fun e w' => e = .returned (.int .i64 (if l[i].toNat = 60 ∨ l[i].toNat = 62 ∨ l[i].toNat = 61 ∨ l[i].toNat = 47 then (if two = true then 2 else 1) else if l[i].toNat = 43 ∨ l[i].toNat = 45 ∨ l[i].toNat = 42 ∨ l[i].toNat = 40 ∨ l[i].toNat = 41 ∨ l[i].toNat = 44 then 1 else 0 : Nat)) ∧ w' = w := by
    intro two ht
    have hcase : (∃ (h2 : i + 1 < l.length), l[i + 1].toNat = 61 ∧ two = true) ∨ (∃ (h2 : i + 1 < l.length), l[i + 1].toNat ≠ 61 ∧ two = false) ∨ (¬ i + 1 < l.length ∧ two = false) := by
      by_cases h2 : i + 1 < l.length
      · by_cases h3 : l[i + 1].toNat = 61
        · exact .inl ⟨h2, h3, ht.2 ⟨h2, h3⟩⟩
        · refine .inr (.inl ⟨h2, h3, ?_⟩)
          cases two
          · rfl
          · obtain ⟨h4, h5⟩ := ht.1 rfl; exact absurd h5 h3
      · refine .inr (.inr ⟨h2, ?_⟩)
        cases two
        · rfl
        · obtain ⟨h4, h5⟩ := ht.1 rfl; exact absurd h4 h2
    clear ht
    generalize l[i].toNat = n at *
    have hn : n = 60 ∨ n = 62 ∨ n = 61 ∨ n = 47 ∨ n = 43 ∨ n = 45 ∨ n = 42 ∨ n = 40 ∨ n = 41 ∨ n = 44 ∨ (¬ (n = 60 ∨ n = 62 ∨ n = 61 ∨ n = 47) ∧ ¬ (n = 43 ∨ n = 45 ∨ n = 42 ∨ n = 40 ∨ n = 41 ∨ n = 44)) := by omega
    rcases hcase with ⟨h2, h3, rfl⟩ | ⟨h2, h3, rfl⟩ | ⟨h2, rfl⟩
    · have hs2 : i + 1 < (⟨l.toArray⟩ : ByteArray).size := h2
      have hb2 : (((⟨l.toArray⟩ : ByteArray)[i + 1]'hs2).toNat : Int) = 61 := by
        show (l[i + 1].toNat : Int) = 61
        rw [h3]; rfl
      have q1 : decide (i + 1 < l.length) = true := decide_eq_true h2
      have q2 : (i : Int) + 1 < l.length := by omega
      clear h3
      rcases hn with rfl | rfl | rfl | rfl | rfl | rfl | rfl | rfl | rfl | rfl | ⟨hn1, hn2⟩
      all_goals try (
        go_enter Tryz.func34, Tryz.ntmps34
        go_wp2
        go_ret
        exact ⟨rfl, rfl⟩)
      all_goals (
        rw [if_neg hn1, if_neg hn2]
        have k1 : ((n : Int) == 60) = false := by rw [beq_eq_false_iff_ne]; omega
        have k2 : ((n : Int) == 62) = false := by rw [beq_eq_false_iff_ne]; omega
        have k3 : ((n : Int) == 61) = false := by rw [beq_eq_false_iff_ne]; omega
        have k4 : ((n : Int) == 47) = false := by rw [beq_eq_false_iff_ne]; omega
        have k5 : ((n : Int) == 43) = false := by rw [beq_eq_false_iff_ne]; omega
        have k6 : ((n : Int) == 45) = false := by rw [beq_eq_false_iff_ne]; omega
        have k7 : ((n : Int) == 42) = false := by rw [beq_eq_false_iff_ne]; omega
        have k8 : ((n : Int) == 40) = false := by rw [beq_eq_false_iff_ne]; omega
        have k9 : ((n : Int) == 41) = false := by rw [beq_eq_false_iff_ne]; omega
        have k0 : ((n : Int) == 44) = false := by rw [beq_eq_false_iff_ne]; omega
        clear hn1 hn2
        go_enter Tryz.func34, Tryz.ntmps34
        go_wp2
        go_ret
        exact ⟨rfl, rfl⟩)
    · have hs2 : i + 1 < (⟨l.toArray⟩ : ByteArray).size := h2
      have hb2 : ((((⟨l.toArray⟩ : ByteArray)[i + 1]'hs2).toNat : Int) == 61) = false := by
        show ((l[i + 1].toNat : Int) == 61) = false
        rw [beq_eq_false_iff_ne]
        omega
      have q1 : decide (i + 1 < l.length) = true := decide_eq_true h2
      have q2 : (i : Int) + 1 < l.length := by omega
      clear h3
      rcases hn with rfl | rfl | rfl | rfl | rfl | rfl | rfl | rfl | rfl | rfl | ⟨hn1, hn2⟩
      all_goals try (
        go_enter Tryz.func34, Tryz.ntmps34
        go_wp2
        go_ret
        exact ⟨rfl, rfl⟩)
      all_goals (
        rw [if_neg hn1, if_neg hn2]
        have k1 : ((n : Int) == 60) = false := by rw [beq_eq_false_iff_ne]; omega
        have k2 : ((n : Int) == 62) = false := by rw [beq_eq_false_iff_ne]; omega
        have k3 : ((n : Int) == 61) = false := by rw [beq_eq_false_iff_ne]; omega
        have k4 : ((n : Int) == 47) = false := by rw [beq_eq_false_iff_ne]; omega
        have k5 : ((n : Int) == 43) = false := by rw [beq_eq_false_iff_ne]; omega
        have k6 : ((n : Int) == 45) = false := by rw [beq_eq_false_iff_ne]; omega
        have k7 : ((n : Int) == 42) = false := by rw [beq_eq_false_iff_ne]; omega
        have k8 : ((n : Int) == 40) = false := by rw [beq_eq_false_iff_ne]; omega
        have k9 : ((n : Int) == 41) = false := by rw [beq_eq_false_iff_ne]; omega
        have k0 : ((n : Int) == 44) = false := by rw [beq_eq_false_iff_ne]; omega
        clear hn1 hn2
        go_enter Tryz.func34, Tryz.ntmps34
        go_wp2
        go_ret
        exact ⟨rfl, rfl⟩)
    · have q1 : decide (i + 1 < l.length) = false := decide_eq_false h2
      rcases hn with rfl | rfl | rfl | rfl | rfl | rfl | rfl | rfl | rfl | rfl | ⟨hn1, hn2⟩
      all_goals try (
        go_enter Tryz.func34, Tryz.ntmps34
        go_wp2
        go_ret
        exact ⟨rfl, rfl⟩)
      all_goals (
        rw [if_neg hn1, if_neg hn2]
        have k1 : ((n : Int) == 60) = false := by rw [beq_eq_false_iff_ne]; omega
        have k2 : ((n : Int) == 62) = false := by rw [beq_eq_false_iff_ne]; omega
        have k3 : ((n : Int) == 61) = false := by rw [beq_eq_false_iff_ne]; omega
        have k4 : ((n : Int) == 47) = false := by rw [beq_eq_false_iff_ne]; omega
        have k5 : ((n : Int) == 43) = false := by rw [beq_eq_false_iff_ne]; omega
        have k6 : ((n : Int) == 45) = false := by rw [beq_eq_false_iff_ne]; omega
        have k7 : ((n : Int) == 42) = false := by rw [beq_eq_false_iff_ne]; omega
        have k8 : ((n : Int) == 40) = false := by rw [beq_eq_false_iff_ne]; omega
        have k9 : ((n : Int) == 41) = false := by rw [beq_eq_false_iff_ne]; omega
        have k0 : ((n : Int) == 44) = false := by rw [beq_eq_false_iff_ne]; omega
        clear hn1 hn2
        go_enter Tryz.func34, Tryz.ntmps34
        go_wp2
        go_ret
        exact ⟨rfl, rfl⟩)
  by_cases hx : ∃ h2 : i + 1 < l.length, l[i + 1].toNat = 61
  · rw [signLen_at l i h true ⟨fun _ => hx, fun _ => rfl⟩]
    exact core true ⟨fun _ => hx, fun _ => rfl⟩
  · rw [signLen_at l i h false ⟨fun h => (by cases h), fun h => absurd h hx⟩]
    exact core false ⟨fun h => (by cases h), fun h => absurd h hx⟩
end Go.Proofs.YtbpmfkikhackfaaGreatDoor.Line
