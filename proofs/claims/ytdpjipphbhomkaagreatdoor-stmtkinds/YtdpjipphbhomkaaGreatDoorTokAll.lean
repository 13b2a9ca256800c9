/- The contracts of the reference's letter, digit, behind, IsKey, sign, number.
   The contract of the reference's number.
   The contract of the reference's Toks.
   Plain facts on texts as lists of bytes: lines, which line may not be, a line's parts, its indent. Nothing of the program is named.
   The contracts of the project's line.Part (with strings.IndexByte, strings.TrimSuffix) and of the reference's Parts; out of stage 2's texts.
   Contracts of the small functions of package tok: isSmall, isDigit, isInner, IsKey, signLength, span.
   Contracts of the checked sum and product: num.Add, num.Mul and what they call.
   Plain facts on words more: digits alone are one number; words with blanks between them are the same words; two signs beside each other. Nothing of the program is named.
   Plain facts on how a line's words are read one behind the other: what a text begins with (first), whether a word clings to the one ahead, and one round more. Nothing of the program is named.
   Contracts of package tok: letters, digits, clings, first.
   The contracts of strings.Builder's WriteString and String and the laying of strings.TrimLeft at this program: the library s theorems, laid at its numbers.
   The contract of a line's indent: line.Indent.
   What stage 4's walks ask of the project's Line, of known, of Tells; where words lie, how many there are.
   The contract of the project's Line. -/
import Derived.Test.YtdpjipphbhomkaaGreatDoorMemB
import Derived.Test.YtdpjipphbhomkaaGreatDoorPlainTok
import Derived.Laws.OwnMore
import Derived.Test.YtdpjipphbhomkaaGreatDoorTokMem
import Derived.Test.YtdpjipphbhomkaaGreatDoorAtB
import Derived.Deep.CutBlock
import Derived.Lib.Strings
import Derived.Lib.Bytealg
import Derived.Test.YtdpjipphbhomkaaGreatDoorBase
import Derived.Lib.Mul64
import Derived.Laws.Bits64b
import Derived.IntWalk
import Derived.WalkLawsBesides
import Derived.Shelf.Strings.BuilderK
import Derived.Shelf.Strings.Trim
import Derived.Shelf.Strings.SlTrimAscii
import Derived.Test.YtdpjipphbhomkaaGreatDoorProg
import Derived.Test.YtdpjipphbhomkaaGreatDoorGlobB
namespace Go.Proofs.YtdpjipphbhomkaaGreatDoor.Line
open Go.ChangeShapes Go.WideShapes Go.ChangeAt Go.RowKit
set_option linter.unusedVariables false

theorem letter_any (c : UInt8) (w : World) : Calls Tryz.prog 41 #[.int .u8 (c.toNat : Int)] w fun e w' => e = .returned (.bool (Words.letterB c)) ∧ w' = w := by
  have hE : Words.letterB c = (decide (97 ≤ c.toNat) && decide (c.toNat ≤ 122)) := rfl
  rw [hE]
  clear hE
  generalize c.toNat = n
  by_cases h1 : 97 ≤ n
  · have q1 : decide (97 ≤ n) = true := decide_eq_true h1
    go_enter Tryz.func41, Tryz.ntmps41
    go_wp2
    go_ret
    refine ⟨ret_bool ?_, rfl⟩
    simp [h1]
    omega
  · have q1 : decide (97 ≤ n) = false := decide_eq_false h1
    go_enter Tryz.func41, Tryz.ntmps41
    go_wp2
    go_ret
    refine ⟨ret_bool ?_, rfl⟩
    simp
theorem digit_any (c : UInt8) (w : World) : Calls Tryz.prog 44 #[.int .u8 (c.toNat : Int)] w fun e w' => e = .returned (.bool (Words.digitB c)) ∧ w' = w := by
  have hE : Words.digitB c = (decide (48 ≤ c.toNat) && decide (c.toNat ≤ 57)) := rfl
  rw [hE]
  clear hE
  generalize c.toNat = n
  by_cases h1 : 48 ≤ n
  · have q1 : decide (48 ≤ n) = true := decide_eq_true h1
    go_enter Tryz.func44, Tryz.ntmps44
    go_wp2
    go_ret
    refine ⟨ret_bool ?_, rfl⟩
    simp [h1]
    omega
  · have q1 : decide (48 ≤ n) = false := decide_eq_false h1
    go_enter Tryz.func44, Tryz.ntmps44
    go_wp2
    go_ret
    refine ⟨ret_bool ?_, rfl⟩
    simp
theorem behind_any (c : UInt8) (w : World) : Calls Tryz.prog 42 #[.int .u8 (c.toNat : Int)] w fun e w' => e = .returned (.bool (Words.behindB c)) ∧ w' = w := by
  have hE : Words.behindB c = (Words.letterB c || Words.digitB c || decide (c.toNat = 95)) := rfl
  rw [hE]
  clear hE
  have HL := hide (letter_any c w)
  have HD := hide (digit_any c w)
  generalize Words.letterB c = bl at *
  generalize Words.digitB c = bd at *
  generalize c.toNat = n at *
  cases bl
  · cases bd
    · go_enter Tryz.func42, Tryz.ntmps42
      go_wp2_with (first | (go_at_call 41; refine (unhide HL).mono ?_; rintro e w1 ⟨rfl, rfl⟩) | (go_at_call 44; refine (unhide HD).mono ?_; rintro e w1 ⟨rfl, rfl⟩))
      go_ret
      refine ⟨ret_bool ?_, rfl⟩
      simp only [Bool.false_or]
      by_cases h : n = 95
      · subst h; rfl
      · rw [decide_eq_false h]
        rw [beq_eq_false_iff_ne]
        omega
    · go_enter Tryz.func42, Tryz.ntmps42
      go_wp2_with (first | (go_at_call 41; refine (unhide HL).mono ?_; rintro e w1 ⟨rfl, rfl⟩) | (go_at_call 44; refine (unhide HD).mono ?_; rintro e w1 ⟨rfl, rfl⟩))
      go_ret
      exact ⟨rfl, rfl⟩
  · go_enter Tryz.func42, Tryz.ntmps42
    go_wp2_with (go_at_call 41; refine (unhide HL).mono ?_; rintro e w1 ⟨rfl, rfl⟩)
    go_ret
    exact ⟨rfl, rfl⟩

abbrev keyCells : Array Value := #[.string ⟨#[105, 110, 116, 101, 103, 101, 114]⟩, .string ⟨#[100, 111]⟩, .string ⟨#[101, 110, 100]⟩, .string ⟨#[105, 102]⟩, .string ⟨#[116, 104, 101, 110]⟩, .string ⟨#[101, 108, 115, 101]⟩, .string ⟨#[114, 101, 97, 100]⟩, .string ⟨#[112, 114, 105, 110, 116]⟩]
theorem isKey_yes (l : List UInt8) (i : Nat) (h : i < Words.keys.length) (he : Words.keys[i] = l) : Words.isKey l = true := by
  unfold Words.isKey
  rw [List.contains_iff_mem, ← he]
  exact List.getElem_mem h
theorem isKey_no (l : List UInt8) (h : ∀ j (hj : j < Words.keys.length), Words.keys[j] ≠ l) : Words.isKey l = false := by
  rw [← Bool.not_eq_true]
  intro h1
  unfold Words.isKey at h1
  rw [List.contains_iff_mem] at h1
  obtain ⟨j, hj, he⟩ := List.getElem_of_mem h1
  exact h j hj he
set_option maxHeartbeats 1000000 in
theorem refIsKey_any (l : List UInt8) (w : World) : Calls Tryz.prog 43 #[.string ⟨l.toArray⟩] w fun e w' => e = .returned (.bool (Words.isKey l)) ∧ Below w.heap.size w w' := by
  have hrow : Row (w.alloc (.cells keyCells 9)) (.slice (some ⟨w.heap.size, 0, none⟩) 8 8) Words.keys := (show Own w.heap.size (w.alloc (.cells keyCells 9)) (.slice (some ⟨w.heap.size, 0, none⟩) 8 8) Words.keys from World.ownsRow_lit w keyCells 8 (Nat.le_refl _) (by decide) rfl).row
  have hcell : ∀ i (h : i < Words.keys.length), (w.alloc (.cells keyCells 9)).cell? ⟨w.heap.size, i, none⟩ = some (.string ⟨(Words.keys[i]).toArray⟩) := by
    rcases hrow with ⟨_, _, h, _⟩ | ⟨b, off, c, h1, _, h2⟩
    · cases h
    · injection h1 with h1
      injection h1 with h1
      injection h1 with h1 h3
      subst h1
      subst h3
      intro i hi
      have := h2 i hi
      rwa [Nat.zero_add] at this
  have HC := hide hcell
  clear hcell hrow
  go_enter Tryz.func43, Tryz.ntmps43
  go_wp2_with fail
  have hb := alloc_below w (.cells keyCells 9)
  have HB := hide hb
  clear hb
  generalize w.alloc (.cells keyCells 9) = W at *
  generalize hB0 : w.heap.size = B0 at *
  have HB0 := hide hB0
  clear hB0
  go_loopw [4] (fun q wr => ∃ i : Nat, i ≤ 8 ∧ q = .int .i64 i ∧ wr = W ∧ Hid (∀ j (hj : j < Words.keys.length), j < i → Words.keys[j] ≠ l)) (fun q _ => 8 - (intOf q).toNat)
  case atStart => exact ⟨0, by omega, rfl, rfl, hide (fun j hj h => by omega)⟩
  case round =>
    obtain ⟨i, hi, rfl, rfl, HN⟩ := hrel
    by_cases hlt : i < 8
    · have c1 := unhide HC i hlt
      have HK := hide (isKey_yes l i hlt)
      have HN2 : Hid (Words.keys[i] ≠ l → ∀ j (hj : j < Words.keys.length), j < i + 1 → Words.keys[j] ≠ l) := hide (fun h j hj hji => by
        by_cases e : j = i
        · subst e; exact h
        · exact unhide HN j hj (by omega))
      generalize Words.keys[i] = x at *
      by_cases hx : x = l
      · subst hx
        go_wp2
        go_ret
        exact ⟨ret_bool (unhide HK trivial).symm, by rw [unhide HB0]; exact unhide HB⟩
      · have hxb : (x == l) = false := beq_eq_false_iff_ne.2 hx
        have HN3 := hide (unhide HN2 hx)
        go_wp2
        go_roundw
        case rel => exact ⟨i + 1, by omega, by go_num, trivial, HN3⟩
        case measure => simp [intOf]; omega
    · have HK := hide (isKey_no l (fun j hj => unhide HN j hj (by have : j < 8 := hj; omega)))
      go_wp2
      go_ret
      exact ⟨ret_bool (unhide HK).symm, by rw [unhide HB0]; exact unhide HB⟩

theorem signLen_at (l : List UInt8) (i : Nat) (h : i < l.length) (two : Bool) (ht : two = true ↔ ∃ h2 : i + 1 < l.length, l[i + 1].toNat = 61) : Words.signLen (l.drop i) = if l[i].toNat = 60 ∨ l[i].toNat = 62 ∨ l[i].toNat = 61 ∨ l[i].toNat = 47 then (if two = true then 2 else 1) else if l[i].toNat = 43 ∨ l[i].toNat = 45 ∨ l[i].toNat = 42 ∨ l[i].toNat = 40 ∨ l[i].toNat = 41 ∨ l[i].toNat = 44 then 1 else 0 := by
  rw [List.drop_eq_getElem_cons h]
  have e : ((l.drop (i + 1)).head? = some 61) = (two = true) := by
    rw [List.head?_drop]
    apply propext
    constructor
    · intro h1
      obtain ⟨h2, h3⟩ := List.getElem?_eq_some_iff.1 h1
      exact ht.2 ⟨h2, by rw [h3]; rfl⟩
    · intro h1
      obtain ⟨h2, h3⟩ := ht.1 h1
      rw [List.getElem?_eq_getElem h2]
      exact congrArg some (UInt8.toNat.inj h3)
  simp only [Words.signLen, e]
set_option maxHeartbeats 4000000 in
theorem refSign_any (l : List UInt8) (i : Nat) (h : i < l.length) (hl : l.length ≤ 1000000) (w : World) : Calls Tryz.prog 46 #[.string ⟨l.toArray⟩, .int .i64 i] w fun e w' => e = .returned (.int .i64 (Words.signLen (l.drop i))) ∧ w' = w := by
  have hs : i < (⟨l.toArray⟩ : ByteArray).size := h
  have hbv : (((⟨l.toArray⟩ : ByteArray)[i]'hs).toNat : Int) = (l[i].toNat : Int) := rfl
  have hsz : ((⟨l.toArray⟩ : ByteArray).size : Int) = l.length := rfl
  have hi1 : (i : Int) < l.length := by omega
  have core : ∀ two : Bool, (two = true ↔ ∃ h2 : i + 1 < l.length, l[i + 1].toNat = 61) → Calls Tryz.prog 46 #[.string ⟨l.toArray⟩, .int .i64 i] w fun e w' => e = .returned (.int .i64 (if l[i].toNat = 60 ∨ l[i].toNat = 62 ∨ l[i].toNat = 61 ∨ l[i].toNat = 47 then (if two = true then 2 else 1) else if l[i].toNat = 43 ∨ l[i].toNat = 45 ∨ l[i].toNat = 42 ∨ l[i].toNat = 40 ∨ l[i].toNat = 41 ∨ l[i].toNat = 44 then 1 else 0 : Nat)) ∧ w' = w := by
    intro two ht
    have hcase : (∃ (h2 : i + 1 < l.length), l[i + 1].toNat = 61 ∧ two = true) ∨ (∃ (h2 : i + 1 < l.length), l[i + 1].toNat ≠ 61 ∧ two = false) ∨ (¬ i + 1 < l.length ∧ two = false) := by
      by_cases h2 : i + 1 < l.length
      · by_cases h3 : l[i + 1].toNat = 61
        · exact .inl ⟨h2, h3, ht.2 ⟨h2, h3⟩⟩
        · refine .inr (.inl ⟨h2, h3, ?_⟩)
          cases two
          · rfl
          · obtain ⟨h4, h5⟩ := ht.1 rfl; exact absurd h5 h3
      · refine .inr (.inr ⟨h2, ?_⟩)
        cases two
        · rfl
        · obtain ⟨h4, h5⟩ := ht.1 rfl; exact absurd h4 h2
    clear ht
    generalize l[i].toNat = n at *
    have hn : n = 60 ∨ n = 62 ∨ n = 61 ∨ n = 47 ∨ n = 43 ∨ n = 45 ∨ n = 42 ∨ n = 40 ∨ n = 41 ∨ n = 44 ∨ (¬ (n = 60 ∨ n = 62 ∨ n = 61 ∨ n = 47) ∧ ¬ (n = 43 ∨ n = 45 ∨ n = 42 ∨ n = 40 ∨ n = 41 ∨ n = 44)) := by omega
    rcases hcase with ⟨h2, h3, rfl⟩ | ⟨h2, h3, rfl⟩ | ⟨h2, rfl⟩
    · have hs2 : i + 1 < (⟨l.toArray⟩ : ByteArray).size := h2
      have hb2 : (((⟨l.toArray⟩ : ByteArray)[i + 1]'hs2).toNat : Int) = 61 := by
        show (l[i + 1].toNat : Int) = 61
        rw [h3]; rfl
      have q1 : decide (i + 1 < l.length) = true := decide_eq_true h2
      have q2 : (i : Int) + 1 < l.length := by omega
      clear h3
      rcases hn with rfl | rfl | rfl | rfl | rfl | rfl | rfl | rfl | rfl | rfl | ⟨hn1, hn2⟩
      all_goals try (
        go_enter Tryz.func46, Tryz.ntmps46
        go_wp2
        go_ret
        exact ⟨rfl, rfl⟩)
      all_goals (
        rw [if_neg hn1, if_neg hn2]
        have k1 : ((n : Int) == 60) = false := by rw [beq_eq_false_iff_ne]; omega
        have k2 : ((n : Int) == 62) = false := by rw [beq_eq_false_iff_ne]; omega
        have k3 : ((n : Int) == 61) = false := by rw [beq_eq_false_iff_ne]; omega
        have k4 : ((n : Int) == 47) = false := by rw [beq_eq_false_iff_ne]; omega
        have k5 : ((n : Int) == 43) = false := by rw [beq_eq_false_iff_ne]; omega
        have k6 : ((n : Int) == 45) = false := by rw [beq_eq_false_iff_ne]; omega
        have k7 : ((n : Int) == 42) = false := by rw [beq_eq_false_iff_ne]; omega
        have k8 : ((n : Int) == 40) = false := by rw [beq_eq_false_iff_ne]; omega
        have k9 : ((n : Int) == 41) = false := by rw [beq_eq_false_iff_ne]; omega
        have k0 : ((n : Int) == 44) = false := by rw [beq_eq_false_iff_ne]; omega
        clear hn1 hn2
        go_enter Tryz.func46, Tryz.ntmps46
        go_wp2
        go_ret
        exact ⟨rfl, rfl⟩)
    · have hs2 : i + 1 < (⟨l.toArray⟩ : ByteArray).size := h2
      have hb2 : ((((⟨l.toArray⟩ : ByteArray)[i + 1]'hs2).toNat : Int) == 61) = false := by
        show ((l[i + 1].toNat : Int) == 61) = false
        rw [beq_eq_false_iff_ne]
        omega
      have q1 : decide (i + 1 < l.length) = true := decide_eq_true h2
      have q2 : (i : Int) + 1 < l.length := by omega
      clear h3
      rcases hn with rfl | rfl | rfl | rfl | rfl | rfl | rfl | rfl | rfl | rfl | ⟨hn1, hn2⟩
      all_goals try (
        go_enter Tryz.func46, Tryz.ntmps46
        go_wp2
        go_ret
        exact ⟨rfl, rfl⟩)
      all_goals (
        rw [if_neg hn1, if_neg hn2]
        have k1 : ((n : Int) == 60) = false := by rw [beq_eq_false_iff_ne]; omega
        have k2 : ((n : Int) == 62) = false := by rw [beq_eq_false_iff_ne]; omega
        have k3 : ((n : Int) == 61) = false := by rw [beq_eq_false_iff_ne]; omega
        have k4 : ((n : Int) == 47) = false := by rw [beq_eq_false_iff_ne]; omega
        have k5 : ((n : Int) == 43) = false := by rw [beq_eq_false_iff_ne]; omega
        have k6 : ((n : Int) == 45) = false := by rw [beq_eq_false_iff_ne]; omega
        have k7 : ((n : Int) == 42) = false := by rw [beq_eq_false_iff_ne]; omega
        have k8 : ((n : Int) == 40) = false := by rw [beq_eq_false_iff_ne]; omega
        have k9 : ((n : Int) == 41) = false := by rw [beq_eq_false_iff_ne]; omega
        have k0 : ((n : Int) == 44) = false := by rw [beq_eq_false_iff_ne]; omega
        clear hn1 hn2
        go_enter Tryz.func46, Tryz.ntmps46
        go_wp2
        go_ret
        exact ⟨rfl, rfl⟩)
    · have q1 : decide (i + 1 < l.length) = false := decide_eq_false h2
      rcases hn with rfl | rfl | rfl | rfl | rfl | rfl | rfl | rfl | rfl | rfl | ⟨hn1, hn2⟩
      all_goals try (
        go_enter Tryz.func46, Tryz.ntmps46
        go_wp2
        go_ret
        exact ⟨rfl, rfl⟩)
      all_goals (
        rw [if_neg hn1, if_neg hn2]
        have k1 : ((n : Int) == 60) = false := by rw [beq_eq_false_iff_ne]; omega
        have k2 : ((n : Int) == 62) = false := by rw [beq_eq_false_iff_ne]; omega
        have k3 : ((n : Int) == 61) = false := by rw [beq_eq_false_iff_ne]; omega
        have k4 : ((n : Int) == 47) = false := by rw [beq_eq_false_iff_ne]; omega
        have k5 : ((n : Int) == 43) = false := by rw [beq_eq_false_iff_ne]; omega
        have k6 : ((n : Int) == 45) = false := by rw [beq_eq_false_iff_ne]; omega
        have k7 : ((n : Int) == 42) = false := by rw [beq_eq_false_iff_ne]; omega
        have k8 : ((n : Int) == 40) = false := by rw [beq_eq_false_iff_ne]; omega
        have k9 : ((n : Int) == 41) = false := by rw [beq_eq_false_iff_ne]; omega
        have k0 : ((n : Int) == 44) = false := by rw [beq_eq_false_iff_ne]; omega
        clear hn1 hn2
        go_enter Tryz.func46, Tryz.ntmps46
        go_wp2
        go_ret
        exact ⟨rfl, rfl⟩)
  by_cases hx : ∃ h2 : i + 1 < l.length, l[i + 1].toNat = 61
  · rw [signLen_at l i h true ⟨fun _ => hx, fun _ => rfl⟩]
    exact core true ⟨fun _ => hx, fun _ => rfl⟩
  · rw [signLen_at l i h false ⟨fun h => (by cases h), fun h => absurd h hx⟩]
    exact core false ⟨fun h => (by cases h), fun h => absurd h hx⟩
end Go.Proofs.YtdpjipphbhomkaaGreatDoor.Line

namespace Go.Proofs.YtdpjipphbhomkaaGreatDoor.Line
open Go.ChangeShapes Go.WideShapes Go.ChangeAt Go.RowKit
set_option linter.unusedVariables false

theorem num_snoc (l : List UInt8) (c : UInt8) : Words.num (l ++ [c]) = 10 * Words.num l + (c.toNat - 48) := by
  unfold Words.num
  rw [List.foldl_append]
  rfl
theorem num_take (l : List UInt8) (i : Nat) (h : i < l.length) : Words.num (l.take (i + 1)) = 10 * Words.num (l.take i) + (l[i].toNat - 48) := by
  rw [List.take_succ_eq_append_getElem h, num_snoc]
theorem num_le (l : List UInt8) : ∀ i, Words.num (l.take i) ≤ Words.num l := by
  have key : ∀ (m : List UInt8) (a : Nat), a ≤ m.foldl (fun n c => 10 * n + (c.toNat - 48)) a := by
    intro m
    induction m with
    | nil => intro a; exact Nat.le_refl _
    | cons c m ih => intro a; exact Nat.le_trans (by omega) (ih (10 * a + (c.toNat - 48)))
  intro i
  conv => rhs; rw [← List.take_append_drop i l]
  unfold Words.num
  rw [List.foldl_append]
  exact key _ _

set_option maxHeartbeats 2000000 in
set_option maxRecDepth 100000 in
theorem refNumber_any (l : List UInt8) (hd : ∀ i (h : i < l.length), Words.digitB l[i] = true) (hl : l.length ≤ 1000000) (w : World) : Calls Tryz.prog 45 #[.string ⟨l.toArray⟩] w fun e w' =>
    e = .returned (.tuple #[.int .i64 ((if Words.num l ≤ Words.big then Words.num l else 0 : Nat) : Int), .bool (decide (Words.num l ≤ Words.big))]) ∧ w' = w := by
  have hsz : ((⟨l.toArray⟩ : ByteArray).size : Int) = l.length := rfl
  have HD := hide hd
  clear hd
  obtain ⟨ans, hans⟩ : ∃ a, Ending.returned (.tuple #[.int .i64 ((if Words.num l ≤ Words.big then Words.num l else 0 : Nat) : Int), .bool (decide (Words.num l ≤ Words.big))]) = a := ⟨_, rfl⟩
  rw [hans]
  have HANS := hide hans
  clear hans
  go_enter Tryz.func45, Tryz.ntmps45
  go_wp2
  go_loopw [4, 5] (fun x q wr => ∃ i : Nat, i ≤ l.length ∧ q = .int .i64 i ∧ x = .int .u64 (Words.num (l.take i) : Int) ∧ wr = w ∧ Hid (Words.num (l.take i) ≤ Words.big)) (fun _ q _ => l.length - (intOf q).toNat)
  case atStart => exact ⟨0, Nat.zero_le _, rfl, rfl, rfl, hide (Nat.zero_le _)⟩
  case round =>
    obtain ⟨i, hi, rfl, rfl, rfl, HB⟩ := hrel
    by_cases hlt : i < l.length
    · have hs : i < (⟨l.toArray⟩ : ByteArray).size := hlt
      have hbv : (((⟨l.toArray⟩ : ByteArray)[i]'hs).toNat : Int) = (l[i].toNat : Int) := rfl
      have hlt2 : (i : Int) < l.length := by omega
      have hdg := unhide HD i hlt
      unfold Words.digitB at hdg
      simp only [Bool.and_eq_true, decide_eq_true_eq] at hdg
      have HNT := hide (num_take l i hlt)
      have HLE := hide (num_le l (i + 1))
      have hnb := unhide HB
      generalize hnn : l[i].toNat = n at *
      generalize Words.num (l.take i) = m at *
      obtain ⟨d, rfl⟩ : ∃ d, n = d + 48 := ⟨n - 48, by omega⟩
      have hd9 : d ≤ 9 := by omega
      unfold Words.big at hnb
      clear hdg
      have e1 : ((d + 48 : Nat) : Int) - 48 = d := by omega
      by_cases hov : 10 * m + d ≤ 9223372036854775807
      · have q1 : ¬ (9223372036854775807 - (d : Int)) / 10 < (m : Int) := by omega
        have q2 : decide ((9223372036854775807 - (d : Int)) / 10 < (m : Int)) = false := decide_eq_false q1
        go_wp2_with fail
        go_roundw
        case rel => exact ⟨i + 1, by omega, by go_num, by rw [unhide HNT, show d + 48 - 48 = d by omega]; simp, trivial, hide (by rw [unhide HNT]; unfold Words.big; omega)⟩
        case measure => simp [intOf]; omega
      · have q1 : (9223372036854775807 - (d : Int)) / 10 < (m : Int) := by omega
        have q2 : decide ((9223372036854775807 - (d : Int)) / 10 < (m : Int)) = true := decide_eq_true q1
        have HOV : Hid (¬ Words.num l ≤ Words.big) := hide (by have h1 := unhide HNT; have h2 := unhide HLE; unfold Words.big; omega)
        go_wp2
        refine bodyPost_ret (v := .tuple #[.int .i64 0, .bool false]) (by simp [results, Tryz.results45, go_sem]) rfl ⟨?_, rfl⟩
        rw [← unhide HANS, if_neg (unhide HOV), decide_eq_false (unhide HOV)]
        rfl
    · have hil : i = l.length := by omega
      have HQ : Hid (l.take i = l) := hide (by rw [hil, List.take_length])
      have hnb := unhide HB
      rw [unhide HQ] at hnb
      have HNB := hide hnb
      unfold Words.big at hnb
      rw [unhide HQ]
      generalize hm : Words.num l = m at *
      clear hil
      have HM := hide hm
      clear hm
      go_wp2
      refine bodyPost_ret (v := .tuple #[.int .i64 (m : Int), .bool true]) (by simp [results, Tryz.results45, go_sem]) rfl ⟨?_, rfl⟩
      rw [← unhide HANS, if_pos (unhide HNB), decide_eq_true (unhide HNB)]
end Go.Proofs.YtdpjipphbhomkaaGreatDoor.Line

namespace Go.Proofs.YtdpjipphbhomkaaGreatDoor.Line
open Go.ChangeShapes Go.WideShapes Go.ChangeAt Go.RowKit
set_option linter.unusedVariables false

theorem headIs_at (p : UInt8 → Bool) (l : List UInt8) (i : Nat) (h : i < l.length) : Words.headIs p (l.drop i) = p l[i] := by rw [List.drop_eq_getElem_cons h]; rfl
/-- where a run of such bytes ends -/
theorem run_spec (p : UInt8 → Bool) (l : List UInt8) (i : Nat) (h : i ≤ l.length) : ∃ e, i + ((l.drop i).takeWhile p).length = e ∧ e ≤ l.length ∧ (∀ j (hj : j < l.length), i ≤ j → j < e → p l[j] = true) ∧ (∀ he : e < l.length, p l[e] = false) ∧ (l.drop i).takeWhile p = (l.drop i).take (e - i) := by
  have h1 : ((l.drop i).takeWhile p).length ≤ (l.drop i).length := (List.takeWhile_prefix p).length_le
  have h2 : (l.drop i).takeWhile p = (l.drop i).take ((l.drop i).takeWhile p).length := List.prefix_iff_eq_take.1 (List.takeWhile_prefix p)
  refine ⟨_, rfl, by rw [List.length_drop] at h1; omega, fun j hj h3 h4 => ?_, fun he => ?_, by rw [Nat.add_sub_cancel_left]; exact h2⟩
  · have h5 : j - i < ((l.drop i).takeWhile p).length := by omega
    have h6 : ((l.drop i).takeWhile p)[j - i] = l[j] := by
      have h7 : ((l.drop i).takeWhile p)[j - i]? = l[j]? := by
        rw [h2, List.getElem?_take_of_lt h5, List.getElem?_drop]
        congr 1
        omega
      rw [List.getElem?_eq_getElem h5, List.getElem?_eq_getElem hj] at h7
      exact Option.some.inj h7
    rw [← h6]
    have := List.all_takeWhile (p := p) (l := l.drop i)
    exact List.all_eq_true.1 this _ (List.getElem_mem h5)
  · have h3 : (l.drop i).drop ((l.drop i).takeWhile p).length = (l.drop i).dropWhile p := by
      conv => lhs; rhs; rw [← List.takeWhile_append_dropWhile (p := p) (l := l.drop i)]
      rw [List.drop_left]
    rw [List.drop_drop] at h3
    rw [List.drop_eq_getElem_cons he] at h3
    have hne : (l.drop i).dropWhile p ≠ [] := by rw [← h3]; exact List.cons_ne_nil _ _
    have h4 := List.head_dropWhile_not p hne
    simp only [← h3, List.head_cons] at h4
    exact h4

theorem step_blankAt (l : List UInt8) (i : Nat) (h : i < l.length) (hb : Words.blankB l[i] = true) : Words.step (l.drop i) = .blank := by
  unfold Words.step
  rw [headIs_at _ l i h, if_pos hb]
theorem step_nameAt (l : List UInt8) (i e : Nat) (h : i < l.length) (hb : Words.blankB l[i] = false) (hl : Words.letterB l[i] = true) (he : i + ((l.drop i).takeWhile Words.behindB).length = e) (ht : (l.drop i).takeWhile Words.behindB = (l.drop i).take (e - i)) :
    Words.step (l.drop i) = if 31 < e - i then .bad 4 0 else .tok (if Words.isKey ((l.drop i).take (e - i)) then 4 else 1) 0 (e - i) := by
  unfold Words.step
  rw [headIs_at _ l i h, headIs_at _ l i h, if_neg (by rw [hb]; decide), if_pos hl]
  have : ((l.drop i).takeWhile Words.behindB).length = e - i := by omega
  rw [this, ht]
theorem step_numAt (l : List UInt8) (i e : Nat) (h : i < l.length) (hb : Words.blankB l[i] = false) (hl : Words.letterB l[i] = false) (hd : Words.digitB l[i] = true) (he : i + ((l.drop i).takeWhile Words.digitB).length = e) (ht : (l.drop i).takeWhile Words.digitB = (l.drop i).take (e - i)) :
    Words.step (l.drop i) = if Words.big < Words.num ((l.drop i).take (e - i)) then .bad 5 0 else if Words.headIs Words.letterB (l.drop e) then .bad 3 (e - i) else .tok 2 (Words.num ((l.drop i).take (e - i))) (e - i) := by
  unfold Words.step
  rw [headIs_at _ l i h, headIs_at _ l i h, headIs_at _ l i h, if_neg (by rw [hb]; decide), if_neg (by rw [hl]; decide), if_pos hd]
  have h1 : ((l.drop i).takeWhile Words.digitB).length = e - i := by omega
  rw [h1, ht, List.drop_drop, show i + (e - i) = e by omega]
theorem step_signAt (l : List UInt8) (i : Nat) (h : i < l.length) (hb : Words.blankB l[i] = false) (hl : Words.letterB l[i] = false) (hd : Words.digitB l[i] = false) :
    Words.step (l.drop i) = if Words.signLen (l.drop i) = 0 then .bad 3 0 else .tok 3 0 (Words.signLen (l.drop i)) := by
  unfold Words.step
  rw [headIs_at _ l i h, headIs_at _ l i h, headIs_at _ l i h, if_neg (by rw [hb]; decide), if_neg (by rw [hl]; decide), if_neg (by rw [hd]; decide)]
theorem blank_no (c : UInt8) (h : Words.blankB c = false) : ((c.toNat : Int) == 32) = false ∧ ((c.toNat : Int) == 9) = false := by
  unfold Words.blankB at h
  simp only [Bool.or_eq_false_iff, decide_eq_false_iff_not] at h
  simp only [beq_eq_false_iff_ne]
  omega

theorem ownT_fin {T : TypeId} {w w1 : World} {v u u' : Value} {l : List Words.T} (h : OwnT T (w.heap.size + 1) w1 v l) : OwnT T w.heap.size ((w1.setCell ⟨w.heap.size, 0, none⟩ u).setCell ⟨w.heap.size, 1, none⟩ u') v l := by
  have h2 : OwnT T (w.heap.size + 1) ((w1.setCell ⟨w.heap.size, 0, none⟩ u).setCell ⟨w.heap.size, 1, none⟩ u') v l := ownsRow_setCell_below (ownsRow_setCell_below h (by simp) u) (by simp) u'
  obtain ⟨h3, h4⟩ := h2
  refine ⟨h3, ?_⟩
  rcases h4 with h4 | ⟨g, cap, cur, hv, hg, r⟩
  · exact .inl h4
  · exact .inr ⟨g, cap, cur, hv, by omega, r⟩

set_option maxHeartbeats 16000000 in
set_option maxRecDepth 100000 in
theorem refToks_any (l : List UInt8) (hl : l.length ≤ 100000) (w : World) : Calls Tryz.prog 16 #[.string ⟨l.toArray⟩] w fun e w' =>
    ∃ u g, e = .returned (.tuple #[u, g]) ∧ OwnT 87 w.heap.size w' u (Words.toks l).1 ∧ Told w.heap.size w' g wWord (Words.toks l).2.2 (Words.toks l).2.1 ∧ Below w.heap.size w w' := by
  have hsz : ((⟨l.toArray⟩ : ByteArray).size : Int) = l.length := rfl
  obtain ⟨R, hR⟩ : ∃ R, Words.toks l = R := ⟨_, rfl⟩
  rw [hR]
  have HR := hide hR
  clear hR
  go_enter Tryz.func16, Tryz.ntmps16
  go_wp2
  obtain ⟨c0, c1, f0, f1, hs, hB2⟩ := res_cells (w := w) (Below.refl _ _)
  generalize w.alloc (.cells #[.slice none 0 0, .int .i64 0] 45) = W at *
  have HB2 := hide hB2
  have HC := hide (And.intro c0 (And.intro c1 (And.intro f0 f1)))
  clear hB2 c0 c1 f0 f1
  go_loopw [4, 5] (fun x q wr => ∃ (i : Nat) (done : List Words.T), i ≤ l.length ∧ q = .int .i64 i ∧ done.length ≤ i ∧ Hid (Words.also done (Words.scanAt l i) = R) ∧ Hid (OwnT 87 (w.heap.size + 1) wr x done) ∧ Hid (Below (w.heap.size + 1) W wr)) (fun _ q _ => l.length - (intOf q).toNat)
  case atStart => exact ⟨0, [], Nat.zero_le _, rfl, Nat.zero_le _, hide (by rw [Words.also_nil _ (Words.scanAt_form l 0).1 (Words.scanAt_form l 0).2]; exact unhide HR), hide (OwnT.nil _ _ _), hide (Below.refl _ _)⟩
  case round =>
    obtain ⟨i, done, hi, rfl, hdl, HEQ, HOWN, HBW⟩ := hrel
    by_cases hlt : i < l.length
    · have hs1 : i < (⟨l.toArray⟩ : ByteArray).size := hlt
      have hbv : (((⟨l.toArray⟩ : ByteArray)[i]'hs1).toNat : Int) = (l[i].toNat : Int) := rfl
      have hlt2 : (i : Int) < l.length := by omega
      have HSB := hide (step_blankAt l i hlt)
      have HSN := hide (fun e => step_nameAt l i e hlt)
      have HSD := hide (fun e => step_numAt l i e hlt)
      have HSS := hide (step_signAt l i hlt)
      generalize l[i] = c at *
      have HL := hide (fun W => letter_any c W)
      have HDG := hide (fun W => digit_any c W)
      by_cases hb : Words.blankB c = true
      · have HQ : Hid (Words.also done (Words.scanAt l (i + 1)) = R) := hide (by rw [← unhide HEQ, Words.scanAt_blank hlt (unhide HSB hb)])
        have hcc : c.toNat = 32 ∨ (((c.toNat : Int) == 32) = false ∧ c.toNat = 9) := by
          unfold Words.blankB at hb
          simp only [Bool.or_eq_true, decide_eq_true_eq] at hb
          simp only [beq_eq_false_iff_ne]
          omega
        clear hb
        generalize c.toNat = cn at *
        rcases hcc with rfl | ⟨k1, rfl⟩
        · go_wp2
          go_roundw
          case rel => exact ⟨i + 1, done, by omega, by go_num, by omega, HQ, HOWN, HBW⟩
          case measure => simp [intOf]; omega
        · go_wp2
          go_roundw
          case rel => exact ⟨i + 1, done, by omega, by go_num, by omega, HQ, HOWN, HBW⟩
          case measure => simp [intOf]; omega
      replace hb : Words.blankB c = false := by simpa using hb
      obtain ⟨k32, k9⟩ := blank_no c hb
      by_cases hlet : Words.letterB c = true
      · rw [hlet] at HL
        obtain ⟨e, he1, he2, he3, he4, he5⟩ := run_spec Words.behindB l i hi
        have HST := hide (unhide HSN e hb hlet he1 he5)
        have HE3 := hide he3
        have HE4 := hide he4
        have hie : i ≤ e := by omega
        clear hb he1 he3 he4 he5 HSB HSN HSD HSS HDG hlet
        generalize c.toNat = cn at *
        go_upto_block 3 with (go_at_call 41; refine (unhide HL _).mono ?_; rintro ev w1 ⟨rfl, hw⟩; have hw := hw.symm; subst hw)
        go_cut [5] from 11 to 136 (fun x wx => x = .int .i64 e ∧ wx = wr)
        case first =>
          go_wp2_with fail
          go_loopw [5] (fun x wx => ∃ j : Nat, i ≤ j ∧ j ≤ e ∧ x = .int .i64 j ∧ wx = wr) (fun x _ => e - (intOf x).toNat)
          case atStart => exact ⟨i, Nat.le_refl _, hie, rfl, rfl⟩
          case round =>
            obtain ⟨j, hij, hje, rfl, rfl⟩ := hrel
            by_cases hj : j < e
            · have hjl : j < l.length := by omega
              have q1 : decide (j < l.length) = true := decide_eq_true hjl
              have hs2 : j < (⟨l.toArray⟩ : ByteArray).size := hjl
              have hbv2 : (((⟨l.toArray⟩ : ByteArray)[j]'hs2).toNat : Int) = (l[j].toNat : Int) := rfl
              have hj2 : (j : Int) < l.length := by omega
              have HBH := hide (fun W => behind_any l[j] W)
              rw [unhide HE3 j hjl hij hj] at HBH
              generalize l[j].toNat = m at *
              go_wp2_with (go_at_call 42; refine (unhide HBH _).mono ?_; rintro ev w1 ⟨rfl, hw⟩; have hw := hw.symm; subst hw)
              go_roundw
              case rel => exact ⟨j + 1, by omega, by omega, by go_num, trivial⟩
              case measure => simp [intOf]; omega
            · obtain rfl : j = e := by omega
              by_cases hjl : j < l.length
              · have q1 : decide (j < l.length) = true := decide_eq_true hjl
                have hs2 : j < (⟨l.toArray⟩ : ByteArray).size := hjl
                have hbv2 : (((⟨l.toArray⟩ : ByteArray)[j]'hs2).toNat : Int) = (l[j].toNat : Int) := rfl
                have hj2 : (j : Int) < l.length := by omega
                have HBH := hide (fun W => behind_any l[j] W)
                rw [unhide HE4 hjl] at HBH
                generalize l[j].toNat = m at *
                go_wp2_with (go_at_call 42; refine (unhide HBH _).mono ?_; rintro ev w1 ⟨rfl, hw⟩; have hw := hw.symm; subst hw)
                go_meet
                case rel => exact ⟨rfl, rfl⟩
              · have q1 : decide (j < l.length) = false := decide_eq_false hjl
                go_wp2_with fail
                go_meet
                case rel => exact ⟨rfl, rfl⟩
        case rest =>
          obtain ⟨rfl, hwc⟩ := hcut
          have hwc := hwc.symm
          subst hwc
          have hel : (e : Int) ≤ l.length := by omega
          have hie2 : (i : Int) ≤ e := by omega
          go_wp2_with fail
          rw [ext]
          obtain ⟨X, hX⟩ : ∃ X, (l.drop i).take (e - i) = X := ⟨_, rfl⟩
          rw [hX] at HST ⊢
          have HX := hide hX
          have hXe : (⟨l.toArray⟩ : ByteArray).extract i e = ⟨X.toArray⟩ := by rw [ext, hX]
          clear hX
          refine (refIsKey_any X _).mono ?_
          rintro ev w5 ⟨rfl, hb5⟩
          have HB5 : Hid (Below (w.heap.size + 1) W w5) := hide ((unhide HBW).trans (hb5.mono (Nat.le_trans hs (unhide HBW).size)))
          have HOWN5 := hide ((unhide HOWN).below hb5)
          clear hb5
          generalize Words.isKey X = ky at *
          by_cases h31 : 31 < e - i
          · have HRR : Hid (R = ([], 4, i)) := hide (by
              have h1 := unhide HST
              rw [if_pos h31] at h1
              rw [← unhide HEQ, Words.scanAt_bad hlt h1]
              rfl)
            have q31 : (31 : Int) < (e : Int) - i := by omega
            have q32 : decide ((31 : Int) < (e : Int) - i) = true := decide_eq_true q31
            cases ky
            all_goals (
              have HAT := hide (fun W => at_any wWord i 4 W)
              have HKK := hide (And.intro (((unhide HB5).cell (p := ⟨w.heap.size, 0, none⟩) (Nat.lt_succ_self _)).trans (unhide HC).1) (And.intro (((unhide HB5).cell (p := ⟨w.heap.size, 1, none⟩) (Nat.lt_succ_self _)).trans (unhide HC).2.1) (And.intro (((unhide HB5).frozen (p := ⟨w.heap.size, 0, none⟩) (Nat.lt_succ_self _)).trans (unhide HC).2.2.1) (((unhide HB5).frozen (p := ⟨w.heap.size, 1, none⟩) (Nat.lt_succ_self _)).trans (unhide HC).2.2.2))))
              have hs5 : w.heap.size < (w5).heap.size := Nat.lt_of_lt_of_le (Nat.lt_of_lt_of_le (Nat.lt_succ_self _) hs) (unhide HB5).size
              go_wp2_with (go_at_call 17; refine (unhide HAT _).mono ?_; rintro ev w8 ⟨b8, rfl, hb8, h0, h1, hB8⟩; have k0 := (hB8.cell (p := ⟨w.heap.size, 0, none⟩) hs5).trans (unhide HKK).1; have k1 := (hB8.cell (p := ⟨w.heap.size, 1, none⟩) hs5).trans (unhide HKK).2.1; have l0 := (hB8.frozen (p := ⟨w.heap.size, 0, none⟩) hs5).trans (unhide HKK).2.2.1; have l1 := (hB8.frozen (p := ⟨w.heap.size, 1, none⟩) hs5).trans (unhide HKK).2.2.2)
              rw [unhide HRR]
              have y8 : Below (w.heap.size + 1) W w8 := (unhide HB5).trans (hB8.mono hs5)
              exact bodyPost_ret (v := .tuple #[.slice none 0 0, .agg #[.slice (some ⟨b8, 0, none⟩) 1 1, .int .i64 4]]) (by simp [results, Tryz.results16, go_sem, k0, k1]) rfl ⟨_, _, rfl, OwnT.nil _ _ _, told_mk (err := 4) (by decide) (Nat.le_trans hs5 hb8) h0 h1, (((unhide HB2).trans (y8.mono (by omega))).setCell (Nat.le_refl _) _).setCell (Nat.le_refl _) _⟩)
          · have q31 : ¬ (31 : Int) < (e : Int) - i := by omega
            have q32 : decide ((31 : Int) < (e : Int) - i) = false := decide_eq_false q31
            have HST2 := unhide HST
            rw [if_neg h31] at HST2
            have hlen := (Words.step_len HST2).1
            have hie3 : i < e := by omega
            have HQ0 : Hid (Words.also (done ++ [⟨if ky then 4 else 1, X, i, 0⟩]) (Words.scanAt l e) = R) := hide (by
              rw [← unhide HEQ, Words.scanAt_tok hlt HST2, Words.also_also, unhide HX, show i + (e - i) = e by omega])
            clear HST2 hlen
            cases ky
            · have HQ : Hid (Words.also (done ++ [⟨1, X, i, 0⟩]) (Words.scanAt l e) = R) := HQ0
              have hown5 := (unhide HOWN5)
              obtain ⟨v9, w9, hr9, ho9, hg9⟩ := append_rtok hown5 ⟨1, X, i, 0⟩ (Nat.le_trans hs (unhide HB5).size) (by omega)
              have y9 : Below (w.heap.size + 1) W w9 := ((unhide HB5).alloc (Nat.le_trans hs (unhide HB5).size) _).grown hg9 (by have := (unhide HB5).size; simp; omega) (fun j hj => (World.ownsRow.lt hown5 j hj).1)
              have H9 := hide (And.intro ho9 y9)
              clear hown5 ho9 hg9 y9
              go_wp2_with (at_builtin; refine wpList_append_runT rfl _ _ rfl rfl _ _ rfl rfl v9 w9 hr9 ?_)
              go_roundw
              case rel => exact ⟨e, done ++ [⟨1, X, i, 0⟩], by omega, by first | rfl | go_num, by rw [List.length_append, List.length_singleton]; omega, HQ, hide (unhide H9).1, hide (unhide H9).2⟩
              case measure => simp [intOf]; omega
            · have HQ : Hid (Words.also (done ++ [⟨4, X, i, 0⟩]) (Words.scanAt l e) = R) := HQ0
              have hown5 := (unhide HOWN5)
              obtain ⟨v9, w9, hr9, ho9, hg9⟩ := append_rtok hown5 ⟨4, X, i, 0⟩ (Nat.le_trans hs (unhide HB5).size) (by omega)
              have y9 : Below (w.heap.size + 1) W w9 := ((unhide HB5).alloc (Nat.le_trans hs (unhide HB5).size) _).grown hg9 (by have := (unhide HB5).size; simp; omega) (fun j hj => (World.ownsRow.lt hown5 j hj).1)
              have H9 := hide (And.intro ho9 y9)
              clear hown5 ho9 hg9 y9
              go_wp2_with (at_builtin; refine wpList_append_runT rfl _ _ rfl rfl _ _ rfl rfl v9 w9 hr9 ?_)
              go_roundw
              case rel => exact ⟨e, done ++ [⟨4, X, i, 0⟩], by omega, by first | rfl | go_num, by rw [List.length_append, List.length_singleton]; omega, HQ, hide (unhide H9).1, hide (unhide H9).2⟩
              case measure => simp [intOf]; omega
      replace hlet : Words.letterB c = false := by simpa using hlet
      rw [hlet] at HL
      by_cases hdig : Words.digitB c = true
      · rw [hdig] at HDG
        obtain ⟨e, he1, he2, he3, he4, he5⟩ := run_spec Words.digitB l i hi
        have HST := hide (unhide HSD e hb hlet hdig he1 he5)
        have HXD : Hid (∀ k (h : k < ((l.drop i).take (e - i)).length), Words.digitB ((l.drop i).take (e - i))[k] = true) := hide (fun k h => by
          have h1 : k < e - i := by rw [List.length_take] at h; omega
          have h2 : i + k < l.length := by omega
          rw [List.getElem_take, List.getElem_drop]
          exact he3 (i + k) h2 (by omega) (by omega))
        have HE3 := hide he3
        have HE4 := hide he4
        have hie : i ≤ e := by omega
        clear hb he1 he3 he4 he5 HSB HSN HSD HSS hdig hlet
        generalize c.toNat = cn at *
        go_upto_block 5 with (first | (go_at_call 41; refine (unhide HL _).mono ?_; rintro ev w1 ⟨rfl, hw⟩; have hw := hw.symm; subst hw) | (go_at_call 44; refine (unhide HDG _).mono ?_; rintro ev w1 ⟨rfl, hw⟩; have hw := hw.symm; subst hw))
        go_cut [5] from 11 to 136 (fun x wx => x = .int .i64 e ∧ wx = wr)
        case first =>
          go_wp2_with fail
          go_loopw [5] (fun x wx => ∃ j : Nat, i ≤ j ∧ j ≤ e ∧ x = .int .i64 j ∧ wx = wr) (fun x _ => e - (intOf x).toNat)
          case atStart => exact ⟨i, Nat.le_refl _, hie, rfl, rfl⟩
          case round =>
            obtain ⟨j, hij, hje, rfl, rfl⟩ := hrel
            by_cases hj : j < e
            · have hjl : j < l.length := by omega
              have q1 : decide (j < l.length) = true := decide_eq_true hjl
              have hs2 : j < (⟨l.toArray⟩ : ByteArray).size := hjl
              have hbv2 : (((⟨l.toArray⟩ : ByteArray)[j]'hs2).toNat : Int) = (l[j].toNat : Int) := rfl
              have hj2 : (j : Int) < l.length := by omega
              have HBH := hide (fun W => digit_any l[j] W)
              rw [unhide HE3 j hjl hij hj] at HBH
              generalize l[j].toNat = m at *
              go_wp2_with (go_at_call 44; refine (unhide HBH _).mono ?_; rintro ev w1 ⟨rfl, hw⟩; have hw := hw.symm; subst hw)
              go_roundw
              case rel => exact ⟨j + 1, by omega, by omega, by go_num, trivial⟩
              case measure => simp [intOf]; omega
            · obtain rfl : j = e := by omega
              by_cases hjl : j < l.length
              · have q1 : decide (j < l.length) = true := decide_eq_true hjl
                have hs2 : j < (⟨l.toArray⟩ : ByteArray).size := hjl
                have hbv2 : (((⟨l.toArray⟩ : ByteArray)[j]'hs2).toNat : Int) = (l[j].toNat : Int) := rfl
                have hj2 : (j : Int) < l.length := by omega
                have HBH := hide (fun W => digit_any l[j] W)
                rw [unhide HE4 hjl] at HBH
                generalize l[j].toNat = m at *
                go_wp2_with (go_at_call 44; refine (unhide HBH _).mono ?_; rintro ev w1 ⟨rfl, hw⟩; have hw := hw.symm; subst hw)
                go_meet
                case rel => exact ⟨rfl, rfl⟩
              · have q1 : decide (j < l.length) = false := decide_eq_false hjl
                go_wp2_with fail
                go_meet
                case rel => exact ⟨rfl, rfl⟩
        case rest =>
          obtain ⟨rfl, hwc⟩ := hcut
          have hwc := hwc.symm
          subst hwc
          have hel : (e : Int) ≤ l.length := by omega
          have hie2 : (i : Int) ≤ e := by omega
          have HHE : Hid (∀ h : e < l.length, Words.headIs Words.letterB (l.drop e) = Words.letterB l[e]) := hide (fun h => headIs_at _ l e h)
          have HHN : Hid (¬ e < l.length → Words.headIs Words.letterB (l.drop e) = false) := hide (fun h => by rw [List.drop_of_length_le (by omega)]; rfl)
          go_wp2_with fail
          rw [ext]
          obtain ⟨X, hX⟩ : ∃ X, (l.drop i).take (e - i) = X := ⟨_, rfl⟩
          have hXl : X.length ≤ 1000000 := by rw [← hX, List.length_take, List.length_drop]; omega
          rw [hX] at HST HXD ⊢
          have HX := hide hX
          have hXe : (⟨l.toArray⟩ : ByteArray).extract i e = ⟨X.toArray⟩ := by rw [ext, hX]
          clear hX
          refine (refNumber_any X (unhide HXD) hXl _).mono ?_
          rintro ev w5 ⟨rfl, hw⟩
          have hw := hw.symm
          subst hw
          by_cases hov : Words.num X ≤ Words.big
          · rw [if_pos hov, decide_eq_true hov]
            have HST2 := unhide HST
            rw [if_neg (by omega)] at HST2
            have HST3 := hide HST2
            clear HST2
            generalize hnX : Words.num X = nX at *
            have HNX := hide hnX
            clear hnX
            by_cases hel2 : e < l.length
            · have q1 : decide (e < l.length) = true := decide_eq_true hel2
              have hs2 : e < (⟨l.toArray⟩ : ByteArray).size := hel2
              have hbv2 : (((⟨l.toArray⟩ : ByteArray)[e]'hs2).toNat : Int) = (l[e].toNat : Int) := rfl
              have hj2 : (e : Int) < l.length := by omega
              have HL2 := hide (fun W => letter_any l[e] W)
              have HHE2 := unhide HHE hel2
              by_cases hle : Words.letterB l[e] = true
              · rw [hle] at HL2
                have HRR : Hid (R = ([], 3, e)) := hide (by
                  have h1 := unhide HST3
                  rw [HHE2, hle, if_pos rfl] at h1
                  rw [← unhide HEQ, Words.scanAt_bad hlt h1, show i + (e - i) = e by omega]
                  rfl)
                clear hle HHE2
                generalize l[e].toNat = m at *
                have HAT := hide (fun W => at_any wWord e 3 W)
                have HKK := hide (And.intro (((unhide HBW).cell (p := ⟨w.heap.size, 0, none⟩) (Nat.lt_succ_self _)).trans (unhide HC).1) (And.intro (((unhide HBW).cell (p := ⟨w.heap.size, 1, none⟩) (Nat.lt_succ_self _)).trans (unhide HC).2.1) (And.intro (((unhide HBW).frozen (p := ⟨w.heap.size, 0, none⟩) (Nat.lt_succ_self _)).trans (unhide HC).2.2.1) (((unhide HBW).frozen (p := ⟨w.heap.size, 1, none⟩) (Nat.lt_succ_self _)).trans (unhide HC).2.2.2))))
                have hs5 : w.heap.size < (wr).heap.size := Nat.lt_of_lt_of_le (Nat.lt_of_lt_of_le (Nat.lt_succ_self _) hs) (unhide HBW).size
                go_wp2_with (first | (go_at_call 17; refine (unhide HAT _).mono ?_; rintro ev w8 ⟨b8, rfl, hb8, h0, h1, hB8⟩; have k0 := (hB8.cell (p := ⟨w.heap.size, 0, none⟩) hs5).trans (unhide HKK).1; have k1 := (hB8.cell (p := ⟨w.heap.size, 1, none⟩) hs5).trans (unhide HKK).2.1; have l0 := (hB8.frozen (p := ⟨w.heap.size, 0, none⟩) hs5).trans (unhide HKK).2.2.1; have l1 := (hB8.frozen (p := ⟨w.heap.size, 1, none⟩) hs5).trans (unhide HKK).2.2.2) | (go_at_call 41; refine (unhide HL2 _).mono ?_; rintro ev w1 ⟨rfl, hw⟩; have hw := hw.symm; subst hw))
                rw [unhide HRR]
                have y8 : Below (w.heap.size + 1) W w8 := (unhide HBW).trans (hB8.mono hs5)
                exact bodyPost_ret (v := .tuple #[.slice none 0 0, .agg #[.slice (some ⟨b8, 0, none⟩) 1 1, .int .i64 3]]) (by simp [results, Tryz.results16, go_sem, k0, k1]) rfl ⟨_, _, rfl, OwnT.nil _ _ _, told_mk (err := 3) (by decide) (Nat.le_trans hs5 hb8) h0 h1, (((unhide HB2).trans (y8.mono (by omega))).setCell (Nat.le_refl _) _).setCell (Nat.le_refl _) _⟩
              · replace hle : Words.letterB l[e] = false := by simpa using hle
                rw [hle] at HL2
                have h1 := unhide HST3
                rw [HHE2, hle, if_neg (by decide)] at h1
                have hlen := (Words.step_len h1).1
                have hie3 : i < e := by omega
                have HQ : Hid (Words.also (done ++ [⟨2, X, i, nX⟩]) (Words.scanAt l e) = R) := hide (by
                  rw [← unhide HEQ, Words.scanAt_tok hlt h1, Words.also_also, unhide HX, show i + (e - i) = e by omega])
                clear h1 hlen hle HHE2
                generalize l[e].toNat = m at *
                have hown5 := (unhide HOWN)
                obtain ⟨v9, w9, hr9, ho9, hg9⟩ := append_rtok hown5 ⟨2, X, i, nX⟩ (Nat.le_trans hs (unhide HBW).size) (by omega)
                have y9 : Below (w.heap.size + 1) W w9 := ((unhide HBW).alloc (Nat.le_trans hs (unhide HBW).size) _).grown hg9 (by have := (unhide HBW).size; simp; omega) (fun j hj => (World.ownsRow.lt hown5 j hj).1)
                have H9 := hide (And.intro ho9 y9)
                clear hown5 ho9 hg9 y9
                go_wp2_with (first | (at_builtin; refine wpList_append_runT rfl _ _ rfl rfl _ _ rfl rfl v9 w9 hr9 ?_) | (go_at_call 41; refine (unhide HL2 _).mono ?_; rintro ev w1 ⟨rfl, hw⟩; have hw := hw.symm; subst hw))
                go_roundw
                case rel => exact ⟨e, done ++ [⟨2, X, i, nX⟩], by omega, by first | rfl | go_num, by rw [List.length_append, List.length_singleton]; omega, HQ, hide (unhide H9).1, hide (unhide H9).2⟩
                case measure => simp [intOf]; omega
            · have q1 : decide (e < l.length) = false := decide_eq_false hel2
              have h1 := unhide HST3
              rw [unhide HHN hel2, if_neg (by decide)] at h1
              have hlen := (Words.step_len h1).1
              have hie3 : i < e := by omega
              have HQ : Hid (Words.also (done ++ [⟨2, X, i, nX⟩]) (Words.scanAt l e) = R) := hide (by
                rw [← unhide HEQ, Words.scanAt_tok hlt h1, Words.also_also, unhide HX, show i + (e - i) = e by omega])
              clear h1 hlen
              have hown5 := (unhide HOWN)
              obtain ⟨v9, w9, hr9, ho9, hg9⟩ := append_rtok hown5 ⟨2, X, i, nX⟩ (Nat.le_trans hs (unhide HBW).size) (by omega)
              have y9 : Below (w.heap.size + 1) W w9 := ((unhide HBW).alloc (Nat.le_trans hs (unhide HBW).size) _).grown hg9 (by have := (unhide HBW).size; simp; omega) (fun j hj => (World.ownsRow.lt hown5 j hj).1)
              have H9 := hide (And.intro ho9 y9)
              clear hown5 ho9 hg9 y9
              go_wp2_with (first | (at_builtin; refine wpList_append_runT rfl _ _ rfl rfl _ _ rfl rfl v9 w9 hr9 ?_))
              go_roundw
              case rel => exact ⟨e, done ++ [⟨2, X, i, nX⟩], by omega, by first | rfl | go_num, by rw [List.length_append, List.length_singleton]; omega, HQ, hide (unhide H9).1, hide (unhide H9).2⟩
              case measure => simp [intOf]; omega
          · rw [if_neg hov, decide_eq_false hov]
            have HRR : Hid (R = ([], 5, i)) := hide (by
              have h1 := unhide HST
              rw [if_pos (by omega)] at h1
              rw [← unhide HEQ, Words.scanAt_bad hlt h1]
              rfl)
            clear hov
            have HAT := hide (fun W => at_any wWord i 5 W)
            have HKK := hide (And.intro (((unhide HBW).cell (p := ⟨w.heap.size, 0, none⟩) (Nat.lt_succ_self _)).trans (unhide HC).1) (And.intro (((unhide HBW).cell (p := ⟨w.heap.size, 1, none⟩) (Nat.lt_succ_self _)).trans (unhide HC).2.1) (And.intro (((unhide HBW).frozen (p := ⟨w.heap.size, 0, none⟩) (Nat.lt_succ_self _)).trans (unhide HC).2.2.1) (((unhide HBW).frozen (p := ⟨w.heap.size, 1, none⟩) (Nat.lt_succ_self _)).trans (unhide HC).2.2.2))))
            have hs5 : w.heap.size < (wr).heap.size := Nat.lt_of_lt_of_le (Nat.lt_of_lt_of_le (Nat.lt_succ_self _) hs) (unhide HBW).size
            go_wp2_with ((go_at_call 17; refine (unhide HAT _).mono ?_; rintro ev w8 ⟨b8, rfl, hb8, h0, h1, hB8⟩; have k0 := (hB8.cell (p := ⟨w.heap.size, 0, none⟩) hs5).trans (unhide HKK).1; have k1 := (hB8.cell (p := ⟨w.heap.size, 1, none⟩) hs5).trans (unhide HKK).2.1; have l0 := (hB8.frozen (p := ⟨w.heap.size, 0, none⟩) hs5).trans (unhide HKK).2.2.1; have l1 := (hB8.frozen (p := ⟨w.heap.size, 1, none⟩) hs5).trans (unhide HKK).2.2.2))
            rw [unhide HRR]
            have y8 : Below (w.heap.size + 1) W w8 := (unhide HBW).trans (hB8.mono hs5)
            exact bodyPost_ret (v := .tuple #[.slice none 0 0, .agg #[.slice (some ⟨b8, 0, none⟩) 1 1, .int .i64 5]]) (by simp [results, Tryz.results16, go_sem, k0, k1]) rfl ⟨_, _, rfl, OwnT.nil _ _ _, told_mk (err := 5) (by decide) (Nat.le_trans hs5 hb8) h0 h1, (((unhide HB2).trans (y8.mono (by omega))).setCell (Nat.le_refl _) _).setCell (Nat.le_refl _) _⟩
      replace hdig : Words.digitB c = false := by simpa using hdig
      rw [hdig] at HDG
      have HST := hide (unhide HSS hb hlet hdig)
      have HSG := hide (fun W => refSign_any l i hlt (by omega) W)
      have HKL : Hid (Words.signLen (l.drop i) ≤ 2) := hide (by
        cases l.drop i with
        | nil => simp [Words.signLen]
        | cons a b => simp only [Words.signLen]; split <;> (try split) <;> omega)
      clear hb hlet hdig HSB HSN HSD HSS
      generalize Words.signLen (l.drop i) = k at *
      generalize c.toNat = cn at *
      by_cases hk0 : k = 0
      · subst hk0
        have HRR : Hid (R = ([], 3, i)) := hide (by
          have h1 := unhide HST
          rw [if_pos rfl] at h1
          rw [← unhide HEQ, Words.scanAt_bad hlt h1]
          rfl)
        have HAT := hide (fun W => at_any wWord i 3 W)
        have HKK := hide (And.intro (((unhide HBW).cell (p := ⟨w.heap.size, 0, none⟩) (Nat.lt_succ_self _)).trans (unhide HC).1) (And.intro (((unhide HBW).cell (p := ⟨w.heap.size, 1, none⟩) (Nat.lt_succ_self _)).trans (unhide HC).2.1) (And.intro (((unhide HBW).frozen (p := ⟨w.heap.size, 0, none⟩) (Nat.lt_succ_self _)).trans (unhide HC).2.2.1) (((unhide HBW).frozen (p := ⟨w.heap.size, 1, none⟩) (Nat.lt_succ_self _)).trans (unhide HC).2.2.2))))
        have hs5 : w.heap.size < (wr).heap.size := Nat.lt_of_lt_of_le (Nat.lt_of_lt_of_le (Nat.lt_succ_self _) hs) (unhide HBW).size
        go_wp2_with (first | (go_at_call 41; refine (unhide HL _).mono ?_; rintro ev w1 ⟨rfl, hw⟩; have hw := hw.symm; subst hw) | (go_at_call 44; refine (unhide HDG _).mono ?_; rintro ev w1 ⟨rfl, hw⟩; have hw := hw.symm; subst hw) | (go_at_call 46; refine (unhide HSG _).mono ?_; rintro ev w1 ⟨rfl, hw⟩; have hw := hw.symm; subst hw) | (go_at_call 17; refine (unhide HAT _).mono ?_; rintro ev w8 ⟨b8, rfl, hb8, h0, h1, hB8⟩; have k0 := (hB8.cell (p := ⟨w.heap.size, 0, none⟩) hs5).trans (unhide HKK).1; have k1 := (hB8.cell (p := ⟨w.heap.size, 1, none⟩) hs5).trans (unhide HKK).2.1; have l0 := (hB8.frozen (p := ⟨w.heap.size, 0, none⟩) hs5).trans (unhide HKK).2.2.1; have l1 := (hB8.frozen (p := ⟨w.heap.size, 1, none⟩) hs5).trans (unhide HKK).2.2.2))
        rw [unhide HRR]
        have y8 : Below (w.heap.size + 1) W w8 := (unhide HBW).trans (hB8.mono hs5)
        exact bodyPost_ret (v := .tuple #[.slice none 0 0, .agg #[.slice (some ⟨b8, 0, none⟩) 1 1, .int .i64 3]]) (by simp [results, Tryz.results16, go_sem, k0, k1]) rfl ⟨_, _, rfl, OwnT.nil _ _ _, told_mk (err := 3) (by decide) (Nat.le_trans hs5 hb8) h0 h1, (((unhide HB2).trans (y8.mono (by omega))).setCell (Nat.le_refl _) _).setCell (Nat.le_refl _) _⟩
      · have h1 := unhide HST
        rw [if_neg hk0] at h1
        have hlen := (Words.step_len h1).2
        rw [List.length_drop] at hlen
        have hk2 := unhide HKL
        obtain ⟨X, hX⟩ : ∃ X, (l.drop i).take k = X := ⟨_, rfl⟩
        obtain ⟨e, he⟩ : ∃ e, i + k = e := ⟨_, rfl⟩
        have hXe : (⟨l.toArray⟩ : ByteArray).extract i e = ⟨X.toArray⟩ := by rw [ext, ← he, Nat.add_sub_cancel_left, hX]
        have HQ : Hid (Words.also (done ++ [⟨3, X, i, 0⟩]) (Words.scanAt l e) = R) := hide (by
          rw [← unhide HEQ, Words.scanAt_tok hlt h1, Words.also_also, hX, he])
        clear h1 hX
        have hk0' : ((k : Int) == 0) = false := by rw [beq_eq_false_iff_ne]; omega
        have hk0'' : ¬ (k : Int) = 0 := by omega
        have hee : (i : Int) + k = e := by omega
        have hel : (e : Int) ≤ l.length := by omega
        have hie2 : (i : Int) ≤ e := by omega
        have hown5 := (unhide HOWN)
        obtain ⟨v9, w9, hr9, ho9, hg9⟩ := append_rtok hown5 ⟨3, X, i, 0⟩ (Nat.le_trans hs (unhide HBW).size) (by omega)
        have y9 : Below (w.heap.size + 1) W w9 := ((unhide HBW).alloc (Nat.le_trans hs (unhide HBW).size) _).grown hg9 (by have := (unhide HBW).size; simp; omega) (fun j hj => (World.ownsRow.lt hown5 j hj).1)
        have H9 := hide (And.intro ho9 y9)
        clear hown5 ho9 hg9 y9
        go_wp2_with (first | (go_at_call 41; refine (unhide HL _).mono ?_; rintro ev w1 ⟨rfl, hw⟩; have hw := hw.symm; subst hw) | (go_at_call 44; refine (unhide HDG _).mono ?_; rintro ev w1 ⟨rfl, hw⟩; have hw := hw.symm; subst hw) | (go_at_call 46; refine (unhide HSG _).mono ?_; rintro ev w1 ⟨rfl, hw⟩; have hw := hw.symm; subst hw) | (at_builtin; refine wpList_append_runT rfl _ _ rfl rfl _ _ rfl rfl v9 w9 hr9 ?_))
        go_roundw
        case rel => exact ⟨e, done ++ [⟨3, X, i, 0⟩], by omega, by first | rfl | go_num, by rw [List.length_append, List.length_singleton]; omega, HQ, hide (unhide H9).1, hide (unhide H9).2⟩
        case measure => simp [intOf]; omega
    · have HRR : Hid (R = (done, 0, 0)) := hide (by rw [← unhide HEQ, Words.scanAt_end l i (by omega)]; unfold Words.also; simp)
      have k0 := ((unhide HBW).cell (p := ⟨w.heap.size, 0, none⟩) (Nat.lt_succ_self _)).trans (unhide HC).1
      have k1 := ((unhide HBW).cell (p := ⟨w.heap.size, 1, none⟩) (Nat.lt_succ_self _)).trans (unhide HC).2.1
      have l0 := ((unhide HBW).frozen (p := ⟨w.heap.size, 0, none⟩) (Nat.lt_succ_self _)).trans (unhide HC).2.2.1
      have l1 := ((unhide HBW).frozen (p := ⟨w.heap.size, 1, none⟩) (Nat.lt_succ_self _)).trans (unhide HC).2.2.2
      go_wp2
      rw [unhide HRR]
      exact bodyPost_ret (v := .tuple #[u4, .agg #[.slice none 0 0, .int .i64 0]]) (by simp [results, Tryz.results16, go_sem, k0, k1]) rfl ⟨_, _, rfl, ownT_fin (unhide HOWN), .inl ⟨rfl, rfl⟩, (((unhide HB2).trans ((unhide HBW).mono (by omega))).setCell (Nat.le_refl _) _).setCell (Nat.le_refl _) _⟩
end Go.Proofs.YtdpjipphbhomkaaGreatDoor.Line

namespace Go.Proofs.YtdpjipphbhomkaaGreatDoor.Plain
open Go

/-- the length of the first line, its end counted -/
def fl : List UInt8 → Nat
  | [] => 0
  | c :: r => if c = 10 then 1 else fl r + 1
/-- a text in lines, each with its end -/
def lines : List UInt8 → List (List UInt8)
  | [] => []
  | c :: r => if c = 10 then [c] :: lines r else match lines r with
    | [] => [[c]]
    | l :: ls => (c :: l) :: ls
/-- may the byte stand in a text? -/
def okB (c : UInt8) : Bool := (decide (32 ≤ c.toNat) && decide (c.toNat ≤ 126)) || (c.toNat == 9) || (c.toNat == 10)
/-- a line's error: 4: too long; 3: a byte that may not be; 0: none -/
def bad (l : List UInt8) : Nat := if 200 < l.length then 4 else if l.all okB then 0 else 3
def errOf : List (List UInt8) → Nat
  | [] => 0
  | l :: ls => if bad l = 0 then errOf ls else bad l
def atOf : List (List UInt8) → Nat
  | [] => 0
  | l :: ls => if bad l = 0 then atOf ls + 1 else 0
/-- a text's error, its place, its word, its lines -/
def errS (s : List UInt8) : Nat := if 65536 < s.length then 4 else errOf (lines s)
def atS (s : List UInt8) : Nat := if 65536 < s.length then 0 else if errOf (lines s) = 0 then 0 else atOf (lines s)
def wordS (s : List UInt8) : List UInt8 := if 65536 < s.length then [116, 101, 120, 116] else [108, 105, 110, 101]
def rowS (s : List UInt8) : List (List UInt8) := if errS s = 0 then lines s else []

theorem fl_le (l : List UInt8) : fl l ≤ l.length := by
  induction l with
  | nil => simp [fl]
  | cons c r ih => unfold fl; split <;> simp <;> omega
theorem fl_pos (l : List UInt8) (h : l ≠ []) : 0 < fl l := by
  cases l with
  | nil => exact absurd rfl h
  | cons c r => unfold fl; split <;> omega
theorem fl_idx (l : List UInt8) : (0 ≤ Lib.indexByte l 10 → (fl l : Int) = Lib.indexByte l 10 + 1) ∧ (¬ 0 ≤ Lib.indexByte l 10 → fl l = l.length) := by
  induction l with
  | nil => simp [fl, Lib.indexByte]
  | cons c r ih =>
    have hg := Lib.indexByte_ge r 10
    unfold fl Lib.indexByte
    by_cases hc : c = 10
    · simp [hc]
    · have hc' : (c == 10) = false := by simpa using hc
      simp only [hc', if_neg hc, Bool.false_eq_true, if_false]
      by_cases h : Lib.indexByte r 10 = -1
      · simp [h]; have := ih.2 (by omega); omega
      · have h' : (Lib.indexByte r 10 == -1) = false := by simpa using h
        simp only [h', Bool.false_eq_true, if_false, List.length_cons]
        have := ih.1 (by omega)
        constructor <;> intro _ <;> omega
theorem fl_at (l : List UInt8) (k : Nat) (hk : k < l.length) (h : l[k] = 10) (hno : ∀ j (hj : j < k), l[j]'(by omega) ≠ 10) : fl l = k + 1 := by
  induction l generalizing k with
  | nil => simp at hk
  | cons c r ih =>
    unfold fl
    cases k with
    | zero => simp at h; simp [h]
    | succ k =>
      have h0 : c ≠ 10 := hno 0 (by omega)
      rw [if_neg h0, ih k (by simpa using hk) (by simpa using h) (fun j hj => by simpa using hno (j + 1) (by omega))]
theorem fl_all (l : List UInt8) (hno : ∀ j (hj : j < l.length), l[j] ≠ 10) : fl l = l.length := by
  induction l with
  | nil => rfl
  | cons c r ih =>
    unfold fl
    have h0 : c ≠ 10 := hno 0 (by simp)
    rw [if_neg h0, ih (fun j hj => hno (j + 1) (by simpa using hj))]
    rfl
theorem lines_step (l : List UInt8) (h : l ≠ []) : lines l = l.take (fl l) :: lines (l.drop (fl l)) := by
  induction l with
  | nil => exact absurd rfl h
  | cons c r ih =>
    by_cases hc : c = 10
    · simp [lines, fl, hc]
    · have e1 : fl (c :: r) = fl r + 1 := by simp [fl, hc]
      rw [e1, List.take_succ_cons, List.drop_succ_cons]
      conv => lhs; unfold lines
      rw [if_neg hc]
      by_cases hr : r = []
      · subst hr; simp [lines, fl]
      · rw [ih hr]
theorem lines_nil : lines [] = [] := rfl
theorem lines_ne (l : List UInt8) (h : l ≠ []) : lines l ≠ [] := by rw [lines_step l h]; simp
theorem flatten_lines (l : List UInt8) : (lines l).flatten = l := by
  induction l with
  | nil => rfl
  | cons c r ih =>
    unfold lines
    by_cases hc : c = 10
    · simp [hc, ih]
    · rw [if_neg hc]
      cases hl : lines r with
      | nil => rw [hl] at ih; simp at ih; simp [← ih]
      | cons a b => rw [hl] at ih; simp at ih; simp [ih]
theorem lines_append (a b : List UInt8) (h : a = [] ∨ a.getLast? = some 10) : lines (a ++ b) = lines a ++ lines b := by
  induction a with
  | nil => rfl
  | cons c r ih =>
    rw [List.cons_append]
    conv => lhs; unfold lines
    conv => rhs; lhs; unfold lines
    by_cases hc : c = 10
    · rw [if_pos hc, if_pos hc]
      have : r = [] ∨ r.getLast? = some 10 := by
        rcases h with h | h
        · cases h
        · by_cases hr : r = []
          · exact .inl hr
          · right; rwa [List.getLast?_cons_of_ne_nil hr] at h
      rw [ih this]; rfl
    · rw [if_neg hc, if_neg hc]
      have hr : r ≠ [] := by
        intro hr; subst hr
        rcases h with h | h
        · cases h
        · simp at h; exact hc h
      have h2 : r.getLast? = some 10 := by
        rcases h with h | h
        · cases h
        · rwa [List.getLast?_cons_of_ne_nil hr] at h
      rw [ih (.inr h2)]
      have := lines_ne r hr
      cases hl : lines r with
      | nil => exact absurd hl this
      | cons x y => simp
theorem lines_length_le (l : List UInt8) : (lines l).length ≤ l.length := by
  induction l with
  | nil => simp [lines]
  | cons c r ih =>
    unfold lines
    split
    · simp; omega
    · split <;> simp_all <;> omega
theorem lines_mem_le (l : List UInt8) : ∀ x ∈ lines l, x.length ≤ l.length := by
  intro x hx
  have h := flatten_lines l
  have : x.length ≤ (lines l).flatten.length := by
    exact (List.sublist_flatten_of_mem hx).length_le
  rwa [h] at this

theorem bad_range (l : List UInt8) : bad l = 0 ∨ bad l = 3 ∨ bad l = 4 := by
  unfold bad
  split
  · exact .inr (.inr rfl)
  · split
    · exact .inl rfl
    · exact .inr (.inl rfl)
theorem bad_long (l : List UInt8) (h : 200 < l.length) : bad l = 4 := by simp [bad, h]
theorem bad_word (l : List UInt8) (h : ¬ 200 < l.length) (k : Nat) (hk : k < l.length) (hb : okB l[k] = false) : bad l = 3 := by
  unfold bad
  rw [if_neg h, if_neg]
  intro hall
  have := List.all_eq_true.1 hall _ (List.getElem_mem hk)
  rw [hb] at this; cases this
theorem bad_none (l : List UInt8) (h : ¬ 200 < l.length) (hb : ∀ k (hk : k < l.length), okB l[k] = true) : bad l = 0 := by
  unfold bad
  rw [if_neg h, if_pos]
  rw [List.all_eq_true]
  intro x hx
  obtain ⟨k, hk, rfl⟩ := List.getElem_of_mem hx
  exact hb k hk

theorem errOf_append (ds ls : List (List UInt8)) (h : ∀ d ∈ ds, bad d = 0) : errOf (ds ++ ls) = errOf ls := by
  induction ds with
  | nil => rfl
  | cons d ds ih => simp [errOf, h d (by simp), ih (fun x hx => h x (by simp [hx]))]
theorem atOf_append (ds ls : List (List UInt8)) (h : ∀ d ∈ ds, bad d = 0) : atOf (ds ++ ls) = ds.length + atOf ls := by
  induction ds with
  | nil => simp
  | cons d ds ih => simp [atOf, h d (by simp), ih (fun x hx => h x (by simp [hx]))]; omega
theorem errOf_hit (d : List UInt8) (ls : List (List UInt8)) (h : bad d ≠ 0) : errOf (d :: ls) = bad d ∧ atOf (d :: ls) = 0 := by simp [errOf, atOf, h]
theorem errOf_zero (ds : List (List UInt8)) : errOf ds = 0 ↔ ∀ d ∈ ds, bad d = 0 := by
  induction ds with
  | nil => simp [errOf]
  | cons d ds ih =>
    by_cases hd : bad d = 0
    · simp [errOf, hd, ih]
    · simp [errOf, hd]
theorem errOf_range (ls : List (List UInt8)) : errOf ls = 0 ∨ errOf ls = 3 ∨ errOf ls = 4 := by
  induction ls with
  | nil => simp [errOf]
  | cons d ds ih => unfold errOf; split; exact ih; exact bad_range d
theorem err_at (ls : List (List UInt8)) (i : Nat) (hi : i < ls.length) (hno : ∀ j (hj : j < i), bad (ls[j]'(by omega)) = 0) (hb : bad ls[i] ≠ 0) : errOf ls = bad ls[i] ∧ atOf ls = i := by
  have e : ls = ls.take i ++ (ls[i] :: ls.drop (i + 1)) := by rw [List.getElem_cons_drop]; simp
  have h : ∀ d ∈ ls.take i, bad d = 0 := by
    intro d hd
    obtain ⟨j, hj, rfl⟩ := List.getElem_of_mem hd
    rw [List.getElem_take]
    exact hno j (by simp at hj; omega)
  have h2 := errOf_hit ls[i] (ls.drop (i + 1)) hb
  have h3 : errOf ls = errOf (ls.take i ++ (ls[i] :: ls.drop (i + 1))) := congrArg errOf e
  have h4 : atOf ls = atOf (ls.take i ++ (ls[i] :: ls.drop (i + 1))) := congrArg atOf e
  rw [h3, h4, errOf_append _ _ h, atOf_append _ _ h, h2.1, h2.2]
  simp
  omega
theorem errS_range (s : List UInt8) : errS s = 0 ∨ errS s = 3 ∨ errS s = 4 := by unfold errS; split; simp; exact errOf_range _
theorem errS_long (s : List UInt8) (h : 65536 < s.length) : errS s = 4 ∧ atS s = 0 ∧ wordS s = [116, 101, 120, 116] ∧ rowS s = [] := by simp [errS, atS, wordS, rowS, h]
theorem errS_ok (s : List UInt8) (h : ¬ 65536 < s.length) (h2 : ∀ d ∈ lines s, bad d = 0) : errS s = 0 ∧ rowS s = lines s := by
  have := (errOf_zero (lines s)).2 h2
  simp [errS, rowS, h, this]
theorem errS_bad (s : List UInt8) (h : ¬ 65536 < s.length) (k e : Nat) (h1 : errOf (lines s) = e) (h2 : atOf (lines s) = k) (h0 : e ≠ 0) : errS s = e ∧ atS s = k ∧ wordS s = [108, 105, 110, 101] ∧ rowS s = [] := by
  simp [errS, atS, wordS, rowS, h, h1, h2, h0]
theorem rowS_le (s : List UInt8) : (rowS s).length ≤ s.length := by
  unfold rowS; split; exact lines_length_le s; simp

/-! ### parts -/
def core (s : List UInt8) : List UInt8 := if s.getLast? = some 10 then s.dropLast else s
def endOf (s : List UInt8) : List UInt8 := if s.getLast? = some 10 then [10] else []
def bodyOf (s : List UInt8) : List UInt8 := (core s).takeWhile (fun c => decide (c ≠ 33))
def noteOf (s : List UInt8) : List UInt8 := (core s).dropWhile (fun c => decide (c ≠ 33))
def blankB (c : UInt8) : Bool := c == 32 || c == 9
def indentOf (s : List UInt8) : List UInt8 := s.takeWhile blankB

theorem core_end (s : List UInt8) : core s ++ endOf s = s := by
  unfold core endOf
  by_cases h : s.getLast? = some 10
  · rw [if_pos h, if_pos h]
    obtain ⟨r, rfl⟩ := List.getLast?_eq_some_iff.1 h
    simp
  · simp [h]
theorem parts_join (s : List UInt8) : bodyOf s ++ noteOf s ++ endOf s = s := by
  unfold bodyOf noteOf; rw [List.takeWhile_append_dropWhile]; exact core_end s
theorem while_mem (p : UInt8 → Bool) (l : List UInt8) : ∀ x ∈ l.takeWhile p, p x = true := by
  induction l with
  | nil => simp
  | cons c r ih =>
    intro x hx
    rw [List.takeWhile_cons] at hx
    by_cases hc : p c = true
    · rw [if_pos hc] at hx
      rcases List.mem_cons.1 hx with rfl | h
      · exact hc
      · exact ih x h
    · rw [if_neg hc] at hx; cases hx
theorem body_no (s : List UInt8) : ∀ (j : Nat) (h : j < (bodyOf s).length), (bodyOf s)[j] ≠ 33 := by
  intro j h
  have := while_mem _ _ _ (List.getElem_mem h)
  simpa using this
/-- where a byte stands: what stands ahead of it -/
theorem idx_while (l : List UInt8) (c : UInt8) : (0 ≤ Lib.indexByte l c → ((l.takeWhile (fun x => decide (x ≠ c))).length : Int) = Lib.indexByte l c ∧ (Lib.indexByte l c : Int) < l.length) ∧ (¬ 0 ≤ Lib.indexByte l c → l.takeWhile (fun x => decide (x ≠ c)) = l ∧ l.dropWhile (fun x => decide (x ≠ c)) = []) := by
  induction l with
  | nil => simp [Lib.indexByte]
  | cons b r ih =>
    have hg := Lib.indexByte_ge r c
    unfold Lib.indexByte
    by_cases hc : b = c
    · simp [hc]
    · have hc' : (b == c) = false := by simpa using hc
      have hd : decide (b ≠ c) = true := by simpa using hc
      simp only [hc', Bool.false_eq_true, if_false, List.takeWhile_cons, hd, List.dropWhile_cons]
      by_cases h : Lib.indexByte r c = -1
      · have := ih.2 (by omega)
        simp only [h, this.1, this.2]
        simp
      · have h' : (Lib.indexByte r c == -1) = false := by simpa using h
        simp only [h', Bool.false_eq_true, if_false, if_true, List.length_cons]
        have := ih.1 (by omega)
        constructor
        · intro _; constructor <;> omega
        · intro _; omega
theorem take_while (l : List UInt8) (p : UInt8 → Bool) : l.take (l.takeWhile p).length = l.takeWhile p ∧ l.drop (l.takeWhile p).length = l.dropWhile p := by
  have h := List.takeWhile_append_dropWhile (p := p) (l := l)
  constructor
  · have := List.take_left (l₁ := l.takeWhile p) (l₂ := l.dropWhile p); rwa [h] at this
  · have := List.drop_left (l₁ := l.takeWhile p) (l₂ := l.dropWhile p); rwa [h] at this
theorem while_at (l : List UInt8) (p : UInt8 → Bool) (i : Nat) (hi : i ≤ l.length) (h1 : ∀ j (hj : j < i), p (l[j]'(by omega)) = true) (h2 : ∀ (h : i < l.length), p l[i] = false) : (l.takeWhile p).length = i := by
  induction l generalizing i with
  | nil => simp at hi; simp [hi]
  | cons c r ih =>
    cases i with
    | zero => have := h2 (by simp); simp at this; simp [this]
    | succ i =>
      have h0 : p c = true := h1 0 (by omega)
      simp only [List.takeWhile_cons, h0, if_true, List.length_cons]
      rw [ih i (by simpa using hi) (fun j hj => h1 (j + 1) (by omega)) (fun h => h2 (by simpa using h))]
end Go.Proofs.YtdpjipphbhomkaaGreatDoor.Plain

namespace Go.Proofs.YtdpjipphbhomkaaGreatDoor.Line
open Go.ChangeShapes Go.WideShapes Go.ChangeAt Go.RowKit Plain
set_option linter.unusedVariables false

set_option maxHeartbeats 1000000 in
theorem indexByte_any (s : ByteArray) (c : Int) (w : World) : Calls Tryz.prog 48 #[.string s, .int .u8 c] w fun e w' => e = .returned (.int .i64 (Lib.indexByte s.data.toList c.toNat.toUInt8)) ∧ w' = w := by
  have h49 := @run_callFunc_extern Tryz.prog 120 _ Extern.BytealgIndexByte.indexByte Tryz.func120 (by kernel_rfl) (by kernel_rfl) (by kernel_rfl) (by kernel_rfl)
  have hr := fun (w : World) => @Lib.run_indexByteString Tryz.prog s c w
  go_enter Tryz.func48, Tryz.ntmps48
  go_wp2
  go_ret
  exact ⟨rfl, rfl⟩

theorem trimEnd (s : List UInt8) : Lib.trimSuffix s [10] = core s := by
  unfold Lib.trimSuffix core Lib.hasSuffix
  by_cases h : s.getLast? = some 10
  · rw [if_pos h]
    obtain ⟨r, rfl⟩ := List.getLast?_eq_some_iff.1 h
    rw [if_pos (by simp)]
    simp
  · rw [if_neg h, if_neg]
    intro hs
    obtain ⟨r, hr⟩ := List.isSuffixOf_iff_suffix.1 hs
    apply h
    rw [← hr]
    simp

set_option maxHeartbeats 1000000 in
theorem trimSuffix_any (s p : ByteArray) (w : World) (hs : s.size ≤ 9223372036854775807) :
    Calls Tryz.prog 47 #[.string s, .string p] w fun e w' => e = .returned (.string ⟨(Lib.trimSuffix s.data.toList p.data.toList).toArray⟩) ∧ w' = w := by
  have hlo : p.size ≤ s.size → ((s.size : Int) - (p.size : Int) + 9223372036854775808) % 18446744073709551616 - 9223372036854775808 = ((s.size - p.size : Nat) : Int) := fun _ => by omega
  go_enter Tryz.func47, Tryz.ntmps47
  go_wp2
  · have h1 : p.size ≤ s.size := by assumption
    have h2 : ((s.extract (s.size - p.size) s.size).toList == p.toList) = true := by assumption
    go_ret
    refine ⟨?_, rfl⟩
    rw [Lib.trimSuffix_hit s p h1 h2]
    rfl
  · have h2 : ((s.extract (s.size - p.size) s.size).toList == p.toList) = false := by assumption
    go_ret
    refine ⟨?_, rfl⟩
    rw [Lib.trimSuffix_miss s p (by rw [h2]; simp)]
    rfl
  · have h1 : ¬ p.size ≤ s.size := by assumption
    go_ret
    refine ⟨?_, rfl⟩
    rw [Lib.trimSuffix_miss s p (by simp [h1])]
    rfl

/-- three strings handed back -/
def three (a b c : List UInt8) : Ending := .returned (.tuple #[.string ⟨a.toArray⟩, .string ⟨b.toArray⟩, .string ⟨c.toArray⟩])
theorem three_eq {a b c a' b' c' : List UInt8} (h1 : a = a') (h2 : b = b') (h3 : c = c') : three a b c = three a' b' c' := by rw [h1, h2, h3]
theorem three_of {x y z : ByteArray} {a b c : List UInt8} (h1 : x = ⟨a.toArray⟩) (h2 : y = ⟨b.toArray⟩) (h3 : z = ⟨c.toArray⟩) : Ending.returned (.tuple #[.string x, .string y, .string z]) = three a b c := by rw [h1, h2, h3]; rfl
theorem core_le (s : List UInt8) : (core s).length ≤ s.length := by
  unfold core; split <;> simp

set_option maxHeartbeats 1000000 in
theorem part_any (l : List UInt8) (w : World) (hl : l.length ≤ 65536) : Calls Tryz.prog 19 #[.string ⟨l.toArray⟩] w fun e w' => e = three (bodyOf l) (noteOf l) (endOf l) ∧ ∃ n, w' = w.drewN n := by
  have hT : Lib.trimSuffix (⟨l.toArray⟩ : ByteArray).data.toList (⟨#[10]⟩ : ByteArray).data.toList = core l := trimEnd l
  have hcl := core_le l
  obtain ⟨k, hk⟩ : ∃ k, Lib.indexByte (core l) 33 = k := ⟨_, rfl⟩
  have hw := idx_while (core l) 33
  rw [hk] at hw
  have hg := Lib.indexByte_ge (core l) 33
  rw [hk] at hg
  have hc : ∀ c : List UInt8, c = core l → (Lib.indexByte (⟨c.toArray⟩ : ByteArray).data.toList (33 : Int).toNat.toUInt8) = k := fun c h => by subst h; exact hk
  clear hk
  have HE : Hid (l.drop (core l).length = endOf l) := by
    show _ = _
    have := core_end l
    conv => lhs; rhs; rw [← this]
    simp
  have HW : Hid ((0 ≤ k → (((core l).takeWhile (fun x => decide (x ≠ 33))).length : Int) = k ∧ k < (core l).length) ∧ (¬ 0 ≤ k → (core l).takeWhile (fun x => decide (x ≠ 33)) = core l ∧ (core l).dropWhile (fun x => decide (x ≠ 33)) = [])) := hw
  clear hw
  have HB : Hid (bodyOf l = (core l).takeWhile (fun x => decide (x ≠ 33))) := rfl
  have HN : Hid (noteOf l = (core l).dropWhile (fun x => decide (x ≠ 33))) := rfl
  generalize hcc : core l = c at *
  have HC := hc c rfl
  clear hc hcc
  by_cases h0 : 0 ≤ k
  · obtain ⟨n, rfl⟩ := Int.eq_ofNat_of_zero_le h0
    have hn : n < c.length := by have := (HW.out.1 h0).2; omega
    go_enter Tryz.func19, Tryz.ntmps19
    go_wp2_with (first | (go_at_call 47; refine (trimSuffix_any _ _ _ (by show l.length ≤ _; omega)).mono ?_; rintro e w' ⟨rfl, rfl⟩; rw [hT]) | (go_at_call 48; refine (indexByte_any _ _ _).mono ?_; rintro e w' ⟨rfl, rfl⟩; rw [HC]))
    have e1 : c.take n = bodyOf l ∧ c.drop n = noteOf l := by
      have h1 := (HW.out.1 h0).1
      have h2 := take_while c (fun x => decide (x ≠ 33))
      have h3 : (c.takeWhile (fun x => decide (x ≠ 33))).length = n := by omega
      rw [h3] at h2
      exact ⟨h2.1.trans HB.out.symm, h2.2.trans HN.out.symm⟩
    go_region
    all_goals go_wp2
    all_goals go_ret3
    all_goals
      refine ⟨?_, 1, rfl⟩
      exact three_of ((ext_front _ _).trans (by rw [e1.1])) ((ext_end _ _).trans (by rw [e1.2])) ((ext_end _ _).trans (by rw [HE.out]))
  · go_enter Tryz.func19, Tryz.ntmps19
    go_wp2_with (first | (go_at_call 47; refine (trimSuffix_any _ _ _ (by show l.length ≤ _; omega)).mono ?_; rintro e w' ⟨rfl, rfl⟩; rw [hT]) | (go_at_call 48; refine (indexByte_any _ _ _).mono ?_; rintro e w' ⟨rfl, rfl⟩; rw [HC]))
    go_ret3
    have e1 := HW.out.2 (by omega)
    refine ⟨?_, 0, rfl⟩
    exact three_of (by rw [HB.out, e1.1]) (by rw [HN.out, e1.2]) ((ext_end _ _).trans (by rw [HE.out]))

theorem parts_at (r : List UInt8) (k : Nat) (hk : k ≤ r.length) (h1 : ∀ j (hj : j < k), r[j]'(by omega) ≠ 33) (h2 : ∀ (h : k < r.length), r[k] = 33) :
    r.takeWhile (fun c => decide (c ≠ 33)) = r.take k ∧ r.dropWhile (fun c => decide (c ≠ 33)) = r.drop k := by
  have h := while_at r (fun c => decide (c ≠ 33)) k hk (fun j hj => by simpa using h1 j hj) (fun hh => by simpa using h2 hh)
  have h3 := take_while r (fun c => decide (c ≠ 33))
  rw [h] at h3
  exact ⟨h3.1.symm, h3.2.symm⟩

set_option maxHeartbeats 1000000 in
theorem refParts_end (l r : List UInt8) (w : World) (hl : l.length ≤ 65536) (hr : l = r ++ [10]) : Calls Tryz.prog 23 #[.string ⟨l.toArray⟩] w fun e w' => e = three (bodyOf l) (noteOf l) (endOf l) ∧ ∃ n, w' = w.drewN n := by
  have hlen : l.length = r.length + 1 := by rw [hr]; simp
  have hpos : 0 < l.length := by omega
  have hx : (⟨l.toArray⟩ : ByteArray).extract 0 r.length = ⟨r.toArray⟩ := by rw [ext_front, hr]; simp
  have hsz : r.length < (⟨l.toArray⟩ : ByteArray).size := by show r.length < l.length; omega
  have hlast : ((⟨l.toArray⟩ : ByteArray)[r.length]'hsz) = 10 := by
    have h1 : l[r.length]'(by omega) = 10 := by simp [hr]
    exact h1
  have hl2 : r.length ≤ 65535 := by omega
  have hg : l.getLast? = some 10 := by rw [hr]; simp
  have hcore : core l = r := by unfold core; rw [if_pos hg, hr]; simp
  have HB : Hid (r.takeWhile (fun c => decide (c ≠ 33)) = bodyOf l) := by show _ = _; unfold bodyOf; rw [hcore]
  have HN : Hid (r.dropWhile (fun c => decide (c ≠ 33)) = noteOf l) := by show _ = _; unfold noteOf; rw [hcore]
  have HE : Hid ((⟨#[10]⟩ : ByteArray) = ⟨(endOf l).toArray⟩) := by show _ = _; unfold endOf; rw [if_pos hg]
  clear hr hg hcore
  have h10 : (((⟨l.toArray⟩ : ByteArray)[r.length]'hsz).toNat : Int) = 10 := by rw [hlast]; rfl
  clear hlast
  go_enter Tryz.func23, Tryz.ntmps23
  go_wp2
  go_loop [6] (fun i => ∃ k : Nat, k ≤ r.length ∧ i = .int .i64 k ∧ ∀ j (hj : j < r.length), j < k → r[j] ≠ 33) (fun i => r.length - (intOf i).toNat)
  case atStart => exact ⟨0, Nat.zero_le _, rfl, fun j hj h => by omega⟩
  case round =>
    obtain ⟨k, hk, rfl, hok⟩ := hrel
    have HOK : Hid (∀ j (hj : j < r.length), j < k → r[j] ≠ 33) := hok
    clear hok
    by_cases hlt : k < r.length
    · have hs2 : k < (⟨r.toArray⟩ : ByteArray).size := hlt
      by_cases hb : r[k] = 33
      · have hb' : (((⟨r.toArray⟩ : ByteArray)[k]'hs2).toNat : Int) = 33 := by
          have : ((⟨r.toArray⟩ : ByteArray)[k]'hs2) = 33 := hb
          rw [this]; rfl
        have HP := parts_at r k (Nat.le_of_lt hlt) (fun j hj => HOK.out j (by omega) hj) (fun _ => hb)
        have HP' := hide HP
        clear hb HP
        go_wp2
        go_region
        all_goals go_wp2
        all_goals go_ret3
        all_goals
          refine ⟨?_, 1, rfl⟩
          exact three_of ((ext_front _ _).trans (mk_eq ((unhide HP').1.symm.trans HB.out))) ((ext_to _ _ _ (by omega)).trans (mk_eq ((unhide HP').2.symm.trans HN.out))) HE.out
      · have hb' : ((((⟨r.toArray⟩ : ByteArray)[k]'hs2).toNat : Int) == 33) = false := by
          have h1 : ((⟨r.toArray⟩ : ByteArray)[k]'hs2) ≠ 33 := hb
          rw [beq_eq_false_iff_ne]
          intro h2
          exact h1 (UInt8.toNat.inj (by rw [show (33 : UInt8).toNat = 33 from rfl]; omega))
        have HB3 : Hid (r[k] ≠ 33) := hb
        clear hb
        go_wp2
        go_round
        case rel => exact ⟨k + 1, by omega, by go_num, fun j hj hjk => by
            by_cases e : j = k
            · subst e; exact HB3.out
            · exact HOK.out j hj (by omega)⟩
        case measure => simp [intOf]; omega
    · have HP := parts_at r r.length (Nat.le_refl _) (fun j hj => HOK.out j hj (by omega)) (fun h => absurd h (Nat.lt_irrefl _))
      have HP' := hide HP
      clear HP
      go_wp2
      go_ret3
      refine ⟨?_, 0, rfl⟩
      exact three_of (by rw [← HB.out, (unhide HP').1, List.take_length]) (by rw [← HN.out, (unhide HP').2, List.drop_length]) HE.out

set_option maxHeartbeats 1000000 in
theorem refParts_bare (l : List UInt8) (w : World) (hl : l.length ≤ 65536) (hg : l.getLast? ≠ some 10) : Calls Tryz.prog 23 #[.string ⟨l.toArray⟩] w fun e w' => e = three (bodyOf l) (noteOf l) (endOf l) ∧ ∃ n, w' = w.drewN n := by
  have hcore : core l = l := by unfold core; rw [if_neg hg]
  have HB : Hid (l.takeWhile (fun c => decide (c ≠ 33)) = bodyOf l) := by show _ = _; unfold bodyOf; rw [hcore]
  have HN : Hid (l.dropWhile (fun c => decide (c ≠ 33)) = noteOf l) := by show _ = _; unfold noteOf; rw [hcore]
  have HE : Hid ((⟨#[]⟩ : ByteArray) = ⟨(endOf l).toArray⟩) := by show _ = _; unfold endOf; rw [if_neg hg]
  clear hcore
  by_cases h0 : l.length = 0
  · obtain rfl : l = [] := by simpa using h0
    clear hg h0
    go_enter Tryz.func23, Tryz.ntmps23
    go_wp2
    refine wp_loop_rounds 1 ?_
    rw [rounds_succ]
    go_wp2
    go_ret3
    refine ⟨?_, 0, rfl⟩
    exact three_of (by rw [← HB.out]; rfl) (by rw [← HN.out]; rfl) HE.out
  obtain ⟨m, hm⟩ : ∃ m, l.length = m + 1 := ⟨l.length - 1, by omega⟩
  have hsz : m < (⟨l.toArray⟩ : ByteArray).size := by show m < l.length; omega
  have h10 : ((((⟨l.toArray⟩ : ByteArray)[m]'hsz).toNat : Int) == 10) = false := by
    rw [beq_eq_false_iff_ne]
    intro h2
    apply hg
    have h3 : l[m]'(by omega) = 10 := UInt8.toNat.inj (by rw [show (10 : UInt8).toNat = 10 from rfl]; have : (l[m]'(by omega)).toNat = ((⟨l.toArray⟩ : ByteArray)[m]'hsz).toNat := rfl; omega)
    rw [List.getLast?_eq_getElem?, List.getElem?_eq_getElem (by omega)]
    simp only [show l.length - 1 = m by omega, h3]
  clear hg h0
  go_enter Tryz.func23, Tryz.ntmps23
  go_wp2
  go_loop [6] (fun i => ∃ k : Nat, k ≤ l.length ∧ i = .int .i64 k ∧ ∀ j (hj : j < l.length), j < k → l[j] ≠ 33) (fun i => l.length - (intOf i).toNat)
  case atStart => exact ⟨0, Nat.zero_le _, rfl, fun j hj h => by omega⟩
  case round =>
    obtain ⟨k, hk, rfl, hok⟩ := hrel
    have HOK : Hid (∀ j (hj : j < l.length), j < k → l[j] ≠ 33) := hok
    clear hok
    by_cases hlt : k < l.length
    · have hs2 : k < (⟨l.toArray⟩ : ByteArray).size := hlt
      by_cases hb : l[k] = 33
      · have hb' : (((⟨l.toArray⟩ : ByteArray)[k]'hs2).toNat : Int) = 33 := by
          have : ((⟨l.toArray⟩ : ByteArray)[k]'hs2) = 33 := hb
          rw [this]; rfl
        have HP := parts_at l k (Nat.le_of_lt hlt) (fun j hj => HOK.out j (by omega) hj) (fun _ => hb)
        have HP' := hide HP
        clear hb HP
        go_wp2
        go_region
        all_goals go_wp2
        all_goals go_ret3
        all_goals
          refine ⟨?_, 1, rfl⟩
          exact three_of ((ext_front _ _).trans (mk_eq ((unhide HP').1.symm.trans HB.out))) ((ext_to _ _ _ (by omega)).trans (mk_eq ((unhide HP').2.symm.trans HN.out))) HE.out
      · have hb' : ((((⟨l.toArray⟩ : ByteArray)[k]'hs2).toNat : Int) == 33) = false := by
          have h1 : ((⟨l.toArray⟩ : ByteArray)[k]'hs2) ≠ 33 := hb
          rw [beq_eq_false_iff_ne]
          intro h2
          exact h1 (UInt8.toNat.inj (by rw [show (33 : UInt8).toNat = 33 from rfl]; omega))
        have HB3 : Hid (l[k] ≠ 33) := hb
        clear hb
        go_wp2
        go_round
        case rel => exact ⟨k + 1, by omega, by go_num, fun j hj hjk => by
            by_cases e : j = k
            · subst e; exact HB3.out
            · exact HOK.out j hj (by omega)⟩
        case measure => simp [intOf]; omega
    · have HP := parts_at l l.length (Nat.le_refl _) (fun j hj => HOK.out j hj (by omega)) (fun h => absurd h (Nat.lt_irrefl _))
      have HP' := hide HP
      clear HP
      go_wp2
      go_ret3
      refine ⟨?_, 0, rfl⟩
      exact three_of (by rw [← HB.out, (unhide HP').1, List.take_length]) (by rw [← HN.out, (unhide HP').2, List.drop_length]) HE.out

theorem refParts_any (l : List UInt8) (w : World) (hl : l.length ≤ 65536) : Calls Tryz.prog 23 #[.string ⟨l.toArray⟩] w fun e w' => e = three (bodyOf l) (noteOf l) (endOf l) ∧ ∃ n, w' = w.drewN n := by
  by_cases h : l.getLast? = some 10
  · obtain ⟨r, hr⟩ := List.getLast?_eq_some_iff.1 h
    exact refParts_end l r w hl hr
  · exact refParts_bare l w hl h
end Go.Proofs.YtdpjipphbhomkaaGreatDoor.Line

namespace Go.Proofs.YtdpjipphbhomkaaGreatDoor.Line
open Go.ChangeShapes Go.WideShapes Go.ChangeAt Go.RowKit
set_option linter.unusedVariables false

theorem isSmall_any (c : UInt8) (w : World) : Calls Tryz.prog 88 #[.int .u8 (c.toNat : Int)] w fun e w' => e = .returned (.bool (Words.letterB c)) ∧ w' = w := by
  have hE : Words.letterB c = (decide (97 ≤ c.toNat) && decide (c.toNat ≤ 122)) := rfl
  rw [hE]
  clear hE
  generalize c.toNat = n
  by_cases h1 : 97 ≤ n
  · have q1 : decide (97 ≤ n) = true := decide_eq_true h1
    go_enter Tryz.func88, Tryz.ntmps88
    go_wp2
    go_ret
    refine ⟨ret_bool ?_, rfl⟩
    simp [h1]
    omega
  · have q1 : decide (97 ≤ n) = false := decide_eq_false h1
    go_enter Tryz.func88, Tryz.ntmps88
    go_wp2
    go_ret
    refine ⟨ret_bool ?_, rfl⟩
    simp
theorem isDigit_any (c : UInt8) (w : World) : Calls Tryz.prog 92 #[.int .u8 (c.toNat : Int)] w fun e w' => e = .returned (.bool (Words.digitB c)) ∧ w' = w := by
  have hE : Words.digitB c = (decide (48 ≤ c.toNat) && decide (c.toNat ≤ 57)) := rfl
  rw [hE]
  clear hE
  generalize c.toNat = n
  by_cases h1 : 48 ≤ n
  · have q1 : decide (48 ≤ n) = true := decide_eq_true h1
    go_enter Tryz.func92, Tryz.ntmps92
    go_wp2
    go_ret
    refine ⟨ret_bool ?_, rfl⟩
    simp [h1]
    omega
  · have q1 : decide (48 ≤ n) = false := decide_eq_false h1
    go_enter Tryz.func92, Tryz.ntmps92
    go_wp2
    go_ret
    refine ⟨ret_bool ?_, rfl⟩
    simp
theorem isInner_any (c : UInt8) (w : World) : Calls Tryz.prog 91 #[.int .u8 (c.toNat : Int)] w fun e w' => e = .returned (.bool (Words.behindB c)) ∧ w' = w := by
  have hE : Words.behindB c = (Words.letterB c || Words.digitB c || decide (c.toNat = 95)) := rfl
  rw [hE]
  clear hE
  have HL := hide (isSmall_any c w)
  have HD := hide (isDigit_any c w)
  generalize Words.letterB c = bl at *
  generalize Words.digitB c = bd at *
  generalize c.toNat = n at *
  cases bl
  · cases bd
    · go_enter Tryz.func91, Tryz.ntmps91
      go_wp2_with (first | (go_at_call 88; refine (unhide HL).mono ?_; rintro e w1 ⟨rfl, rfl⟩) | (go_at_call 92; refine (unhide HD).mono ?_; rintro e w1 ⟨rfl, rfl⟩))
      go_ret
      refine ⟨ret_bool ?_, rfl⟩
      simp only [Bool.false_or]
      by_cases h : n = 95
      · subst h; rfl
      · rw [decide_eq_false h]
        rw [beq_eq_false_iff_ne]
        omega
    · go_enter Tryz.func91, Tryz.ntmps91
      go_wp2_with (first | (go_at_call 88; refine (unhide HL).mono ?_; rintro e w1 ⟨rfl, rfl⟩) | (go_at_call 92; refine (unhide HD).mono ?_; rintro e w1 ⟨rfl, rfl⟩))
      go_ret
      exact ⟨rfl, rfl⟩
  · go_enter Tryz.func91, Tryz.ntmps91
    go_wp2_with (go_at_call 88; refine (unhide HL).mono ?_; rintro e w1 ⟨rfl, rfl⟩)
    go_ret
    exact ⟨rfl, rfl⟩


set_option maxHeartbeats 2000000 in
theorem isKeyD_any (l : List UInt8) (w : World) : Calls Tryz.prog 125 #[.string ⟨l.toArray⟩] w fun e w' => e = .returned (.bool (Words.isKey l)) ∧ w' = w := by
  by_cases h : l ∈ Words.keys
  · have hE : Words.isKey l = true := by unfold Words.isKey; rw [List.contains_iff_mem]; exact h
    rw [hE]
    clear hE
    simp only [Words.keys, List.mem_cons, List.not_mem_nil, or_false] at h
    rcases h with rfl | rfl | rfl | rfl | rfl | rfl | rfl | rfl
    all_goals (
      go_enter Tryz.func125, Tryz.ntmps125
      go_wp2
      go_ret
      exact ⟨rfl, rfl⟩)
  · have hE : Words.isKey l = false := by
      rw [← Bool.not_eq_true]
      intro h1
      unfold Words.isKey at h1
      rw [List.contains_iff_mem] at h1
      exact h h1
    rw [hE]
    clear hE
    simp only [Words.keys, List.mem_cons, List.not_mem_nil, or_false, not_or] at h
    obtain ⟨h1, h2, h3, h4, h5, h6, h7, h8⟩ := h
    have k1 := beq_eq_false_iff_ne.2 h1
    have k2 := beq_eq_false_iff_ne.2 h2
    have k3 := beq_eq_false_iff_ne.2 h3
    have k4 := beq_eq_false_iff_ne.2 h4
    have k5 := beq_eq_false_iff_ne.2 h5
    have k6 := beq_eq_false_iff_ne.2 h6
    have k7 := beq_eq_false_iff_ne.2 h7
    have k8 := beq_eq_false_iff_ne.2 h8
    go_enter Tryz.func125, Tryz.ntmps125
    go_wp2
    go_ret
    exact ⟨rfl, rfl⟩

theorem tw_len (p : UInt8 → Bool) : ∀ (l : List UInt8) (k : Nat), k ≤ l.length → (∀ j (h : j < l.length), j < k → p l[j] = true) → (∀ h : k < l.length, p l[k] = false) → (l.takeWhile p).length = k := by
  intro l
  induction l with
  | nil => intro k hk _ _; simp at hk; subst hk; rfl
  | cons c r ih =>
    intro k hk h1 h2
    cases k with
    | zero =>
      have := h2 (by simp)
      rw [List.takeWhile_cons, if_neg (by rw [show p c = false from this]; decide)]
      rfl
    | succ k =>
      have hc := h1 0 (by simp) (by omega)
      rw [List.takeWhile_cons, if_pos (show p c = true from hc), List.length_cons, ih k (by simpa using hk) (fun j h hj => h1 (j + 1) (by simpa using h) (by omega)) (fun h => h2 (by simpa using h))]

set_option maxHeartbeats 2000000 in
theorem spanInner_any (l : List UInt8) (w : World) (hl : l.length ≤ 1000000) : Calls Tryz.prog 90 #[.string ⟨l.toArray⟩, .func (.func 91) #[] #[]] w fun e w' => e = .returned (.int .i64 ((l.takeWhile Words.behindB).length : Int)) ∧ w' = w := by
  have HT := hide (tw_len Words.behindB l)
  go_enter Tryz.func90, Tryz.ntmps90
  go_wp2_with fail
  go_loopw [5] (fun q wr => ∃ i : Nat, i ≤ l.length ∧ q = .int .i64 i ∧ wr = w ∧ Hid (∀ j (h : j < l.length), j < i → Words.behindB l[j] = true)) (fun q _ => l.length - (intOf q).toNat)
  case atStart => exact ⟨0, Nat.zero_le _, rfl, rfl, hide (fun j h hj => by omega)⟩
  case round =>
    obtain ⟨i, hi, rfl, rfl, HP⟩ := hrel
    by_cases hlt : i < l.length
    · have q1 : decide (i < l.length) = true := decide_eq_true hlt
      have hs : i < (⟨l.toArray⟩ : ByteArray).size := hlt
      have hbv : (((⟨l.toArray⟩ : ByteArray)[i]'hs).toNat : Int) = (l[i].toNat : Int) := rfl
      have hlt2 : (i : Int) < l.length := by omega
      have HI := hide (fun W => isInner_any l[i] W)
      by_cases hb : Words.behindB l[i] = true
      · have HB := hide hb
        rw [hb] at HI
        generalize l[i].toNat = m at *
        go_wp2_with (go_at_call 91; refine (unhide HI _).mono ?_; rintro ev w1 ⟨rfl, hw⟩; have hw := hw.symm; subst hw)
        go_roundw
        case rel => exact ⟨i + 1, by omega, by go_num, trivial, hide (fun j h hj => by
            by_cases e : j = i
            · subst e; exact unhide HB
            · exact unhide HP j h (by omega))⟩
        case measure => simp [intOf]; omega
      · replace hb : Words.behindB l[i] = false := by simpa using hb
        have HA := hide (unhide HT i (by omega) (unhide HP) (fun _ => hb))
        rw [hb] at HI
        generalize l[i].toNat = m at *
        go_wp2_with (go_at_call 91; refine (unhide HI _).mono ?_; rintro ev w1 ⟨rfl, hw⟩; have hw := hw.symm; subst hw)
        go_ret
        exact ⟨by rw [unhide HA]; rfl, rfl⟩
    · have q1 : decide (i < l.length) = false := decide_eq_false hlt
      have HA := hide (unhide HT i (by omega) (unhide HP) (fun h => absurd h hlt))
      go_wp2
      go_ret
      exact ⟨by rw [unhide HA]; rfl, rfl⟩
set_option maxHeartbeats 2000000 in
theorem spanDigit_any (l : List UInt8) (w : World) (hl : l.length ≤ 1000000) : Calls Tryz.prog 90 #[.string ⟨l.toArray⟩, .func (.func 92) #[] #[]] w fun e w' => e = .returned (.int .i64 ((l.takeWhile Words.digitB).length : Int)) ∧ w' = w := by
  have HT := hide (tw_len Words.digitB l)
  go_enter Tryz.func90, Tryz.ntmps90
  go_wp2_with fail
  go_loopw [5] (fun q wr => ∃ i : Nat, i ≤ l.length ∧ q = .int .i64 i ∧ wr = w ∧ Hid (∀ j (h : j < l.length), j < i → Words.digitB l[j] = true)) (fun q _ => l.length - (intOf q).toNat)
  case atStart => exact ⟨0, Nat.zero_le _, rfl, rfl, hide (fun j h hj => by omega)⟩
  case round =>
    obtain ⟨i, hi, rfl, rfl, HP⟩ := hrel
    by_cases hlt : i < l.length
    · have q1 : decide (i < l.length) = true := decide_eq_true hlt
      have hs : i < (⟨l.toArray⟩ : ByteArray).size := hlt
      have hbv : (((⟨l.toArray⟩ : ByteArray)[i]'hs).toNat : Int) = (l[i].toNat : Int) := rfl
      have hlt2 : (i : Int) < l.length := by omega
      have HI := hide (fun W => isDigit_any l[i] W)
      by_cases hb : Words.digitB l[i] = true
      · have HB := hide hb
        rw [hb] at HI
        generalize l[i].toNat = m at *
        go_wp2_with (go_at_call 92; refine (unhide HI _).mono ?_; rintro ev w1 ⟨rfl, hw⟩; have hw := hw.symm; subst hw)
        go_roundw
        case rel => exact ⟨i + 1, by omega, by go_num, trivial, hide (fun j h hj => by
            by_cases e : j = i
            · subst e; exact unhide HB
            · exact unhide HP j h (by omega))⟩
        case measure => simp [intOf]; omega
      · replace hb : Words.digitB l[i] = false := by simpa using hb
        have HA := hide (unhide HT i (by omega) (unhide HP) (fun _ => hb))
        rw [hb] at HI
        generalize l[i].toNat = m at *
        go_wp2_with (go_at_call 92; refine (unhide HI _).mono ?_; rintro ev w1 ⟨rfl, hw⟩; have hw := hw.symm; subst hw)
        go_ret
        exact ⟨by rw [unhide HA]; rfl, rfl⟩
    · have q1 : decide (i < l.length) = false := decide_eq_false hlt
      have HA := hide (unhide HT i (by omega) (unhide HP) (fun h => absurd h hlt))
      go_wp2
      go_ret
      exact ⟨by rw [unhide HA]; rfl, rfl⟩
theorem signLen_at0 (l : List UInt8) (h : 0 < l.length) (two : Bool) (ht : two = true ↔ ∃ h2 : 1 < l.length, l[1].toNat = 61) : Words.signLen l = if l[0].toNat = 60 ∨ l[0].toNat = 62 ∨ l[0].toNat = 61 ∨ l[0].toNat = 47 then (if two = true then 2 else 1) else if l[0].toNat = 43 ∨ l[0].toNat = 45 ∨ l[0].toNat = 42 ∨ l[0].toNat = 40 ∨ l[0].toNat = 41 ∨ l[0].toNat = 44 then 1 else 0 := by
  have := signLen_at l 0 h two ht
  rwa [List.drop_zero] at this
set_option maxHeartbeats 4000000 in
theorem signLength_any (l : List UInt8) (h : 0 < l.length) (hl : l.length ≤ 1000000) (w : World) : Calls Tryz.prog 94 #[.string ⟨l.toArray⟩] w fun e w' => e = .returned (.int .i64 (Words.signLen l)) ∧ w' = w := by
  have hs : 0 < (⟨l.toArray⟩ : ByteArray).size := h
  have hbv : (((⟨l.toArray⟩ : ByteArray)[0]'hs).toNat : Int) = (l[0].toNat : Int) := rfl
  have hsz : ((⟨l.toArray⟩ : ByteArray).size : Int) = l.length := rfl
  have hi1 : (0 : Int) < l.length := by omega
  have core : ∀ two : Bool, (two = true ↔ ∃ h2 : 1 < l.length, l[1].toNat = 61) → Calls Tryz.prog 94 #[.string ⟨l.toArray⟩] w fun e w' => e = .returned (.int .i64 (if l[0].toNat = 60 ∨ l[0].toNat = 62 ∨ l[0].toNat = 61 ∨ l[0].toNat = 47 then (if two = true then 2 else 1) else if l[0].toNat = 43 ∨ l[0].toNat = 45 ∨ l[0].toNat = 42 ∨ l[0].toNat = 40 ∨ l[0].toNat = 41 ∨ l[0].toNat = 44 then 1 else 0 : Nat)) ∧ w' = w := by
    intro two ht
    have hcase : (∃ (h2 : 1 < l.length), l[1].toNat = 61 ∧ two = true) ∨ (∃ (h2 : 1 < l.length), l[1].toNat ≠ 61 ∧ two = false) ∨ (¬ 1 < l.length ∧ two = false) := by
      by_cases h2 : 1 < l.length
      · by_cases h3 : l[1].toNat = 61
        · exact .inl ⟨h2, h3, ht.2 ⟨h2, h3⟩⟩
        · refine .inr (.inl ⟨h2, h3, ?_⟩)
          cases two
          · rfl
          · obtain ⟨h4, h5⟩ := ht.1 rfl; exact absurd h5 h3
      · refine .inr (.inr ⟨h2, ?_⟩)
        cases two
        · rfl
        · obtain ⟨h4, h5⟩ := ht.1 rfl; exact absurd h4 h2
    clear ht
    generalize l[0].toNat = n at *
    have hn : n = 60 ∨ n = 62 ∨ n = 61 ∨ n = 47 ∨ n = 43 ∨ n = 45 ∨ n = 42 ∨ n = 40 ∨ n = 41 ∨ n = 44 ∨ (¬ (n = 60 ∨ n = 62 ∨ n = 61 ∨ n = 47) ∧ ¬ (n = 43 ∨ n = 45 ∨ n = 42 ∨ n = 40 ∨ n = 41 ∨ n = 44)) := by omega
    rcases hcase with ⟨h2, h3, rfl⟩ | ⟨h2, h3, rfl⟩ | ⟨h2, rfl⟩
    · have hs2 : 1 < (⟨l.toArray⟩ : ByteArray).size := h2
      have hb2 : (((⟨l.toArray⟩ : ByteArray)[1]'hs2).toNat : Int) = 61 := by
        show (l[1].toNat : Int) = 61
        rw [h3]; rfl
      have q1 : decide (1 < l.length) = true := decide_eq_true h2
      have q2 : (1 : Int) < l.length := by omega
      clear h3
      rcases hn with rfl | rfl | rfl | rfl | rfl | rfl | rfl | rfl | rfl | rfl | ⟨hn1, hn2⟩
      all_goals try (
        go_enter Tryz.func94, Tryz.ntmps94
        go_wp2
        go_ret
        exact ⟨rfl, rfl⟩)
      all_goals (
        rw [if_neg hn1, if_neg hn2]
        have k1 : ((n : Int) == 60) = false := by rw [beq_eq_false_iff_ne]; omega
        have k2 : ((n : Int) == 62) = false := by rw [beq_eq_false_iff_ne]; omega
        have k3 : ((n : Int) == 61) = false := by rw [beq_eq_false_iff_ne]; omega
        have k4 : ((n : Int) == 47) = false := by rw [beq_eq_false_iff_ne]; omega
        have k5 : ((n : Int) == 43) = false := by rw [beq_eq_false_iff_ne]; omega
        have k6 : ((n : Int) == 45) = false := by rw [beq_eq_false_iff_ne]; omega
        have k7 : ((n : Int) == 42) = false := by rw [beq_eq_false_iff_ne]; omega
        have k8 : ((n : Int) == 40) = false := by rw [beq_eq_false_iff_ne]; omega
        have k9 : ((n : Int) == 41) = false := by rw [beq_eq_false_iff_ne]; omega
        have k0 : ((n : Int) == 44) = false := by rw [beq_eq_false_iff_ne]; omega
        clear hn1 hn2
        go_enter Tryz.func94, Tryz.ntmps94
        go_wp2
        go_ret
        exact ⟨rfl, rfl⟩)
    · have hs2 : 1 < (⟨l.toArray⟩ : ByteArray).size := h2
      have hb2 : ((((⟨l.toArray⟩ : ByteArray)[1]'hs2).toNat : Int) == 61) = false := by
        show ((l[1].toNat : Int) == 61) = false
        rw [beq_eq_false_iff_ne]
        omega
      have q1 : decide (1 < l.length) = true := decide_eq_true h2
      have q2 : (1 : Int) < l.length := by omega
      clear h3
      rcases hn with rfl | rfl | rfl | rfl | rfl | rfl | rfl | rfl | rfl | rfl | ⟨hn1, hn2⟩
      all_goals try (
        go_enter Tryz.func94, Tryz.ntmps94
        go_wp2
        go_ret
        exact ⟨rfl, rfl⟩)
      all_goals (
        rw [if_neg hn1, if_neg hn2]
        have k1 : ((n : Int) == 60) = false := by rw [beq_eq_false_iff_ne]; omega
        have k2 : ((n : Int) == 62) = false := by rw [beq_eq_false_iff_ne]; omega
        have k3 : ((n : Int) == 61) = false := by rw [beq_eq_false_iff_ne]; omega
        have k4 : ((n : Int) == 47) = false := by rw [beq_eq_false_iff_ne]; omega
        have k5 : ((n : Int) == 43) = false := by rw [beq_eq_false_iff_ne]; omega
        have k6 : ((n : Int) == 45) = false := by rw [beq_eq_false_iff_ne]; omega
        have k7 : ((n : Int) == 42) = false := by rw [beq_eq_false_iff_ne]; omega
        have k8 : ((n : Int) == 40) = false := by rw [beq_eq_false_iff_ne]; omega
        have k9 : ((n : Int) == 41) = false := by rw [beq_eq_false_iff_ne]; omega
        have k0 : ((n : Int) == 44) = false := by rw [beq_eq_false_iff_ne]; omega
        clear hn1 hn2
        go_enter Tryz.func94, Tryz.ntmps94
        go_wp2
        go_ret
        exact ⟨rfl, rfl⟩)
    · have q1 : decide (1 < l.length) = false := decide_eq_false h2
      rcases hn with rfl | rfl | rfl | rfl | rfl | rfl | rfl | rfl | rfl | rfl | ⟨hn1, hn2⟩
      all_goals try (
        go_enter Tryz.func94, Tryz.ntmps94
        go_wp2
        go_ret
        exact ⟨rfl, rfl⟩)
      all_goals (
        rw [if_neg hn1, if_neg hn2]
        have k1 : ((n : Int) == 60) = false := by rw [beq_eq_false_iff_ne]; omega
        have k2 : ((n : Int) == 62) = false := by rw [beq_eq_false_iff_ne]; omega
        have k3 : ((n : Int) == 61) = false := by rw [beq_eq_false_iff_ne]; omega
        have k4 : ((n : Int) == 47) = false := by rw [beq_eq_false_iff_ne]; omega
        have k5 : ((n : Int) == 43) = false := by rw [beq_eq_false_iff_ne]; omega
        have k6 : ((n : Int) == 45) = false := by rw [beq_eq_false_iff_ne]; omega
        have k7 : ((n : Int) == 42) = false := by rw [beq_eq_false_iff_ne]; omega
        have k8 : ((n : Int) == 40) = false := by rw [beq_eq_false_iff_ne]; omega
        have k9 : ((n : Int) == 41) = false := by rw [beq_eq_false_iff_ne]; omega
        have k0 : ((n : Int) == 44) = false := by rw [beq_eq_false_iff_ne]; omega
        clear hn1 hn2
        go_enter Tryz.func94, Tryz.ntmps94
        go_wp2
        go_ret
        exact ⟨rfl, rfl⟩)
  by_cases hx : ∃ h2 : 1 < l.length, l[1].toNat = 61
  · rw [signLen_at0 l h true ⟨fun _ => hx, fun _ => rfl⟩]
    exact core true ⟨fun _ => hx, fun _ => rfl⟩
  · rw [signLen_at0 l h false ⟨fun h => (by cases h), fun h => absurd h hx⟩]
    exact core false ⟨fun h => (by cases h), fun h => absurd h hx⟩
end Go.Proofs.YtdpjipphbhomkaaGreatDoor.Line

namespace Go.Proofs.YtdpjipphbhomkaaGreatDoor.Line
open Go.ChangeShapes Go.WideShapes Go.ChangeAt Go.RowKit
set_option linter.unusedVariables false

/-- What a checked operation answers for the whole number x: x itself where 64 bits hold it, else 0. -/
def fitV (x : Int) : Int := if -9223372036854775808 ≤ x ∧ x ≤ 9223372036854775807 then x else 0
/-- Whether 64 bits hold x. -/
def fitO (x : Int) : Bool := decide (-9223372036854775808 ≤ x ∧ x ≤ 9223372036854775807)
theorem fitV_in {x : Int} (h : -9223372036854775808 ≤ x) (g : x ≤ 9223372036854775807) : fitV x = x := by
  unfold fitV; rw [if_pos ⟨h, g⟩]
theorem fitO_in {x : Int} (h : -9223372036854775808 ≤ x) (g : x ≤ 9223372036854775807) : fitO x = true := by
  unfold fitO; exact decide_eq_true ⟨h, g⟩
theorem fitV_out {x : Int} (h : x < -9223372036854775808 ∨ 9223372036854775807 < x) : fitV x = 0 := by
  unfold fitV; rw [if_neg (by omega)]
theorem fitO_out {x : Int} (h : x < -9223372036854775808 ∨ 9223372036854775807 < x) : fitO x = false := by
  unfold fitO; exact decide_eq_false (by omega)
theorem ret_two {k : IntKind} {a b : Int} {c d : Bool} (h : a = b) (g : c = d) :
    Ending.returned (.tuple #[.int k a, .bool c]) = .returned (.tuple #[.int k b, .bool d]) := by rw [h, g]

/- quotients -/
theorem size_any (a : Int) (w : World) (h1 : -9223372036854775808 ≤ a) (h2 : a ≤ 9223372036854775807) :
    Calls Tryz.prog 146 #[.int .i64 a] w fun e w' => e = .returned (.int .u64 (a.natAbs : Int)) ∧ w' = w := by
  go_enter Tryz.func146, Tryz.ntmps146
  go_wp2
  all_goals go_ret
  · exact ⟨ret_int (by rw [IntKind.wrap_u64, IntKind.wrap_u64]; omega), rfl⟩
  · exact ⟨ret_int (by omega), rfl⟩
theorem add_any (a b : Int) (w : World) (h1 : -9223372036854775808 ≤ a) (h2 : a ≤ 9223372036854775807) (h3 : -9223372036854775808 ≤ b) (h4 : b ≤ 9223372036854775807) :
    Calls Tryz.prog 127 #[.int .i64 a, .int .i64 b] w fun e w' => e = .returned (.tuple #[.int .i64 (fitV (a + b)), .bool (fitO (a + b))]) ∧ w' = w := by
  go_enter Tryz.func127, Tryz.ntmps127
  go_wp2
  all_goals go_ret2
  all_goals first
    | exact ⟨ret_two (fitV_out (by omega)).symm (fitO_out (by omega)).symm, rfl⟩
    | exact ⟨ret_two (fitV_in (by omega) (by omega)).symm (fitO_in (by omega) (by omega)).symm, rfl⟩
theorem maskN (a : Nat) (ha : a < 18446744073709551616) : bits .and .u64 (a : Int) 4294967295 = ((a % 4294967296 : Nat) : Int) := by
  have h := bits_and_u64_nat a 4294967295 ha (by omega)
  rw [Nat.and_two_pow_sub_one_eq_mod a 32] at h
  exact h
theorem divN (a : Nat) : (a : Int) / 4294967296 = ((a / 4294967296 : Nat) : Int) := by omega
theorem wrapN (a : Nat) (ha : a < 18446744073709551616) : IntKind.u64.wrap (a : Int) = (a : Int) := by rw [IntKind.wrap_u64]; omega
theorem wrapM (a : Nat) : IntKind.u64.wrap (a : Int) = ((a % 18446744073709551616 : Nat) : Int) := by rw [IntKind.wrap_u64]; omega
theorem mul64_any (x y : Nat) (hx : x < 18446744073709551616) (hy : y < 18446744073709551616) (w : World) :
    Calls Tryz.prog 145 #[.int .u64 x, .int .u64 y] w fun e w' => e = .returned (.tuple #[.int .u64 ((x * y / 18446744073709551616 : Nat) : Int), .int .u64 ((x * y % 18446744073709551616 : Nat) : Int)]) ∧ w' = w := by
  obtain ⟨bd, bt, bw, hhi⟩ := Lib.mul64_hi x y hx hy
  have ba := Lib.half_mul_le (a := x / 4294967296) (b := y / 4294967296) (by omega) (by omega)
  have bb := Lib.half_mul_le (a := x / 4294967296) (b := y % 4294967296) (by omega) (by omega)
  have bc := Lib.half_mul_le (a := x % 4294967296) (b := y / 4294967296) (by omega) (by omega)
  have ba' : x / 4294967296 * (y / 4294967296) < 18446744073709551616 := by omega
  have bb' : x / 4294967296 * (y % 4294967296) < 18446744073709551616 := by omega
  have bc' : x % 4294967296 * (y / 4294967296) < 18446744073709551616 := by omega
  have bh1 : x / 4294967296 * (y / 4294967296) + (x / 4294967296 * (y % 4294967296) + x % 4294967296 * (y % 4294967296) / 4294967296) / 4294967296 < 18446744073709551616 := by omega
  have bh : x / 4294967296 * (y / 4294967296) + (x / 4294967296 * (y % 4294967296) + x % 4294967296 * (y % 4294967296) / 4294967296) / 4294967296 + ((x / 4294967296 * (y % 4294967296) + x % 4294967296 * (y % 4294967296) / 4294967296) % 4294967296 + x % 4294967296 * (y / 4294967296)) / 4294967296 < 18446744073709551616 := by omega
  go_enter Tryz.func145, Tryz.ntmps145
  go_wp2
  simp only [maskN x hx, maskN y hy, divN, ← Int.natCast_mul, ← Int.natCast_add, wrapN _ bd, wrapN _ bb', wrapN _ bt, maskN _ bt, wrapN _ bc', wrapN _ bw, wrapN _ ba', wrapN _ bh1, wrapN _ bh, wrapM (x * y)]
  rw [hhi]
  go_ret2
  exact ⟨rfl, rfl⟩
theorem signed_any (n : Int) (b : Bool) (w : World) (h1 : 0 ≤ n) (h2 : n ≤ 18446744073709551615) :
    Calls Tryz.prog 147 #[.int .u64 n, .bool b] w fun e w' => e = .returned (.tuple #[.int .i64 (fitV (if b = true then -n else n)), .bool (fitO (if b = true then -n else n))]) ∧ w' = w := by
  cases b
  · simp only [Bool.false_eq_true, if_false]
    go_enter Tryz.func147, Tryz.ntmps147
    go_wp2
    all_goals go_ret2
    all_goals first
      | exact ⟨ret_two (fitV_out (by omega)).symm (fitO_out (by omega)).symm, rfl⟩
      | exact ⟨ret_two (fitV_in (by omega) (by omega)).symm (fitO_in (by omega) (by omega)).symm, rfl⟩
  · simp only [if_true]
    go_enter Tryz.func147, Tryz.ntmps147
    go_wp2
    all_goals go_ret2
    all_goals first
      | exact ⟨ret_two (fitV_out (by omega)).symm (fitO_out (by omega)).symm, rfl⟩
      | exact ⟨ret_two ((by rw [IntKind.wrap_u64]; unfold wrap64; omega : _ = -n).trans (fitV_in (by omega) (by omega)).symm) (fitO_in (by omega) (by omega)).symm, rfl⟩
theorem prod_same {a b : Int} (h : a < 0 ↔ b < 0) : a * b = ↑a.natAbs * ↑b.natAbs := by
  by_cases ha : a < 0
  · have hb := h.1 ha
    rw [show (a.natAbs : Int) = -a by omega, show (b.natAbs : Int) = -b by omega, Int.neg_mul_neg]
  · have hb := fun g => ha (h.2 g)
    rw [show (a.natAbs : Int) = a by omega, show (b.natAbs : Int) = b by omega]
theorem prod_diff {a b : Int} (h : ¬ (a < 0 ↔ b < 0)) : a * b = -(↑a.natAbs * ↑b.natAbs) := by
  by_cases ha : a < 0
  · rw [show (a.natAbs : Int) = -a by omega, show (b.natAbs : Int) = b by omega, Int.neg_mul, Int.neg_neg]
  · rw [show (a.natAbs : Int) = a by omega, show (b.natAbs : Int) = -b by omega, Int.mul_neg, Int.neg_neg]
theorem prod_nonneg (a b : Int) : 0 ≤ (a.natAbs : Int) * (b.natAbs : Int) := Int.mul_nonneg (by omega) (by omega)
theorem prod_great {a b : Int} (h : ((a.natAbs : Int) * (b.natAbs : Int) / 18446744073709551616 != 0) = true) : a * b < -9223372036854775808 ∨ 9223372036854775807 < a * b := by
  have := prod_nonneg a b
  have h : ¬ ((a.natAbs : Int) * (b.natAbs : Int) / 18446744073709551616 = 0) := by simpa using h
  by_cases g : a < 0 ↔ b < 0
  · rw [prod_same g]; omega
  · rw [prod_diff g]; omega
theorem prod_small {a b : Int} (h : ((a.natAbs : Int) * (b.natAbs : Int) / 18446744073709551616 != 0) = false) : (a.natAbs : Int) * (b.natAbs : Int) % 18446744073709551616 = (a.natAbs : Int) * (b.natAbs : Int) := by
  have := prod_nonneg a b
  have h : ((a.natAbs : Int) * (b.natAbs : Int) / 18446744073709551616 = 0) := by simpa using h
  omega
theorem mul_any (a b : Int) (w : World) (h1 : -9223372036854775808 ≤ a) (h2 : a ≤ 9223372036854775807) (h3 : -9223372036854775808 ≤ b) (h4 : b ≤ 9223372036854775807) :
    Calls Tryz.prog 126 #[.int .i64 a, .int .i64 b] w fun e w' => e = .returned (.tuple #[.int .i64 (fitV (a * b)), .bool (fitO (a * b))]) ∧ w' = w := by
  go_enter Tryz.func126, Tryz.ntmps126
  go_wp2_with (first
    | (go_at_call 146; refine (size_any _ _ (by assumption) (by assumption)).mono ?_; rintro e w' ⟨rfl, rfl⟩)
    | (go_at_call 145; refine (mul64_any _ _ (by omega) (by omega) _).mono ?_; rintro e w' ⟨rfl, rfl⟩)
    | (go_at_call 147; refine (signed_any _ _ _ (by omega) (by omega)).mono ?_; rintro e w' ⟨rfl, rfl⟩))
  all_goals go_ret2
  · exact ⟨ret_two (fitV_out (prod_great ‹_›)).symm (fitO_out (prod_great ‹_›)).symm, rfl⟩
  · have e : (a.natAbs : Int) * (b.natAbs : Int) % 18446744073709551616 = a * b := (prod_small ‹_›).trans (prod_same ‹_›).symm
    exact ⟨ret_two (by rw [e]) (by rw [e]), rfl⟩
  · have e : -((a.natAbs : Int) * (b.natAbs : Int) % 18446744073709551616) = a * b := by rw [prod_small ‹_›]; exact (prod_diff ‹_›).symm
    exact ⟨ret_two (by rw [e]) (by rw [e]), rfl⟩
end Go.Proofs.YtdpjipphbhomkaaGreatDoor.Line

namespace Go.Proofs.YtdpjipphbhomkaaGreatDoor.Words
set_option linter.unusedVariables false

/-! ### a number in words -/
theorem takeWhile_all {p : UInt8 → Bool} {s : List UInt8} (h : ∀ c ∈ s, p c = true) : s.takeWhile p = s := by
  induction s with
  | nil => rfl
  | cons c r ih => rw [List.takeWhile_cons, if_pos (h c (List.mem_cons_self ..)), ih (fun x hx => h x (List.mem_cons_of_mem _ hx))]
theorem digit_not (c : UInt8) (h : digitB c = true) : blankB c = false ∧ letterB c = false := by
  unfold digitB at h
  unfold blankB letterB
  simp only [Bool.and_eq_true, decide_eq_true_eq] at h
  simp only [Bool.or_eq_false_iff, Bool.and_eq_false_iff, decide_eq_false_iff_not]
  omega
theorem step_digits (s : List UInt8) (h0 : s ≠ []) (h : ∀ c ∈ s, digitB c = true) : step s = if big < num s then .bad 5 0 else .tok 2 (num s) s.length := by
  cases s with
  | nil => exact absurd rfl h0
  | cons c r =>
    have hc := h c (List.mem_cons_self ..)
    obtain ⟨h1, h2⟩ := digit_not c hc
    unfold step
    rw [show headIs blankB (c :: r) = false from h1, show headIs letterB (c :: r) = false from h2, show headIs digitB (c :: r) = true from hc, if_neg (by decide), if_neg (by decide), if_pos rfl, takeWhile_all h, List.drop_length]
    rfl
theorem toks_digits (s : List UInt8) (h0 : s ≠ []) (h : ∀ c ∈ s, digitB c = true) : toks s = if big < num s then ([], 5, 0) else ([⟨2, s, 0, num s⟩], 0, 0) := by
  have hl : 0 < s.length := by cases s with | nil => exact absurd rfl h0 | cons _ _ => simp
  unfold toks
  have hs := step_digits s h0 h
  by_cases hb : big < num s
  · rw [if_pos hb] at hs ⊢
    rw [scanAt_bad hl (by rw [List.drop_zero]; exact hs)]
  · rw [if_neg hb] at hs ⊢
    rw [scanAt_tok hl (by rw [List.drop_zero]; exact hs), scanAt_end s _ (by omega), List.drop_zero, List.take_length]
    rfl
/-- a number's digits; none for 0 -/
def digs (n : Nat) : List UInt8 := if h : n = 0 then [] else digs (n / 10) ++ [UInt8.ofNat (48 + n % 10)]
termination_by n
decreasing_by omega
theorem digs_zero : digs 0 = [] := by rw [digs]; rfl
theorem digs_pos {n : Nat} (h : n ≠ 0) : digs n = digs (n / 10) ++ [UInt8.ofNat (48 + n % 10)] := by rw [digs, dif_neg h]
theorem dig_toNat (k : Nat) (h : k < 10) : (UInt8.ofNat (48 + k)).toNat = 48 + k := by rw [UInt8.toNat_ofNat']; omega
theorem digs_all (n : Nat) : ∀ c ∈ digs n, digitB c = true := by
  induction n using Nat.strongRecOn with
  | ind n ih =>
    by_cases h : n = 0
    · subst h; rw [digs_zero]; intro c hc; cases hc
    · rw [digs_pos h]
      intro c hc
      rcases List.mem_append.1 hc with h1 | h1
      · exact ih (n / 10) (by omega) c h1
      · rw [List.mem_singleton.1 h1]
        unfold digitB
        rw [dig_toNat _ (by omega)]
        simp only [Bool.and_eq_true, decide_eq_true_eq]
        omega
theorem num_app (a b : List UInt8) (h : num a = 0) : num (a ++ b) = num b := by
  unfold num at *
  rw [List.foldl_append, h]
theorem num_digs (n : Nat) : num (digs n) = n := by
  induction n using Nat.strongRecOn with
  | ind n ih =>
    by_cases h : n = 0
    · subst h; rw [digs_zero]; rfl
    · rw [digs_pos h]
      have e : num (digs (n / 10) ++ [UInt8.ofNat (48 + n % 10)]) = 10 * num (digs (n / 10)) + ((UInt8.ofNat (48 + n % 10)).toNat - 48) := by unfold num; rw [List.foldl_append]; rfl
      rw [e, ih (n / 10) (by omega), dig_toNat _ (by omega)]
      omega
theorem digs_len (k : Nat) : ∀ n, n < 10 ^ k → (digs n).length ≤ k := by
  induction k with
  | zero =>
    intro n h
    have h0 : n = 0 := by simpa using h
    subst h0
    rw [digs_zero]; simp
  | succ k ih =>
    intro n h
    by_cases h0 : n = 0
    · subst h0; rw [digs_zero]; simp
    · rw [digs_pos h0, List.length_append, List.length_singleton]
      have := ih (n / 10) (by rw [Nat.pow_succ] at h; omega)
      omega
def noughts (k : Nat) : List UInt8 := List.replicate k 48
theorem noughts_all (k : Nat) : ∀ c ∈ noughts k, digitB c = true := by
  intro c hc
  rw [List.eq_of_mem_replicate hc]
  rfl
theorem noughts_num (k : Nat) : num (noughts k) = 0 := by
  unfold num noughts
  induction k with
  | zero => rfl
  | succ k ih => rw [List.replicate_succ, List.foldl_cons]; exact ih
/-- a number's digits as the law makes them -/
def dec (n : Nat) : List UInt8 := if n = 0 then [48] else digs n
theorem toks_dec (k n : Nat) : toks (noughts k ++ dec n) = if big < n then ([], 5, 0) else ([⟨2, noughts k ++ dec n, 0, n⟩], 0, 0) := by
  have hd : ∀ c ∈ dec n, digitB c = true := by
    unfold dec
    split
    · intro c hc; rw [List.mem_singleton.1 hc]; rfl
    · exact digs_all n
  have hn : num (dec n) = n := by
    unfold dec
    split
    · rename_i h; rw [h]; rfl
    · exact num_digs n
  have h0 : noughts k ++ dec n ≠ [] := by
    intro h
    have h1 := (List.append_eq_nil_iff.1 h).2
    unfold dec at h1
    split at h1
    · cases h1
    · rename_i h2
      rw [digs_pos h2] at h1
      exact absurd (List.append_eq_nil_iff.1 h1).2 (List.cons_ne_nil _ _)
  have e := toks_digits (noughts k ++ dec n) h0 (fun c hc => by
    rcases List.mem_append.1 hc with h | h
    · exact noughts_all k c h
    · exact hd c h)
  rw [num_app _ _ (noughts_num k), hn] at e
  exact e

/-! ### blanks between words -/
theorem blank_not (c : UInt8) (h : blankB c = true) : behindB c = false ∧ letterB c = false ∧ digitB c = false ∧ c ≠ 61 := by
  unfold blankB at h
  simp only [Bool.or_eq_true, decide_eq_true_eq] at h
  refine ⟨?_, ?_, ?_, ?_⟩
  · unfold behindB letterB digitB
    simp only [Bool.or_eq_false_iff, Bool.and_eq_false_iff, decide_eq_false_iff_not]
    omega
  · unfold letterB
    simp only [Bool.and_eq_false_iff, decide_eq_false_iff_not]
    omega
  · unfold digitB
    simp only [Bool.and_eq_false_iff, decide_eq_false_iff_not]
    omega
  · intro e
    subst e
    revert h
    decide
theorem takeWhile_full {p : UInt8 → Bool} {s : List UInt8} (h : (s.takeWhile p).length = s.length) : s.takeWhile p = s := (List.takeWhile_prefix p).eq_of_length h
theorem takeWhile_stop {p : UInt8 → Bool} {s r : List UInt8} (hs : s.takeWhile p = s) (hr : headIs p r = false) : (s ++ r).takeWhile p = s := by
  have hall : ∀ c ∈ s, p c = true := by
    intro c hc
    have := List.all_takeWhile (p := p) (l := s)
    rw [hs] at this
    exact List.all_eq_true.1 this c hc
  rw [List.takeWhile_append_of_pos hall]
  cases r with
  | nil => simp
  | cons d r => rw [List.takeWhile_cons, if_neg (by rw [show p d = false from hr]; decide), List.append_nil]
/-- does a text end, or go on with a blank? -/
def stops (r : List UInt8) : Prop := r = [] ∨ headIs blankB r = true
theorem stops_no {r : List UInt8} (h : stops r) : headIs behindB r = false ∧ headIs letterB r = false ∧ headIs digitB r = false ∧ r.head? ≠ some 61 := by
  cases r with
  | nil => exact ⟨rfl, rfl, rfl, by simp⟩
  | cons c r =>
    rcases h with h | h
    · cases h
    · obtain ⟨h1, h2, h3, h4⟩ := blank_not c h
      exact ⟨h1, h2, h3, fun e => h4 (Option.some.inj e)⟩
theorem signLen_le (s : List UInt8) : signLen s ≤ 2 := by
  cases s with
  | nil => simp [signLen]
  | cons c r => simp only [signLen]; split <;> (try split) <;> omega
theorem step_app {s r : List UInt8} {kd n : Nat} (h : step s = .tok kd n s.length) (hr : stops r) : step (s ++ r) = .tok kd n s.length := by
  obtain ⟨r1, r2, r3, r4⟩ := stops_no hr
  cases s with
  | nil => have := (step_len h).1; simp at this
  | cons c t =>
    have hp : ∀ p : UInt8 → Bool, headIs p (c :: t ++ r) = headIs p (c :: t) := fun p => rfl
    unfold step at h ⊢
    rw [hp, hp, hp]
    split at h
    · cases h
    · rename_i hb
      rw [if_neg hb]
      split at h
      · rename_i hl
        rw [if_pos hl]
        split at h
        · cases h
        · injection h with h1 h2 h3
          have hf := takeWhile_full h3
          rw [takeWhile_stop hf r1]
          rename_i h31
          rw [hf] at h31 h1
          rw [if_neg h31, h1, h2]
      · rename_i hl
        rw [if_neg hl]
        split at h
        · rename_i hd
          rw [if_pos hd]
          split at h
          · cases h
          · rename_i hov
            split at h
            · cases h
            · injection h with h1 h2 h3
              have hf := takeWhile_full h3
              rw [takeWhile_stop hf r3]
              rw [hf] at hov h2
              rw [if_neg hov, List.drop_left, if_neg (by rw [r2]; decide), h1, h2]
        · rename_i hd
          rw [if_neg hd]
          split at h
          · cases h
          · injection h with h1 h2 h3
            have h4 : signLen (c :: t ++ r) = (c :: t).length := by
              rw [← h3]
              cases t with
              | nil =>
                simp only [signLen, List.cons_append, List.nil_append]
                split
                · first | (rw [if_neg r4, if_neg (by simp)]) | simp
                · rfl
              | cons d t => rfl
            rw [h4, if_neg (by simp), h1, h2]
theorem step_take {s : List UInt8} {kd n k : Nat} (h : step s = .tok kd n k) : step (s.take k) = .tok kd n k := by
  have hlen := step_len h
  cases s with
  | nil => simp at hlen; omega
  | cons c t =>
    obtain ⟨m, rfl⟩ : ∃ m, k = m + 1 := ⟨k - 1, by omega⟩
    have hp : ∀ p : UInt8 → Bool, headIs p ((c :: t).take (m + 1)) = headIs p (c :: t) := fun p => rfl
    unfold step at h ⊢
    rw [hp, hp, hp]
    split at h
    · cases h
    · rename_i hb
      rw [if_neg hb]
      split at h
      · rename_i hl
        rw [if_pos hl]
        split at h
        · cases h
        · rename_i h31
          injection h with h1 h2 h3
          have e : (c :: t).take (m + 1) = (c :: t).takeWhile behindB := by rw [← h3]; exact (List.prefix_iff_eq_take.1 (List.takeWhile_prefix _)).symm
          have e2 : ((c :: t).takeWhile behindB).takeWhile behindB = (c :: t).takeWhile behindB := takeWhile_all (fun x hx => List.all_eq_true.1 List.all_takeWhile x hx)
          rw [e, e2, if_neg h31, h1, h2, h3]
      · rename_i hl
        rw [if_neg hl]
        split at h
        · rename_i hd
          rw [if_pos hd]
          split at h
          · cases h
          · rename_i hov
            split at h
            · cases h
            · injection h with h1 h2 h3
              have e : (c :: t).take (m + 1) = (c :: t).takeWhile digitB := by rw [← h3]; exact (List.prefix_iff_eq_take.1 (List.takeWhile_prefix _)).symm
              have e2 : ((c :: t).takeWhile digitB).takeWhile digitB = (c :: t).takeWhile digitB := takeWhile_all (fun x hx => List.all_eq_true.1 List.all_takeWhile x hx)
              rw [e, e2, if_neg hov, List.drop_length, if_neg (by decide), h1, h2, h3]
        · rename_i hd
          rw [if_neg hd]
          split at h
          · cases h
          · rename_i hs0
            injection h with h1 h2 h3
            have h4 : signLen ((c :: t).take (m + 1)) = m + 1 := by
              simp only [signLen] at h3
              show signLen (c :: t.take m) = m + 1
              simp only [signLen]
              split at h3
              · rename_i hc
                rw [if_pos hc]
                split at h3
                · rename_i ht
                  obtain rfl : m = 1 := by omega
                  cases t with
                  | nil => cases ht
                  | cons d t => rw [if_pos (show ((d :: t).take 1).head? = some 61 from ht)]
                · obtain rfl : m = 0 := by omega
                  rw [if_neg (by simp)]
              · rename_i hc
                rw [if_neg hc]
                split at h3
                · rename_i hc2
                  rw [if_pos hc2]; omega
                · omega
            rw [h4, if_neg (by omega), h1, h2]
/-- a word alone is that word -/
def Valid (t : T) : Prop := step t.text = .tok t.kind t.n t.text.length
theorem scanAt_valid (s : List UInt8) : ∀ i, ∀ t ∈ (scanAt s i).1, Valid t := by
  refine scanAt_ind s _ (fun i h => ?_) (fun i h hs ih => ?_) (fun i e o h hs => ?_) (fun i kd n k h hs ih => ?_)
  · rw [scanAt_end s i h]; intro t ht; cases ht
  · rw [scanAt_blank h hs]; exact ih
  · rw [scanAt_bad h hs]; intro t ht; cases ht
  · rw [scanAt_tok h hs]
    unfold also
    split
    · intro t ht
      rcases List.mem_cons.1 ht with rfl | h2
      · have hk := step_len hs
        have hl : ((s.drop i).take k).length = k := by rw [List.length_take]; omega
        show step ((s.drop i).take k) = .tok kd n ((s.drop i).take k).length
        rw [hl]
        exact step_take hs
      · exact ih t h2
    · intro t ht; cases ht
/-- words with blanks ahead of each -/
def spaced : List (List UInt8 × T) → List UInt8
  | [] => []
  | x :: L => x.1 ++ (x.2.text ++ spaced L)
def Apart (L : List (List UInt8 × T)) : Prop := ∀ x ∈ L, x.1 ≠ [] ∧ (∀ c ∈ x.1, blankB c = true) ∧ Valid x.2
theorem spaced_stops (L : List (List UInt8 × T)) (h : Apart L) : stops (spaced L) := by
  cases L with
  | nil => exact .inl rfl
  | cons x L =>
    obtain ⟨h1, h2, _⟩ := h x (List.mem_cons_self ..)
    refine .inr ?_
    show headIs blankB (x.1 ++ (x.2.text ++ spaced L)) = true
    cases hx : x.1 with
    | nil => exact absurd hx h1
    | cons c b => exact h2 c (by rw [hx]; exact List.mem_cons_self ..)
theorem scan_step {s : List UInt8} {p kd n k : Nat} (hs : step s = .tok kd n k) : scan s.length s p = also [⟨kd, s.take k, p, n⟩] (scan (s.drop k).length (s.drop k) (p + k)) := by
  have hk := step_len hs
  have hne : s ≠ [] := fun e => by subst e; simp at hk; omega
  obtain ⟨m, hm⟩ : ∃ m, s.length = m + 1 := ⟨s.length - 1, by omega⟩
  rw [hm]
  show (if s = [] then _ else _) = _
  rw [if_neg hne, hs]
  show also _ (scan m (s.drop k) (p + k)) = _
  rw [scan_any m m (s.drop k).length _ _ (by rw [List.length_drop]; omega) (by rw [List.length_drop]; omega) (Nat.le_refl _)]
theorem scan_blanks (b r : List UInt8) (hb : ∀ c ∈ b, blankB c = true) : ∀ p, scan (b ++ r).length (b ++ r) p = scan r.length r (p + b.length) := by
  induction b with
  | nil => intro p; rfl
  | cons c b ih =>
    intro p
    have hc := hb c (List.mem_cons_self ..)
    have hs : step (c :: b ++ r) = .blank := by unfold step; rw [if_pos (show headIs blankB (c :: b ++ r) = true from hc)]
    have e : scan (c :: b ++ r).length (c :: b ++ r) p = scan (b ++ r).length (b ++ r) (p + 1) := by
      show (if c :: b ++ r = [] then _ else _) = _
      rw [if_neg (by simp), hs]
      rfl
    rw [e, ih (fun x hx => hb x (List.mem_cons_of_mem _ hx)), List.length_cons]
    congr 1
    omega
theorem scan_spaced (L : List (List UInt8 × T)) : ∀ p, Apart L → ∃ l, scan (spaced L).length (spaced L) p = (l, 0, 0) ∧ l.map (fun t => (t.kind, t.text, t.n)) = L.map (fun x => (x.2.kind, x.2.text, x.2.n)) := by
  induction L with
  | nil => intro p _; exact ⟨[], rfl, rfl⟩
  | cons x L ih =>
    intro p h
    obtain ⟨h1, h2, h3⟩ := h x (List.mem_cons_self ..)
    have hL : Apart L := fun y hy => h y (List.mem_cons_of_mem _ hy)
    obtain ⟨l, e1, e2⟩ := ih (p + x.1.length + x.2.text.length) hL
    have hs := step_app h3 (spaced_stops L hL)
    refine ⟨⟨x.2.kind, x.2.text, p + x.1.length, x.2.n⟩ :: l, ?_, by rw [List.map_cons, List.map_cons, e2]⟩
    show scan (x.1 ++ (x.2.text ++ spaced L)).length (x.1 ++ (x.2.text ++ spaced L)) p = _
    rw [scan_blanks _ _ h2, scan_step hs, List.drop_left, List.take_left, e1]
    rfl
theorem toks_spaced (L : List (List UInt8 × T)) (h : Apart L) : ∃ l, toks (spaced L) = (l, 0, 0) ∧ l.map (fun t => (t.kind, t.text, t.n)) = L.map (fun x => (x.2.kind, x.2.text, x.2.n)) := scan_spaced L 0 h

/-! ### two signs beside each other -/
def signs10 : List UInt8 := [60, 62, 61, 47, 43, 45, 42, 40, 41, 44]
def joinedOK (a b : Fin 10) : Bool :=
  let x := signs10[a.val]!
  let y := signs10[b.val]!
  let t := (toks [105, x, y, 55])
  t.2.1 == 0 && (if y == 61 && (x == 60 || x == 62 || x == 61 || x == 47) then t.1.length == 3 && (t.1[1]?).map (·.text) == some [x, y] && (t.1[2]?).map (·.n) == some 7 && (t.1[2]?).map (·.pos) == some 3 else t.1.length == 4 && (t.1[1]?).map (·.text) == some [x] && (t.1[2]?).map (·.text) == some [y] && (t.1[3]?).map (·.n) == some 7 && (t.1[1]?).map (·.kind) == some 3 && (t.1[3]?).map (·.pos) == some 3)
theorem joined_all : ∀ a b : Fin 10, joinedOK a b = true := by decide +kernel
end Go.Proofs.YtdpjipphbhomkaaGreatDoor.Words

namespace Go.Proofs.YtdpjipphbhomkaaGreatDoor.Words
set_option linter.unusedVariables false

/-- the word that a text begins with (its place is told later), and what is wrong; 0: nothing -/
def first (s : List UInt8) : T × Nat :=
  if headIs letterB s then (if isKey (s.takeWhile behindB) then (⟨4, s.takeWhile behindB, 0, 0⟩, 0) else if 31 < (s.takeWhile behindB).length then (⟨0, [], 0, 0⟩, 4) else (⟨1, s.takeWhile behindB, 0, 0⟩, 0))
  else if headIs digitB s then (if big < num (s.takeWhile digitB) then (⟨0, [], 0, 0⟩, 5) else (⟨2, s.takeWhile digitB, 0, num (s.takeWhile digitB)⟩, 0))
  else if signLen s = 0 then (⟨0, [], 0, 0⟩, 3) else (⟨3, s.take (signLen s), 0, 0⟩, 0)
/-- does a word of that kind cling to the words ahead? -/
def clingsB (l : List T) (k : Nat) : Bool := (match l.getLast? with | some t => decide (t.kind = 2) | none => false) && (decide (k = 1) || decide (k = 4))
/-- what may be told in place of what -/
def Near (e e' : Nat) : Prop := e' = e ∨ (e = 3 ∧ e' = 4)
theorem Near.same {e e' : Nat} (h : Near e e') (h3 : e ≠ 3) : e' = e := by
  rcases h with h | ⟨h, _⟩
  · exact h
  · exact absurd h h3
theorem isKey_len {s : List UInt8} (h : isKey s = true) : s.length ≤ 7 := by
  unfold isKey at h
  rw [List.contains_iff_mem] at h
  simp only [keys, List.mem_cons, List.not_mem_nil, or_false] at h
  rcases h with rfl | rfl | rfl | rfl | rfl | rfl | rfl | rfl <;> decide
theorem first_tok {s : List UInt8} {kd n k : Nat} (h : step s = .tok kd n k) : first s = (⟨kd, s.take k, 0, n⟩, 0) ∧ (kd = 1 ∨ kd = 4 → headIs letterB s = true) ∧ (kd = 2 → headIs letterB (s.drop k) = false) := by
  unfold step at h
  unfold first
  split at h
  · cases h
  · split at h
    · rename_i hl
      rw [if_pos hl]
      split at h
      · cases h
      · rename_i h31
        injection h with h1 h2 h3
        have e : s.take k = s.takeWhile behindB := by rw [← h3]; exact (List.prefix_iff_eq_take.1 (List.takeWhile_prefix _)).symm
        subst h2
        rw [e]
        split
        · rename_i hk
          rw [if_pos hk] at h1
          subst h1
          exact ⟨rfl, fun _ => hl, fun h => by cases h⟩
        · rename_i hk
          rw [if_neg hk] at h1
          subst h1
          exact ⟨rfl, fun _ => hl, fun h => by cases h⟩
    · rename_i hl
      rw [if_neg hl]
      split at h
      · rename_i hd
        rw [if_pos hd]
        split at h
        · cases h
        · rename_i hov
          split at h
          · cases h
          · rename_i hlt
            injection h with h1 h2 h3
            have e : s.take k = s.takeWhile digitB := by rw [← h3]; exact (List.prefix_iff_eq_take.1 (List.takeWhile_prefix _)).symm
            rw [if_neg hov, e]
            subst h1
            refine ⟨by rw [h2], fun h => by omega, fun _ => ?_⟩
            rw [← h3]
            simpa using hlt
      · rename_i hd
        rw [if_neg hd]
        split at h
        · cases h
        · rename_i hs
          injection h with h1 h2 h3
          rw [if_neg hs, h3]
          subst h1
          subst h2
          exact ⟨rfl, fun h => by omega, fun h => by cases h⟩
theorem first_bad {s : List UInt8} {e o : Nat} (h : step s = .bad e o) : (first s = (⟨0, [], 0, 0⟩, e) ∧ o = 0) ∨ (∃ n, first s = (⟨2, s.take o, 0, n⟩, 0) ∧ 0 < o ∧ o ≤ s.length ∧ e = 3 ∧ headIs letterB (s.drop o) = true) := by
  unfold step at h
  unfold first
  split at h
  · cases h
  · split at h
    · rename_i hl
      rw [if_pos hl]
      split at h
      · rename_i h31
        injection h with h1 h2
        left
        rw [if_neg (fun hk => by have := isKey_len hk; omega), if_pos h31, h1]
        exact ⟨rfl, h2.symm⟩
      · cases h
    · rename_i hl
      rw [if_neg hl]
      split at h
      · rename_i hd
        rw [if_pos hd]
        split at h
        · rename_i hov
          injection h with h1 h2
          left
          rw [if_pos hov, h1]
          exact ⟨rfl, h2.symm⟩
        · rename_i hov
          split at h
          · rename_i hlt
            injection h with h1 h2
            right
            have e2 : s.take o = s.takeWhile digitB := by rw [← h2]; exact (List.prefix_iff_eq_take.1 (List.takeWhile_prefix _)).symm
            rw [if_neg hov, e2]
            refine ⟨_, rfl, ?_, ?_, h1.symm, by rw [← h2]; exact hlt⟩
            · rw [← h2]; exact takeWhile_pos hd
            · rw [← h2]; exact (List.takeWhile_prefix _).length_le
          · cases h
      · rename_i hd
        rw [if_neg hd]
        split at h
        · rename_i hs
          injection h with h1 h2
          left
          rw [if_pos hs, h1]
          exact ⟨rfl, h2.symm⟩
        · cases h
/-- what stands behind some rounds: the words so far, and from where on one goes on -/
def Inv (s : List UInt8) (done : List T) (e : Nat) : Prop :=
  (also done (scanAt s e) = toks s ∧ ((∃ t, done.getLast? = some t ∧ t.kind = 2) → headIs letterB (s.drop e) = false)) ∨
  ((∃ t, done.getLast? = some t ∧ t.kind = 2) ∧ headIs letterB (s.drop e) = true ∧ toks s = ([], 3, e))
theorem inv_start (s : List UInt8) : Inv s [] 0 := by
  left
  refine ⟨?_, fun ⟨t, h, _⟩ => by cases h⟩
  exact also_nil _ (scanAt_form s 0).1 (scanAt_form s 0).2
theorem skip_blanks (s : List UInt8) : ∀ (n e : Nat), ((s.drop e).takeWhile blankB).length = n → scanAt s e = scanAt s (e + n) ∧ headIs blankB (s.drop (e + n)) = false := by
  intro n
  induction n with
  | zero =>
    intro e h
    refine ⟨rfl, ?_⟩
    rw [Nat.add_zero]
    cases hd : s.drop e with
    | nil => rfl
    | cons c r =>
      rw [hd, List.takeWhile_cons] at h
      show blankB c = false
      by_cases hb : blankB c = true
      · rw [if_pos hb] at h; simp at h
      · simpa using hb
  | succ n ih =>
    intro e h
    have he : e < s.length := by
      rcases Nat.lt_or_ge e s.length with h1 | h1
      · exact h1
      · rw [List.drop_of_length_le h1] at h; simp at h
    rw [List.drop_eq_getElem_cons he, List.takeWhile_cons] at h
    by_cases hb : blankB s[e] = true
    · rw [if_pos hb, List.length_cons] at h
      obtain ⟨h1, h2⟩ := ih (e + 1) (by omega)
      have hs : step (s.drop e) = .blank := by unfold step; rw [List.drop_eq_getElem_cons he, if_pos (show headIs blankB (s[e] :: s.drop (e + 1)) = true from hb)]
      rw [scanAt_blank he hs, show e + (n + 1) = e + 1 + n by omega]
      exact ⟨h1, h2⟩
    · rw [if_neg hb] at h; simp at h
theorem letter_blank {s : List UInt8} (h : headIs letterB s = true) : headIs blankB s = false := by
  cases s with
  | nil => cases h
  | cons c r =>
    have h : letterB c = true := h
    show blankB c = false
    by_cases hb : blankB c = true
    · have := (blank_not c hb).2.1; rw [this] at h; cases h
    · simpa using hb
theorem takeWhile_none {p : UInt8 → Bool} {s : List UInt8} (h : headIs p s = false) : (s.takeWhile p).length = 0 := by
  cases s with
  | nil => rfl
  | cons c r => rw [List.takeWhile_cons, if_neg (by rw [show p c = false from h]; decide)]; rfl
theorem clings_iff (l : List T) (k : Nat) : clingsB l k = true ↔ (∃ t, l.getLast? = some t ∧ t.kind = 2) ∧ (k = 1 ∨ k = 4) := by
  unfold clingsB
  cases h : l.getLast? with
  | none => simp
  | some t => simp
theorem first_letter {s : List UInt8} (h : headIs letterB s = true) : (∃ t, first s = (t, 0) ∧ (t.kind = 1 ∨ t.kind = 4)) ∨ first s = (⟨0, [], 0, 0⟩, 4) := by
  unfold first
  rw [if_pos h]
  split
  · exact .inl ⟨_, rfl, .inr rfl⟩
  · split
    · exact .inr rfl
    · exact .inl ⟨_, rfl, .inl rfl⟩
/-- one round more -/
theorem round (s : List UInt8) (done : List T) (e a : Nat) (h : Inv s done e) (he : e ≤ s.length) (ha : e + ((s.drop e).takeWhile blankB).length = a) :
    (a = s.length → toks s = (done, 0, 0)) ∧ (a < s.length →
      (∃ t, first (s.drop a) = (t, 0) ∧ a = e ∧ clingsB done t.kind = true ∧ toks s = ([], 3, a)) ∨
      (∃ t, first (s.drop a) = (t, 0) ∧ ¬ (a = e ∧ clingsB done t.kind = true) ∧ Inv s (done ++ [⟨t.kind, t.text, a, t.n⟩]) (a + t.text.length) ∧ 0 < t.text.length ∧ a + t.text.length ≤ s.length) ∨
      (∃ err, first (s.drop a) = (⟨0, [], 0, 0⟩, err) ∧ err ≠ 0 ∧ (toks s).1 = [] ∧ (toks s).2.2 = a ∧ Near (toks s).2.1 err)) := by
  rcases h with ⟨h1, h2⟩ | ⟨h1, h2, h3⟩
  · obtain ⟨k1, k2⟩ := skip_blanks s _ e rfl
    rw [ha] at k1 k2
    rw [k1] at h1
    constructor
    · intro hl
      rw [scanAt_end s a (by omega)] at h1
      rw [← h1]
      unfold also
      simp
    · intro hl
      cases hs : step (s.drop a) with
      | blank => have := step_blank hs; rw [k2] at this; cases this
      | tok kd n k =>
        obtain ⟨f1, f2, f3⟩ := first_tok hs
        have hk := step_len hs
        rw [List.length_drop] at hk
        have hlen : ((s.drop a).take k).length = k := by rw [List.length_take, List.length_drop]; omega
        right; left
        refine ⟨_, f1, ?_, ?_, by show 0 < ((s.drop a).take k).length; omega, by show a + ((s.drop a).take k).length ≤ s.length; omega⟩
        · rintro ⟨rfl, hc⟩
          obtain ⟨c1, c2⟩ := (clings_iff _ _).1 hc
          have := h2 c1
          rw [f2 c2] at this
          cases this
        · show Inv s (done ++ [⟨kd, (s.drop a).take k, a, n⟩]) (a + ((s.drop a).take k).length)
          rw [hlen]
          left
          constructor
          · rw [← h1, scanAt_tok hl hs, also_also]
          · rintro ⟨t, ht, hk2⟩
            rw [List.getLast?_append] at ht
            simp at ht
            subst ht
            have := f3 hk2
            rwa [List.drop_drop] at this
      | bad er o =>
        have hb := scanAt_bad hl hs
        rw [hb] at h1
        have her := step_err hs
        have ht : toks s = ([], er, a + o) := by
          rw [← h1]
          unfold also
          rw [if_neg (by show er ≠ 0; omega)]
        rcases first_bad hs with ⟨f1, rfl⟩ | ⟨n, f1, f2, f3, rfl, f5⟩
        · right; right
          exact ⟨er, f1, by omega, by rw [ht], by rw [ht]; rfl, by rw [ht]; exact .inl rfl⟩
        · right; left
          rw [List.length_drop] at f3
          have hlen : ((s.drop a).take o).length = o := by rw [List.length_take, List.length_drop]; omega
          refine ⟨_, f1, ?_, ?_, by show 0 < ((s.drop a).take o).length; omega, by show a + ((s.drop a).take o).length ≤ s.length; omega⟩
          · rintro ⟨_, hc⟩
            obtain ⟨_, c2⟩ := (clings_iff _ _).1 hc
            simp at c2
          · show Inv s (done ++ [⟨2, (s.drop a).take o, a, n⟩]) (a + ((s.drop a).take o).length)
            rw [hlen]
            right
            refine ⟨⟨_, by rw [List.getLast?_append]; simp; rfl, rfl⟩, ?_, ht⟩
            rwa [List.drop_drop] at f5
  · have h0 := takeWhile_none (letter_blank h2)
    rw [h0, Nat.add_zero] at ha
    subst ha
    have hl : e < s.length := by
      rcases Nat.lt_or_ge e s.length with h | h
      · exact h
      · rw [List.drop_of_length_le h] at h2; cases h2
    refine ⟨fun h => by omega, fun _ => ?_⟩
    rcases first_letter h2 with ⟨t, f1, f2⟩ | f1
    · exact .inl ⟨t, f1, rfl, (clings_iff _ _).2 ⟨h1, f2⟩, h3⟩
    · exact .inr (.inr ⟨4, f1, by decide, by rw [h3], by rw [h3], by rw [h3]; exact .inr ⟨rfl, rfl⟩⟩)
end Go.Proofs.YtdpjipphbhomkaaGreatDoor.Words

namespace Go.Proofs.YtdpjipphbhomkaaGreatDoor.Line
open Go.ChangeShapes Go.WideShapes Go.ChangeAt Go.RowKit
set_option linter.unusedVariables false

/-- a word whose place is not told yet, as a value -/
def tokA (t : Words.T) : Value := .agg #[.int .i64 t.kind, .string ⟨t.text.toArray⟩, .int .i64 0, .int .i64 t.n]
/-- an Errno, or none, as a value -/
def errV (e : Nat) : Value := if e = 0 then .nilIface else .iface 93 (.int .i64 e)
def lettersW (s : List UInt8) : Words.T × Nat := if Words.isKey s then (⟨4, s, 0, 0⟩, 0) else if 31 < s.length then (⟨0, [], 0, 0⟩, 4) else (⟨1, s, 0, 0⟩, 0)

abbrev zeroTok : Array Value := #[.int .i64 0, .string ⟨#[]⟩, .int .i64 0, .int .i64 0]
set_option maxHeartbeats 2000000 in
theorem letters_any (l : List UInt8) (w : World) (hl : l.length ≤ 1000000) : Calls Tryz.prog 89 #[.string ⟨l.toArray⟩] w fun e w' => e = .returned (.tuple #[tokA (lettersW l).1, errV (lettersW l).2]) ∧ Below w.heap.size w w' := by
  have HK := hide (isKeyD_any l)
  unfold lettersW
  by_cases hk : Words.isKey l = true
  · rw [if_pos hk]
    rw [hk] at HK
    clear hk
    go_enter Tryz.func89, Tryz.ntmps89
    go_wp2_with (go_at_call 125; refine (unhide HK _).mono ?_; rintro ev w1 ⟨rfl, hw⟩; have hw := hw.symm; subst hw)
    exact bodyPost_ret (v := .tuple #[tokA ⟨4, l, 0, 0⟩, errV 0]) (by simp [results, Tryz.results89, go_sem, tokA, errV]) rfl ⟨rfl, alloc_below _ _⟩
  · rw [if_neg hk]
    replace hk : Words.isKey l = false := by simpa using hk
    rw [hk] at HK
    clear hk
    by_cases h31 : 31 < l.length
    · rw [if_pos h31]
      have q1 : decide (31 < l.length) = true := decide_eq_true h31
      go_enter Tryz.func89, Tryz.ntmps89
      go_wp2_with (go_at_call 125; refine (unhide HK _).mono ?_; rintro ev w1 ⟨rfl, hw⟩; have hw := hw.symm; subst hw)
      exact bodyPost_ret (v := .tuple #[tokA ⟨0, [], 0, 0⟩, errV 4]) (by simp [results, Tryz.results89, go_sem, tokA, errV]) rfl ⟨rfl, alloc_below _ _⟩
    · rw [if_neg h31]
      have q1 : decide (31 < l.length) = false := decide_eq_false h31
      go_enter Tryz.func89, Tryz.ntmps89
      go_wp2_with (go_at_call 125; refine (unhide HK _).mono ?_; rintro ev w1 ⟨rfl, hw⟩; have hw := hw.symm; subst hw)
      exact bodyPost_ret (v := .tuple #[tokA ⟨1, l, 0, 0⟩, errV 0]) (by simp [results, Tryz.results89, go_sem, tokA, errV]) rfl ⟨rfl, alloc_below _ _⟩

def digitsW (s : List UInt8) : Words.T × Nat := if Words.big < Words.num s then (⟨0, [], 0, 0⟩, 5) else (⟨2, s, 0, Words.num s⟩, 0)
set_option maxHeartbeats 4000000 in
set_option maxRecDepth 100000 in
theorem digits_any (l : List UInt8) (hd : ∀ i (h : i < l.length), Words.digitB l[i] = true) (hl : l.length ≤ 1000000) (w : World) : Calls Tryz.prog 93 #[.string ⟨l.toArray⟩] w fun e w' => e = .returned (.tuple #[tokA (digitsW l).1, errV (digitsW l).2]) ∧ Below w.heap.size w w' := by
  have hsz : ((⟨l.toArray⟩ : ByteArray).size : Int) = l.length := rfl
  have HD := hide hd
  clear hd
  obtain ⟨ans, hans⟩ : ∃ a, Ending.returned (.tuple #[tokA (digitsW l).1, errV (digitsW l).2]) = a := ⟨_, rfl⟩
  rw [hans]
  have HANS := hide hans
  clear hans
  go_enter Tryz.func93, Tryz.ntmps93
  go_wp2
  go_loopw [4, 10] (fun x q wr => ∃ i : Nat, i ≤ l.length ∧ q = .int .i64 i ∧ x = .int .i64 (Words.num (l.take i) : Int) ∧ wr = w.alloc (.cells zeroTok 116) ∧ Hid (Words.num (l.take i) ≤ Words.big)) (fun _ q _ => l.length - (intOf q).toNat)
  case atStart => exact ⟨0, Nat.zero_le _, rfl, rfl, rfl, hide (Nat.zero_le _)⟩
  case round =>
    obtain ⟨i, hi, rfl, rfl, rfl, HB⟩ := hrel
    by_cases hlt : i < l.length
    · have hs : i < (⟨l.toArray⟩ : ByteArray).size := hlt
      have hbv : (((⟨l.toArray⟩ : ByteArray)[i]'hs).toNat : Int) = (l[i].toNat : Int) := rfl
      have hlt2 : (i : Int) < l.length := by omega
      have hdg := unhide HD i hlt
      unfold Words.digitB at hdg
      simp only [Bool.and_eq_true, decide_eq_true_eq] at hdg
      have HNT := hide (num_take l i hlt)
      have HLE := hide (num_le l (i + 1))
      have hnb := unhide HB
      generalize hnn : l[i].toNat = n at *
      generalize Words.num (l.take i) = m at *
      obtain ⟨d, rfl⟩ : ∃ d, n = d + 48 := ⟨n - 48, by omega⟩
      have hd9 : d ≤ 9 := by omega
      unfold Words.big at hnb
      clear hdg
      have e1 : ((d + 48 : Nat) : Int) - 48 = d := by omega
      have HM := hide (fun W => mul_any (m : Int) 10 W (by omega) (by omega) (by omega) (by omega))
      by_cases hov : 10 * m ≤ 9223372036854775807
      · rw [fitV_in (by omega) (by omega), fitO_in (by omega) (by omega), show (m : Int) * 10 = ((10 * m : Nat) : Int) by omega] at HM
        have HA := hide (fun W => add_any ((10 * m : Nat) : Int) (d : Int) W (by omega) (by omega) (by omega) (by omega))
        obtain ⟨mm, hmm⟩ : ∃ mm, 10 * m = mm := ⟨_, rfl⟩
        rw [hmm] at HM HA
        by_cases hov2 : mm + d ≤ 9223372036854775807
        · rw [fitV_in (by omega) (by omega), fitO_in (by omega) (by omega), show (mm : Int) + (d : Int) = ((mm + d : Nat) : Int) by omega] at HA
          go_wp2_with (first | (go_at_call 126; refine (unhide HM _).mono ?_; rintro ev w1 ⟨rfl, hw⟩; have hw := hw.symm; subst hw) | (go_at_call 127; refine (unhide HA _).mono ?_; rintro ev w1 ⟨rfl, hw⟩; have hw := hw.symm; subst hw))
          go_roundw
          case rel => exact ⟨i + 1, by omega, by go_num, by rw [unhide HNT, show d + 48 - 48 = d by omega, hmm]; simp, trivial, hide (by rw [unhide HNT]; unfold Words.big; omega)⟩
          case measure => simp [intOf]; omega
        · rw [fitV_out (by omega), fitO_out (by omega)] at HA
          have HOV : Hid (Words.big < Words.num l) := hide (by have h1 := unhide HNT; have h2 := unhide HLE; unfold Words.big; omega)
          go_wp2_with (first | (go_at_call 126; refine (unhide HM _).mono ?_; rintro ev w1 ⟨rfl, hw⟩; have hw := hw.symm; subst hw) | (go_at_call 127; refine (unhide HA _).mono ?_; rintro ev w1 ⟨rfl, hw⟩; have hw := hw.symm; subst hw))
          refine bodyPost_ret (v := .tuple #[tokA ⟨0, [], 0, 0⟩, errV 5]) (by simp [results, Tryz.results93, go_sem, tokA, errV]) rfl ⟨?_, alloc_below _ _⟩
          rw [← unhide HANS]
          unfold digitsW
          rw [if_pos (unhide HOV)]
      · rw [fitV_out (by omega), fitO_out (by omega)] at HM
        have HOV : Hid (Words.big < Words.num l) := hide (by have h1 := unhide HNT; have h2 := unhide HLE; unfold Words.big; omega)
        go_wp2_with (first | (go_at_call 126; refine (unhide HM _).mono ?_; rintro ev w1 ⟨rfl, hw⟩; have hw := hw.symm; subst hw))
        refine bodyPost_ret (v := .tuple #[tokA ⟨0, [], 0, 0⟩, errV 5]) (by simp [results, Tryz.results93, go_sem, tokA, errV]) rfl ⟨?_, alloc_below _ _⟩
        rw [← unhide HANS]
        unfold digitsW
        rw [if_pos (unhide HOV)]
    · have hil : i = l.length := by omega
      have HQ : Hid (l.take i = l) := hide (by rw [hil, List.take_length])
      have hnb := unhide HB
      rw [unhide HQ] at hnb
      have HNB := hide hnb
      rw [unhide HQ]
      generalize hm : Words.num l = m at *
      clear hil
      have HM := hide hm
      clear hm
      go_wp2
      refine bodyPost_ret (v := .tuple #[tokA ⟨2, l, 0, m⟩, errV 0]) (by simp [results, Tryz.results93, go_sem, tokA, errV]) rfl ⟨?_, alloc_below _ _⟩
      rw [← unhide HANS]
      unfold digitsW
      rw [unhide HM, if_neg (by have := unhide HNB; omega)]

theorem clings_nil (k : Nat) : Words.clingsB [] k = false := rfl
theorem clings_last (l : List Words.T) (m : Nat) (h : l.length = m + 1) (k : Nat) : Words.clingsB l k = (decide ((l[m]'(by omega)).kind = 2) && (decide (k = 1) || decide (k = 4))) := by
  unfold Words.clingsB
  rw [List.getLast?_eq_getElem?, show l.length - 1 = m by omega, List.getElem?_eq_getElem (by omega)]
set_option maxHeartbeats 4000000 in
theorem clings_any (u : Value) (l : List Words.T) (t : Words.T) (w : World) (hT : Tks w u l) (hl : l.length ≤ 1000000) : Calls Tryz.prog 51 #[u, tokA t] w fun e w' => e = .returned (.bool (Words.clingsB l t.kind)) ∧ Below w.heap.size w w' := by
  unfold tokA
  have hT2 := hT.below (alloc_below w (.cells #[.int .i64 t.kind, .string ⟨t.text.toArray⟩, .int .i64 0, .int .i64 t.n] 116))
  have hB := alloc_below w (.cells #[.int .i64 t.kind, .string ⟨t.text.toArray⟩, .int .i64 0, .int .i64 t.n] 116)
  have HB := hide hB
  clear hB
  have c0 : (w.alloc (.cells #[.int .i64 t.kind, .string ⟨t.text.toArray⟩, .int .i64 0, .int .i64 t.n] 116)).cell? ⟨w.heap.size, 0, none⟩ = some (.int .i64 t.kind) := by simp
  by_cases h0 : l.length = 0
  · obtain rfl : l = [] := List.length_eq_zero_iff.1 h0
    obtain ⟨a, c, rfl⟩ := hT.shape
    rw [clings_nil]
    clear hT hT2 h0 c0
    go_enter Tryz.func51, Tryz.ntmps51
    go_wp2
    go_ret
    exact ⟨rfl, unhide HB⟩
  · obtain ⟨m, hm⟩ : ∃ m, l.length = m + 1 := ⟨l.length - 1, by omega⟩
    rw [clings_last l m hm]
    rcases hT2 with ⟨_, _, _, hnil⟩ | ⟨b, off, cap, rfl, hcap, hcells⟩
    · exact absurd (by rw [hnil]; rfl) h0
    obtain ⟨d0, -, -, -⟩ := hcells m (by omega)
    clear hcells hT h0
    generalize (l[m]'(by omega)).kind = lk at *
    generalize l.length = n at *
    have e1 : (n : Int) - 1 = m := by omega
    have e2 : ((n : Int) == 0) = false := by rw [beq_eq_false_iff_ne]; omega
    have e3 : ¬ (n : Int) = 0 := by omega
    have hm1 : m + 1 ≤ cap := by omega
    have hm2 : (m : Int) < n := by omega
    have hm3 : m ≤ 1000000 := by omega
    clear hm
    generalize t.kind = k at *
    by_cases g1 : lk = 2
    · subst g1
      by_cases g2 : k = 1
      · have k1 : (k : Int) = 1 := by omega
        have HG := hide g2
        rw [k1] at c0 HB d0 ⊢
        clear k1 g2
        go_enter Tryz.func51, Tryz.ntmps51
        go_wp2
        go_ret
        exact ⟨ret_bool (by rw [unhide HG]; rfl), unhide HB⟩
      · have k1 : ((k : Int) == 1) = false := by rw [beq_eq_false_iff_ne]; omega
        go_enter Tryz.func51, Tryz.ntmps51
        go_wp2
        go_ret
        refine ⟨ret_bool ?_, unhide HB⟩
        by_cases g3 : k = 4
        · subst g3; rfl
        · have k4 : ((k : Int) == 4) = false := by rw [beq_eq_false_iff_ne]; omega
          simp [g2, g3, k4]
    · have k2 : ((lk : Int) != 2) = true := by rw [bne_iff_ne]; omega
      have k3 : ¬ (lk : Int) = 2 := by omega
      rw [decide_eq_false g1]
      go_enter Tryz.func51, Tryz.ntmps51
      go_wp2
      go_ret
      exact ⟨rfl, unhide HB⟩

/-- the block of the named result, a Tok, behind a call that wrote new memory alone -/
theorem tok_cells {w w2 : World} (hB : Below (w.heap.size + 1) (w.alloc (.cells zeroTok 116)) w2) :
    (w2.cell? ⟨w.heap.size, 0, none⟩ = some (.int .i64 0) ∧ w2.cell? ⟨w.heap.size, 1, none⟩ = some (.string ⟨#[]⟩) ∧ w2.cell? ⟨w.heap.size, 2, none⟩ = some (.int .i64 0) ∧ w2.cell? ⟨w.heap.size, 3, none⟩ = some (.int .i64 0)) ∧ (w2.frozen? ⟨w.heap.size, 0, none⟩ = false ∧ w2.frozen? ⟨w.heap.size, 1, none⟩ = false ∧ w2.frozen? ⟨w.heap.size, 2, none⟩ = false ∧ w2.frozen? ⟨w.heap.size, 3, none⟩ = false) ∧ w.heap.size < w2.heap.size ∧ Below w.heap.size w w2 := by
  refine ⟨⟨?_, ?_, ?_, ?_⟩, ⟨?_, ?_, ?_, ?_⟩, by have := hB.size; simp at this; omega, ((Below.refl _ _).alloc (Nat.le_refl _) _).trans (hB.mono (by omega))⟩
  · rw [hB.cell (p := ⟨w.heap.size, 0, none⟩) (by simp)]; simp
  · rw [hB.cell (p := ⟨w.heap.size, 1, none⟩) (by simp)]; simp
  · rw [hB.cell (p := ⟨w.heap.size, 2, none⟩) (by simp)]; simp
  · rw [hB.cell (p := ⟨w.heap.size, 3, none⟩) (by simp)]; simp
  · rw [hB.frozen (p := ⟨w.heap.size, 0, none⟩) (by simp)]; simp
  · rw [hB.frozen (p := ⟨w.heap.size, 1, none⟩) (by simp)]; simp
  · rw [hB.frozen (p := ⟨w.heap.size, 2, none⟩) (by simp)]; simp
  · rw [hB.frozen (p := ⟨w.heap.size, 3, none⟩) (by simp)]; simp
theorem first_names {l : List UInt8} (h : Words.headIs Words.letterB l = true) : Words.first l = lettersW (l.takeWhile Words.behindB) := by
  unfold Words.first lettersW
  rw [if_pos h]
theorem first_numbers {l : List UInt8} (h : Words.headIs Words.letterB l = false) (h2 : Words.headIs Words.digitB l = true) : Words.first l = digitsW (l.takeWhile Words.digitB) := by
  unfold Words.first digitsW
  rw [if_neg (by rw [h]; decide), if_pos h2]
theorem first_signs {l : List UInt8} (h : Words.headIs Words.letterB l = false) (h2 : Words.headIs Words.digitB l = false) : Words.first l = if Words.signLen l = 0 then (⟨0, [], 0, 0⟩, 3) else (⟨3, l.take (Words.signLen l), 0, 0⟩, 0) := by
  unfold Words.first
  rw [if_neg (by rw [h]; decide), if_neg (by rw [h2]; decide)]
theorem head_at (p : UInt8 → Bool) (l : List UInt8) (h : 0 < l.length) : Words.headIs p l = p l[0] := by
  cases l with
  | nil => simp at h
  | cons c r => rfl
theorem take_tw (p : UInt8 → Bool) (l : List UInt8) : l.take (l.takeWhile p).length = l.takeWhile p := (List.prefix_iff_eq_take.1 (List.takeWhile_prefix _)).symm
set_option maxHeartbeats 4000000 in
set_option maxRecDepth 100000 in
theorem first_any (l : List UInt8) (w : World) (h0 : 0 < l.length) (hl : l.length ≤ 1000000) : Calls Tryz.prog 50 #[.string ⟨l.toArray⟩] w fun e w' => e = .returned (.tuple #[tokA (Words.first l).1, errV (Words.first l).2]) ∧ Below w.heap.size w w' := by
  have hs : 0 < (⟨l.toArray⟩ : ByteArray).size := h0
  have hbv : (((⟨l.toArray⟩ : ByteArray)[0]'hs).toNat : Int) = (l[0].toNat : Int) := rfl
  have hlt2 : (0 : Int) < l.length := by omega
  have HS := hide (fun W => isSmall_any l[0] W)
  have HD := hide (fun W => isDigit_any l[0] W)
  have H1 := hide (head_at Words.letterB l h0)
  have H2 := hide (head_at Words.digitB l h0)
  by_cases g1 : Words.letterB l[0] = true
  · rw [first_names ((unhide H1).trans g1)]
    rw [g1] at HS
    have HSP := hide (fun W => spanInner_any l W hl)
    have HTW := hide (take_tw Words.behindB l)
    have hle : (l.takeWhile Words.behindB).length ≤ l.length := (List.takeWhile_prefix _).length_le
    have HLE := hide (fun W => letters_any (l.takeWhile Words.behindB) W (by omega))
    generalize l.takeWhile Words.behindB = X at *
    generalize lettersW X = r at *
    obtain ⟨⟨rk, rt, rp, rn⟩, re⟩ := r
    generalize l[0].toNat = c0 at *
    have hxe : (⟨l.toArray⟩ : ByteArray).extract 0 X.length = ⟨X.toArray⟩ := by rw [ext_front, unhide HTW]
    have hle2 : (X.length : Int) ≤ l.length := by omega
    clear g1 H1 H2
    go_enter Tryz.func50, Tryz.ntmps50
    go_wp2_with (first | (go_at_call 88; refine (unhide HS _).mono ?_; rintro ev w1 ⟨rfl, hw⟩; have hw := hw.symm; subst hw) | (go_at_call 90; refine (unhide HSP _).mono ?_; rintro ev w1 ⟨rfl, hw⟩; have hw := hw.symm; subst hw))
    refine (unhide HLE _).mono ?_
    rintro ev w4 ⟨rfl, hb4⟩
    have hb5 : Below (w.heap.size + 1) (w.alloc (.cells zeroTok 116)) w4 := hb4.mono (by simp)
    obtain ⟨⟨k0, k1, k2, k3⟩, ⟨z0, z1, z2, z3⟩, hsz, hB⟩ := tok_cells hb5
    have HB := hide hB
    clear hb4 hb5 hB
    unfold tokA
    go_wp2
    refine bodyPost_ret (v := .tuple #[tokA ⟨rk, rt, rp, rn⟩, errV re]) (by simp [results, Tryz.results50, go_sem, tokA, k0, k1, k2, k3]) rfl ⟨rfl, ?_⟩
    exact ((((unhide HB).setCell (Nat.le_refl _) _).setCell (Nat.le_refl _) _).setCell (Nat.le_refl _) _).setCell (Nat.le_refl _) _
  · replace g1 : Words.letterB l[0] = false := by simpa using g1
    rw [g1] at HS
    by_cases g2 : Words.digitB l[0] = true
    · rw [first_numbers ((unhide H1).trans g1) ((unhide H2).trans g2)]
      rw [g2] at HD
      have HSP := hide (fun W => spanDigit_any l W hl)
      have HTW := hide (take_tw Words.digitB l)
      have hle : (l.takeWhile Words.digitB).length ≤ l.length := (List.takeWhile_prefix _).length_le
      have HLE := hide (fun W => digits_any (l.takeWhile Words.digitB) (fun i h => List.all_eq_true.1 List.all_takeWhile _ (List.getElem_mem h)) (by omega) W)
      generalize l.takeWhile Words.digitB = X at *
      generalize digitsW X = r at *
      obtain ⟨⟨rk, rt, rp, rn⟩, re⟩ := r
      generalize l[0].toNat = c0 at *
      have hxe : (⟨l.toArray⟩ : ByteArray).extract 0 X.length = ⟨X.toArray⟩ := by rw [ext_front, unhide HTW]
      have hle2 : (X.length : Int) ≤ l.length := by omega
      clear g1 g2 H1 H2
      go_enter Tryz.func50, Tryz.ntmps50
      go_wp2_with (first | (go_at_call 88; refine (unhide HS _).mono ?_; rintro ev w1 ⟨rfl, hw⟩; have hw := hw.symm; subst hw) | (go_at_call 92; refine (unhide HD _).mono ?_; rintro ev w1 ⟨rfl, hw⟩; have hw := hw.symm; subst hw) | (go_at_call 90; refine (unhide HSP _).mono ?_; rintro ev w1 ⟨rfl, hw⟩; have hw := hw.symm; subst hw))
      refine (unhide HLE _).mono ?_
      rintro ev w4 ⟨rfl, hb4⟩
      have hb5 : Below (w.heap.size + 1) (w.alloc (.cells zeroTok 116)) w4 := hb4.mono (by simp)
      obtain ⟨⟨k0, k1, k2, k3⟩, ⟨z0, z1, z2, z3⟩, hsz, hB⟩ := tok_cells hb5
      have HB := hide hB
      clear hb4 hb5 hB
      unfold tokA
      go_wp2
      refine bodyPost_ret (v := .tuple #[tokA ⟨rk, rt, rp, rn⟩, errV re]) (by simp [results, Tryz.results50, go_sem, tokA, k0, k1, k2, k3]) rfl ⟨rfl, ?_⟩
      exact ((((unhide HB).setCell (Nat.le_refl _) _).setCell (Nat.le_refl _) _).setCell (Nat.le_refl _) _).setCell (Nat.le_refl _) _
    · replace g2 : Words.digitB l[0] = false := by simpa using g2
      rw [first_signs ((unhide H1).trans g1) ((unhide H2).trans g2)]
      rw [g2] at HD
      have HSG := hide (fun W => signLength_any l h0 hl W)
      have HKL := hide (Words.signLen_le l)
      have hle : Words.signLen l ≤ l.length := by
        have := Words.signLen_le l
        cases hh : l with
        | nil => simp [Words.signLen]
        | cons c r =>
          simp only [Words.signLen]
          split
          · split
            · rename_i hr
              cases r with
              | nil => cases hr
              | cons _ _ => simp
            · simp
          · split <;> simp
      generalize Words.signLen l = k at *
      generalize l[0].toNat = c0 at *
      clear g1 g2 H1 H2
      by_cases hk : k = 0
      · subst hk
        rw [if_pos rfl]
        go_enter Tryz.func50, Tryz.ntmps50
        go_wp2_with (first | (go_at_call 88; refine (unhide HS _).mono ?_; rintro ev w1 ⟨rfl, hw⟩; have hw := hw.symm; subst hw) | (go_at_call 92; refine (unhide HD _).mono ?_; rintro ev w1 ⟨rfl, hw⟩; have hw := hw.symm; subst hw) | (go_at_call 94; refine (unhide HSG _).mono ?_; rintro ev w1 ⟨rfl, hw⟩; have hw := hw.symm; subst hw))
        exact bodyPost_ret (v := .tuple #[tokA ⟨0, [], 0, 0⟩, errV 3]) (by simp [results, Tryz.results50, go_sem, tokA, errV]) rfl ⟨rfl, alloc_below _ _⟩
      · rw [if_neg hk]
        have k1 : ((k : Int) == 0) = false := by rw [beq_eq_false_iff_ne]; omega
        have k2 : ¬ (k : Int) = 0 := by omega
        have hle2 : (k : Int) ≤ l.length := by omega
        obtain ⟨X, hX⟩ : ∃ X, l.take k = X := ⟨_, rfl⟩
        have hxe : (⟨l.toArray⟩ : ByteArray).extract 0 k = ⟨X.toArray⟩ := by rw [ext_front, hX]
        rw [hX]
        clear hX
        go_enter Tryz.func50, Tryz.ntmps50
        go_wp2_with (first | (go_at_call 88; refine (unhide HS _).mono ?_; rintro ev w1 ⟨rfl, hw⟩; have hw := hw.symm; subst hw) | (go_at_call 92; refine (unhide HD _).mono ?_; rintro ev w1 ⟨rfl, hw⟩; have hw := hw.symm; subst hw) | (go_at_call 94; refine (unhide HSG _).mono ?_; rintro ev w1 ⟨rfl, hw⟩; have hw := hw.symm; subst hw))
        exact bodyPost_ret (v := .tuple #[tokA ⟨3, X, 0, 0⟩, errV 0]) (by simp [results, Tryz.results50, go_sem, tokA, errV]) rfl ⟨rfl, alloc_below _ _⟩
end Go.Proofs.YtdpjipphbhomkaaGreatDoor.Line

namespace Go.Proofs.YtdpjipphbhomkaaGreatDoor
open Go.Shelf
def lays166_ren : Go.Shelf.Ren := ⟨fun | 166 => 77 | 240 => 115 | 276 => 135 | n => n, fun | 0 => 0 | 3 => 3 | 4 => 4 | 9 => 9 | 20 => 20 | 37 => 108 | 70 => 158 | 72 => 160 | 75 => 32 | 164 => 146 | 76 => 165 | 80 => 123 | 5 => 5 | n => n, fun | n => n⟩
theorem lays166 : Go.Proofs.Lays.n166 Tryz.prog lays166_ren := {
  mixed := by kernel_rfl
  f166 := Tryz.func77.trans (congrArg some (by kernel_rfl))
  f240 := Tryz.func115.trans (congrArg some (by kernel_rfl))
  f276 := Tryz.func135.trans (congrArg some (by kernel_rfl))
  t0 := Tryz.underlying0
  a0 := Tryz.isAgg0
  z0 := Tryz.sizeOf0
  v0 := Tryz.zeroValue0
  t3 := Tryz.underlying3
  a3 := Tryz.isAgg3
  z3 := Tryz.sizeOf3
  v3 := Tryz.zeroValue3
  t4 := Tryz.underlying4
  a4 := Tryz.isAgg4
  z4 := Tryz.sizeOf4
  v4 := Tryz.zeroValue4
  t9 := Tryz.underlying9
  a9 := Tryz.isAgg9
  z9 := Tryz.sizeOf9
  v9 := Tryz.zeroValue9
  t20 := Tryz.underlying20
  a20 := Tryz.isAgg20
  z20 := Tryz.sizeOf20
  v20 := Tryz.zeroValue20
  t37 := Tryz.underlying108
  a37 := Tryz.isAgg108
  z37 := Tryz.sizeOf108
  v37 := Tryz.zeroValue108
  t70 := Tryz.underlying158
  a70 := Tryz.isAgg158
  z70 := Tryz.sizeOf158
  v70 := Tryz.zeroValue158
  t72 := Tryz.underlying160
  a72 := Tryz.isAgg160
  z72 := Tryz.sizeOf160
  v72 := Tryz.zeroValue160
  t75 := Tryz.underlying32
  a75 := Tryz.isAgg32
  z75 := Tryz.sizeOf32
  v75 := Tryz.zeroValue32
  t164 := Tryz.underlying146
  a164 := Tryz.isAgg146
  z164 := Tryz.sizeOf146
  v164 := Tryz.zeroValue146 }
theorem Builder_Extra_166 : Builder.Extra Tryz.prog lays166_ren := {
  sizeBuilder := by kernel_rfl
  liesBuilder := by kernel_rfl
  t5 := Tryz.underlying5
  a5 := Tryz.isAgg5
  z5 := Tryz.sizeOf5
  v5 := Tryz.zeroValue5
  infoByte := by kernel_rfl
  cellsByte := by kernel_rfl
  sizeByte := by kernel_rfl
  neB5 := by decide }
open Go.RowKit in
theorem Builder_WriteString (B b : Nat) (bs : List Value) (s : ByteArray) (w : World) (h : Lib.IsBuilderF 160 5 B b bs w) (hlen : bs.length + s.size ≤ 140737488355328) (hBw : B ≤ w.heap.size) :
    Calls Tryz.prog 77 #[.pointer (some ⟨b, 0, none⟩), .string s] w fun e w' => e = .returned (.tuple #[.int .i64 s.size, .nilIface]) ∧ (Lib.BuilderAtF 160 5 B b (.pointer (some ⟨b, 0, none⟩)) (bs ++ Lib.strCells s) w' ∧ Below B w w' ∧ Lib.OthersKept 5 (some b) w w') := Any.Builder_WriteString_k lays166 Builder_Extra_166 B b bs s w h hlen hBw
def lays169_ren : Go.Shelf.Ren := ⟨fun | 169 => 80 | n => n, fun | 70 => 158 | 9 => 9 | 0 => 0 | 72 => 160 | 37 => 108 | 127 => 202 | 3 => 3 | 5 => 5 | n => n, fun | n => n⟩
theorem lays169 : Go.Proofs.Lays.n169 Tryz.prog lays169_ren := {
  mixed := by kernel_rfl
  f169 := Tryz.func80.trans (congrArg some (by kernel_rfl))
  t0 := Tryz.underlying0
  a0 := Tryz.isAgg0
  z0 := Tryz.sizeOf0
  v0 := Tryz.zeroValue0
  t3 := Tryz.underlying3
  a3 := Tryz.isAgg3
  z3 := Tryz.sizeOf3
  v3 := Tryz.zeroValue3
  t9 := Tryz.underlying9
  a9 := Tryz.isAgg9
  z9 := Tryz.sizeOf9
  v9 := Tryz.zeroValue9
  t37 := Tryz.underlying108
  a37 := Tryz.isAgg108
  z37 := Tryz.sizeOf108
  v37 := Tryz.zeroValue108
  t70 := Tryz.underlying158
  a70 := Tryz.isAgg158
  z70 := Tryz.sizeOf158
  v70 := Tryz.zeroValue158
  t72 := Tryz.underlying160
  a72 := Tryz.isAgg160
  z72 := Tryz.sizeOf160
  v72 := Tryz.zeroValue160
  t127 := Tryz.underlying202
  a127 := Tryz.isAgg202
  z127 := Tryz.sizeOf202
  v127 := Tryz.zeroValue202 }
theorem Builder_Extra_169 : Builder.Extra Tryz.prog lays169_ren := {
  sizeBuilder := by kernel_rfl
  liesBuilder := by kernel_rfl
  t5 := Tryz.underlying5
  a5 := Tryz.isAgg5
  z5 := Tryz.sizeOf5
  v5 := Tryz.zeroValue5
  infoByte := by kernel_rfl
  cellsByte := by kernel_rfl
  sizeByte := by kernel_rfl
  neB5 := by decide }
open Go.RowKit in
theorem Builder_String_any (B b : Nat) (l : List UInt8) (w : World) (h : Lib.IsBuilderF 160 5 B b (Lib.byteCells l) w) (hBw : B ≤ w.heap.size) :
    Calls Tryz.prog 80 #[.pointer (some ⟨b, 0, none⟩)] w fun e w' => e = .returned (.string ⟨l.toArray⟩) ∧ (Lib.IsBuilderF 160 5 B b (Lib.byteCells l) w' ∧ Below B w w' ∧ Lib.OthersKept 5 (some b) w w') := Any.Builder_String_any_k lays169 Builder_Extra_169 B b l w h hBw
def lays161_ren : Go.Shelf.Ren := ⟨fun | 161 => 87 | 231 => 121 | 227 => 122 | 233 => 123 | 235 => 124 | 228 => 142 | 197 => 143 | 151 => 144 | 260 => 157 | 152 => 158 | 137 => 48 | 119 => 167 | 224 => 168 | 225 => 169 | 217 => 86 | 266 => 120 | n => n, fun | 9 => 9 | 4 => 4 | 3 => 3 | 5 => 5 | 117 => 207 | 116 => 206 | 0 => 0 | 124 => 210 | 105 => 221 | 21 => 21 | 119 => 246 | 46 => 238 | 139 => 249 | 138 => 248 | n => n, fun | 3 => 3 | 4 => 4 | n => n⟩
theorem lays161 : Go.Proofs.Lays.n161 Tryz.prog lays161_ren := {
  mixed := by kernel_rfl
  f119 := Tryz.func167.trans (congrArg some (by kernel_rfl))
  f137 := Tryz.func48.trans (congrArg some (by kernel_rfl))
  f151 := Tryz.func144.trans (congrArg some (by kernel_rfl))
  f152 := Tryz.func158.trans (congrArg some (by kernel_rfl))
  f161 := Tryz.func87.trans (congrArg some (by kernel_rfl))
  f197 := Tryz.func143.trans (congrArg some (by kernel_rfl))
  f217 := Tryz.func86.trans (congrArg some (by kernel_rfl))
  f224 := Tryz.func168.trans (congrArg some (by kernel_rfl))
  f225 := Tryz.func169.trans (congrArg some (by kernel_rfl))
  f227 := Tryz.func122.trans (congrArg some (by kernel_rfl))
  f228 := Tryz.func142.trans (congrArg some (by kernel_rfl))
  f231 := Tryz.func121.trans (congrArg some (by kernel_rfl))
  f233 := Tryz.func123.trans (congrArg some (by kernel_rfl))
  f235 := Tryz.func124.trans (congrArg some (by kernel_rfl))
  f260 := Tryz.func157.trans (congrArg some (by kernel_rfl))
  f266 := Tryz.func120.trans (congrArg some (by kernel_rfl))
  t0 := Tryz.underlying0
  a0 := Tryz.isAgg0
  z0 := Tryz.sizeOf0
  v0 := Tryz.zeroValue0
  t3 := Tryz.underlying3
  a3 := Tryz.isAgg3
  z3 := Tryz.sizeOf3
  v3 := Tryz.zeroValue3
  t4 := Tryz.underlying4
  a4 := Tryz.isAgg4
  z4 := Tryz.sizeOf4
  v4 := Tryz.zeroValue4
  t5 := Tryz.underlying5
  a5 := Tryz.isAgg5
  z5 := Tryz.sizeOf5
  v5 := Tryz.zeroValue5
  t9 := Tryz.underlying9
  a9 := Tryz.isAgg9
  z9 := Tryz.sizeOf9
  v9 := Tryz.zeroValue9
  t21 := Tryz.underlying21
  a21 := Tryz.isAgg21
  z21 := Tryz.sizeOf21
  v21 := Tryz.zeroValue21
  t46 := Tryz.underlying238
  a46 := Tryz.isAgg238
  z46 := Tryz.sizeOf238
  v46 := Tryz.zeroValue238
  t105 := Tryz.underlying221
  a105 := Tryz.isAgg221
  z105 := Tryz.sizeOf221
  v105 := Tryz.zeroValue221
  t116 := Tryz.underlying206
  a116 := Tryz.isAgg206
  z116 := Tryz.sizeOf206
  t117 := Tryz.underlying207
  a117 := Tryz.isAgg207
  z117 := Tryz.sizeOf207
  v117 := Tryz.zeroValue207
  t119 := Tryz.underlying246
  a119 := Tryz.isAgg246
  z119 := Tryz.sizeOf246
  t124 := Tryz.underlying210
  a124 := Tryz.isAgg210
  z124 := Tryz.sizeOf210
  v124 := Tryz.zeroValue210
  t138 := Tryz.underlying248
  a138 := Tryz.isAgg248
  z138 := Tryz.sizeOf248
  v138 := Tryz.zeroValue248
  t139 := Tryz.underlying249
  a139 := Tryz.isAgg249
  z139 := Tryz.sizeOf249
  v139 := Tryz.zeroValue249
  g3 := by kernel_rfl
  g4 := by kernel_rfl }
end Go.Proofs.YtdpjipphbhomkaaGreatDoor

namespace Go.Proofs.YtdpjipphbhomkaaGreatDoor.Line
open Go.ChangeShapes Go.WideShapes Go.ChangeAt Go.RowKit Plain
set_option linter.unusedVariables false

theorem trimLeft_any (l : List UInt8) (w : World) : Calls Tryz.prog 87 #[.string ⟨l.toArray⟩, .string ⟨#[32, 9]⟩] w fun e w' => e = .returned (.string ⟨(l.drop (indentOf l).length).toArray⟩) ∧ Below w.heap.size w w' := by
  have h := Any.strings_TrimLeft_laid lays161 (by kernel_rfl) (⟨l.toArray⟩ : ByteArray) ⟨#[32, 9]⟩ w (by decide) (fun j b hb => by
    match j, hb with
    | 0, hb => simp at hb; subst hb; decide
    | 1, hb => simp at hb; subst hb; decide
    | n + 2, hb => simp at hb)
  change Calls Tryz.prog 87 _ _ _ at h
  have e : Lib.trimLeftS (⟨l.toArray⟩ : ByteArray).data.toList (⟨#[32, 9]⟩ : ByteArray).data.toList = l.drop (indentOf l).length := by
    unfold Lib.trimLeftS indentOf
    rw [(take_while l blankB).2]
    show l.dropWhile _ = l.dropWhile _
    have hf : (fun c : UInt8 => List.contains [32, 9] c) = blankB := by
      funext c
      simp only [blankB, List.contains_cons, List.contains_nil, Bool.or_false]
    exact congrArg (fun p => l.dropWhile p) hf
  rw [e] at h
  exact h

set_option maxHeartbeats 1000000 in
theorem indent_any (l : List UInt8) (w : World) (hl : l.length ≤ 1000000) : Calls Tryz.prog 49 #[.string ⟨l.toArray⟩] w fun e w' => e = .returned (.string ⟨(indentOf l).toArray⟩) ∧ Below w.heap.size w w' := by
  have hle : (indentOf l).length ≤ l.length := by
    have := List.takeWhile_sublist (l := l) blankB
    exact this.length_le
  have HT : Hid (l.take (indentOf l).length = indentOf l) := (take_while l blankB).1
  generalize hn : (indentOf l).length = n at *
  have hcon := trimLeft_any l w
  rw [hn] at hcon
  have HC := hide hcon
  clear hcon hn
  have hd : (l.drop n).length = l.length - n := by simp
  go_enter Tryz.func49, Tryz.ntmps49
  go_wp2_with (go_at_call 87; refine (unhide HC).mono ?_; rintro e w' ⟨rfl, hB⟩)
  go_ret
  refine ⟨ret_val (congrArg Value.string ((ext_front _ _).trans (mk_eq ?_))), hB⟩
  rw [show l.length - (l.length - n) = n by omega]
  exact HT.out


theorem indent_len (l : List UInt8) : (indentOf l).length = (l.takeWhile Words.blankB).length := by
  have hf : Plain.blankB = Words.blankB := by
    funext c
    simp only [Plain.blankB, Words.blankB]
    have key : ∀ k : UInt8, (c == k) = decide (c.toNat = k.toNat) := fun k => by
      by_cases h : c = k
      · subst h; simp
      · rw [beq_eq_false_iff_ne.2 h, decide_eq_false (fun h2 => h (UInt8.toNat.inj h2))]
    rw [key 32, key 9]
    rfl
  unfold indentOf
  rw [hf]
end Go.Proofs.YtdpjipphbhomkaaGreatDoor.Line

namespace Go.Proofs.YtdpjipphbhomkaaGreatDoor.Line
open Go.ChangeShapes Go.WideShapes Go.ChangeAt Go.RowKit
set_option linter.unusedVariables false

/-- what is asked of the project's Line: the words are the reference's; what is wrong is told at the reference's place, as the same error or as a near one -/
def LineSpec : Prop := ∀ (l : List UInt8) (w : World), l.length ≤ 100000 → Calls Tryz.prog 20 #[.string ⟨l.toArray⟩] w fun e w' =>
    ∃ u g err, e = .returned (.tuple #[u, g]) ∧ OwnT 116 w.heap.size w' u (Words.toks l).1 ∧ Says w.heap.size w' g wWord (Words.toks l).2.2 err ∧ Words.Near (Words.toks l).2.1 err ∧ Below w.heap.size w w'
def TellsSpec : Prop := ∀ (w : World) (f g : Value) (k err B B' : Nat), Glob w → Says B w f wWord k err → Told B' w g wWord k err → Calls Tryz.prog 10 #[f, g] w fun e w' => e = .returned (.bool true) ∧ Below w.heap.size w w'
theorem told_agg {B : Nat} {w : World} {g : Value} {word : List UInt8} {k err : Nat} (h : Told B w g word k err) : ∃ a n, g = .agg #[.slice a n n, .int .i64 err] := by
  rcases h with ⟨rfl, rfl⟩ | ⟨_, b, _, rfl, _⟩
  · exact ⟨none, 0, rfl⟩
  · exact ⟨_, 1, rfl⟩
theorem toks_good (l : List UInt8) : Words.Good l 0 (Words.toks l).1 := by
  by_cases h : (Words.toks l).2.1 = 0
  · exact Words.scanAt_good l 0 h
  · rw [show (Words.toks l).1 = [] from (Words.scanAt_form l 0).2 h]; trivial
theorem toks_count (l : List UInt8) : (Words.toks l).1.length ≤ l.length := by
  have key : ∀ (T : List Words.T) a, Words.Good l a T → (∀ t ∈ T, 0 < t.text.length) → a + T.length ≤ l.length ∨ T = [] := by
    intro T
    induction T with
    | nil => intro a _ _; exact .inr rfl
    | cons t T ih =>
      intro a h hp
      obtain ⟨h1, h2, _, _, h5⟩ := h
      have h6 := hp t (List.mem_cons_self ..)
      rcases ih _ h5 (fun x hx => hp x (List.mem_cons_of_mem _ hx)) with h7 | h7
      · left; rw [List.length_cons]; omega
      · left; subst h7; simp; omega
  have hpos : ∀ i, ∀ t ∈ (Words.scanAt l i).1, 0 < t.text.length := by
    refine Words.scanAt_ind l _ (fun i h => ?_) (fun i h hs ih => ?_) (fun i e o h hs => ?_) (fun i kd n k h hs ih => ?_)
    · rw [Words.scanAt_end l i h]; intro t ht; cases ht
    · rw [Words.scanAt_blank h hs]; exact ih
    · rw [Words.scanAt_bad h hs]; intro t ht; cases ht
    · rw [Words.scanAt_tok h hs]
      unfold Words.also
      split
      · intro t ht
        rcases List.mem_cons.1 ht with rfl | h2
        · have hk := Words.step_len hs
          show 0 < ((l.drop i).take k).length
          rw [List.length_take]; omega
        · exact ih t h2
      · intro t ht; cases ht
  rcases key _ 0 (toks_good l) (hpos 0) with h | h
  · omega
  · rw [h]; simp
end Go.Proofs.YtdpjipphbhomkaaGreatDoor.Line

namespace Go.Proofs.YtdpjipphbhomkaaGreatDoor.Line
open Go.ChangeShapes Go.WideShapes Go.ChangeAt Go.RowKit
set_option linter.unusedVariables false

/-- one word more (the project's) -/
theorem append_tok {base : Nat} {w : World} {s : Value} {l : List Words.T} (hs : OwnT 116 base w s l) (t : Words.T) (hb : base ≤ w.heap.size) (hl : l.length + 1 ≤ 1000000) :
    ∃ v' w', (Builtin.append_ #[74, 74] 74 #[s, .slice (some ⟨w.heap.size, 0, none⟩) 1 1]).run Tryz.prog (w.alloc (.cells #[.int .i64 t.kind, .string ⟨t.text.toArray⟩, .int .i64 t.pos, .int .i64 t.n] 116)) = .ok v' w' ∧ OwnT 116 base w' v' (l ++ [t]) ∧ (w.alloc (.cells #[.int .i64 t.kind, .string ⟨t.text.toArray⟩, .int .i64 t.pos, .int .i64 t.n] 116)).grownBy w' s.ownBlock := by
  obtain ⟨i0, hi, hz0, hz1, hz2⟩ := info_parts infoTok
  obtain ⟨v', w', hr, ho, hgr, _⟩ := run_append_own (P := Tryz.prog) (w.alloc (.cells #[.int .i64 t.kind, .string ⟨t.text.toArray⟩, .int .i64 t.pos, .int .i64 t.n] 116)) base 74 74 116 i0 _ 4 40 Tryz.underlying74 hi hz0 hz1 hz2 rfl (by decide) s l.length (flatT l) (World.ownsRow.alloc hs _) ⟨w.heap.size, 0, none⟩ 1 1 (tokV t) rfl
    (World.news_of_block (cs := #[.int .i64 t.kind, .string ⟨t.text.toArray⟩, .int .i64 t.pos, .int .i64 t.n]) (t := 116) (fr := (0, 0)) (by show (w.heap.push _)[w.heap.size]? = _; exact Array.getElem?_push_size))
    (by intro u hu; simp [tokV] at hu; rcases hu with rfl | rfl | rfl | rfl <;> rfl) (by unfold maxLen; omega) (by omega) (by simp; omega)
  refine ⟨v', w', hr, ?_, hgr⟩
  unfold OwnT
  rw [flatT_snoc, List.length_append]
  exact ho
/-- an append of such words in a plain region, by its run -/
theorem wpList_append_runD {ops : Array Oper} {rest : List Oper} {o : Oper} {a : Act} {w : World} {Q : Exit → Act → World → Prop} (hgd : o.guard = none) (s x : Operand)
    (ho : o.op = .call { callee := .builtin .append, args := #[s, x], argTypes := #[74, 74] }) (hty : o.type = 74) (sv xv : Value) (hs : a.eval s = sv) (hx : a.eval x = xv) (v' : Value) (w' : World)
    (hr : (Builtin.append_ #[74, 74] 74 #[sv, xv]).run Tryz.prog w = .ok v' w') (h : wpList Tryz.prog ops Q rest (a.put o.dst v') w') : wpList Tryz.prog ops Q (o :: rest) a w := by
  refine wpList_plain hgd fun K hK => ?_
  unfold Oper.wp execOp
  simp only [ho, hty, resolve, invoke, builtin, Sem.run_bind, Sem.run_pure, Result.andThen_ok, List.map_toArray, List.map_cons, List.map_nil, hs, hx, hr]
  exact hK _ _ h

set_option maxHeartbeats 8000000 in
set_option maxRecDepth 100000 in
theorem line_any : LineSpec := by
  intro l w hl
  have HR0 := hide (Words.round l)
  have HI0 := hide (Words.inv_start l)
  generalize Words.toks l = R at *
  go_enter Tryz.func20, Tryz.ntmps20
  go_wp2_with fail
  go_loopw [4, 5] (fun x y wr => ∃ (e : Nat) (done : List Words.T), e ≤ l.length ∧ y = .int .i64 e ∧ done.length ≤ e ∧ Hid (Words.Inv l done e) ∧ Hid (OwnT 116 w.heap.size wr x done) ∧ Hid (Below w.heap.size w wr)) (fun _ y _ => l.length - (intOf y).toNat)
  case atStart => exact ⟨0, [], Nat.zero_le _, rfl, Nat.le_refl _, HI0, hide (OwnT.nil _ _ _), hide (Below.refl _ _)⟩
  case round =>
    obtain ⟨e, done, he, rfl, hdl, HI, HO, HB⟩ := hrel
    have hel : (e : Int) ≤ l.length := by omega
    obtain ⟨Y, hY⟩ : ∃ Y, Plain.indentOf (l.drop e) = Y := ⟨_, rfl⟩
    have hYl : Y.length = ((l.drop e).takeWhile Words.blankB).length := by rw [← hY, indent_len]
    have hYb : Y.length ≤ l.length - e := by rw [hYl, ← List.length_drop]; exact (List.takeWhile_prefix _).length_le
    obtain ⟨a, ha⟩ : ∃ a, e + Y.length = a := ⟨_, rfl⟩
    have hR := unhide HR0 done e a (unhide HI) he (by rw [← hYl]; exact ha)
    have HR := hide hR
    have HIN := hide (fun W => indent_any (l.drop e) W (by rw [List.length_drop]; omega))
    rw [hY] at HIN
    clear hR hYl hY HR0 HI0
    obtain ⟨X, hX⟩ : ∃ X, l.drop e = X := ⟨_, rfl⟩
    have hxe : (⟨l.toArray⟩ : ByteArray).extract e l.length = ⟨X.toArray⟩ := by rw [ext_end, hX]
    rw [hX] at HIN
    clear hX
    have hae : (e : Int) + Y.length = a := by omega
    go_wp2_with fail
    refine (unhide HIN _).mono ?_
    rintro ev w1 ⟨rfl, hb1⟩
    have HB1 := hide hb1
    clear hb1
    obtain ⟨au, cu, rfl⟩ := (unhide HO).tks.shape
    by_cases hal : a = l.length
    · have HRR := hide ((unhide HR).1 hal)
      have q1 : ((a : Int) == l.length) = true := by rw [beq_iff_eq]; omega
      go_wp2
      go_ret2
      rw [unhide HRR]
      exact ⟨_, _, 0, rfl, (unhide HO).below (unhide HB1), .inl ⟨rfl, rfl⟩, .inl rfl, bthen (unhide HB) (unhide HB1)⟩
    · have hal2 : a < l.length := by omega
      have hal3 : (a : Int) ≤ l.length := by omega
      have q1 : ((a : Int) == l.length) = false := by rw [beq_eq_false_iff_ne]; omega
      have HF := hide (fun W => first_any (l.drop a) W (by rw [List.length_drop]; omega) (by rw [List.length_drop]; omega))
      have HRR := hide ((unhide HR).2 hal2)
      obtain ⟨Z, hZ⟩ : ∃ Z, l.drop a = Z := ⟨_, rfl⟩
      have hze : (⟨l.toArray⟩ : ByteArray).extract a l.length = ⟨Z.toArray⟩ := by rw [ext_end, hZ]
      rw [hZ] at HF HRR
      clear hZ HR
      go_wp2_with fail
      refine (unhide HF _).mono ?_
      rintro ev w2 ⟨rfl, hb2⟩
      have HB2 := hide hb2
      clear hb2
      rcases unhide HRR with ⟨⟨rk, rt, rp, rn⟩, f1, hae2, hcl, hR⟩ | ⟨⟨rk, rt, rp, rn⟩, f1, hncl, hinv, hpos, hlen⟩ | ⟨err, f1, he0, hr1, hr2, hr3⟩
      · rw [f1]
        clear HRR f1 HF
        subst hae2
        have HC := hide (fun W (hT : Tks W (.slice au done.length cu) done) => clings_any _ done ⟨rk, rt, rp, rn⟩ W hT (by omega))
        rw [hcl] at HC
        have HRR := hide hR
        clear hcl hR
        unfold tokA errV at *
        rw [if_pos rfl]
        have hb12 : Below wr.heap.size wr w2 := bthen (unhide HB1) (unhide HB2)
        have hb3 : Below wr.heap.size wr (w2.alloc (.cells #[.int .i64 rk, .string ⟨rt.toArray⟩, .int .i64 0, .int .i64 rn] 116)) := bthen hb12 (alloc_below _ _)
        have HT3 := hide ((unhide HO).below hb3).tks
        have HB3 := hide (bthen (unhide HB) hb3)
        clear hb12 hb3
        go_wp2_with fail
        refine (unhide HC _ (unhide HT3)).mono ?_
        rintro ev w4 ⟨rfl, hb4⟩
        have HB4 := hide (bthen (unhide HB3) hb4)
        clear hb4
        go_wp2
        go_ret2
        rw [unhide HRR]
        exact ⟨_, _, 3, rfl, OwnT.nil _ _ _, .inr ⟨by decide, w4.heap.size, (unhide HB4).size, rfl, by simp, by simp, by simp⟩, .inl rfl, bthen (unhide HB4) (alloc_below _ _)⟩
      · rw [f1]
        clear HRR f1 HF
        have HK := hide (And.intro hinv (And.intro hpos hlen))
        clear hinv
        have hs5 : wr.heap.size ≤ w2.heap.size := Nat.le_trans (unhide HB1).size (unhide HB2).size
        have hb12 : Below wr.heap.size wr w2 := bthen (unhide HB1) (unhide HB2)
        have hlen2 : a + rt.length ≤ l.length := hlen
        have hrt : rt.length ≤ 100000 := by omega
        have hrt2 : a + rt.length ≤ 100000 := by omega
        have hpos2 : 0 < rt.length := hpos
        unfold errV
        rw [if_pos rfl]
        by_cases hc : a = e
        · have q2 : ((a : Int) == e) = true := by rw [beq_iff_eq]; omega
          have HC := hide (fun W (hT : Tks W (.slice au done.length cu) done) => clings_any _ done ⟨rk, rt, rp, rn⟩ W hT (by omega))
          have hncl2 : Words.clingsB done rk = false := by
            cases h : Words.clingsB done rk
            · rfl
            · exact absurd ⟨hc, h⟩ hncl
          have HC2 : Hid (∀ W (hT : Tks W (.slice au done.length cu) done), Calls Tryz.prog 51 #[.slice au done.length cu, .agg #[.int .i64 rk, .string ⟨rt.toArray⟩, .int .i64 0, .int .i64 rn]] W fun e w' => e = .returned (.bool false) ∧ Below W.heap.size W w') := hide (fun W hT => by have := unhide HC W hT; rwa [show Words.clingsB done (Words.T.mk rk rt rp rn).kind = false from hncl2] at this)
          have hb3 : Below wr.heap.size wr (w2.alloc (.cells #[.int .i64 rk, .string ⟨rt.toArray⟩, .int .i64 0, .int .i64 rn] 116)) := bthen hb12 (alloc_below _ _)
          have HT3 := hide ((unhide HO).below hb3).tks
          have hc0 : (w2.alloc (.cells #[.int .i64 rk, .string ⟨rt.toArray⟩, .int .i64 0, .int .i64 rn] 116)).cell? ⟨w2.heap.size, 0, none⟩ = some (.int .i64 rk) := by simp
          have hc1 : (w2.alloc (.cells #[.int .i64 rk, .string ⟨rt.toArray⟩, .int .i64 0, .int .i64 rn] 116)).cell? ⟨w2.heap.size, 1, none⟩ = some (.string ⟨rt.toArray⟩) := by simp
          have hc2 : (w2.alloc (.cells #[.int .i64 rk, .string ⟨rt.toArray⟩, .int .i64 0, .int .i64 rn] 116)).cell? ⟨w2.heap.size, 2, none⟩ = some (.int .i64 0) := by simp
          have hc3 : (w2.alloc (.cells #[.int .i64 rk, .string ⟨rt.toArray⟩, .int .i64 0, .int .i64 rn] 116)).cell? ⟨w2.heap.size, 3, none⟩ = some (.int .i64 rn) := by simp
          have hf2 : (w2.alloc (.cells #[.int .i64 rk, .string ⟨rt.toArray⟩, .int .i64 0, .int .i64 rn] 116)).frozen? ⟨w2.heap.size, 2, none⟩ = false := by simp
          have hw3 : w2.heap.size < (w2.alloc (.cells #[.int .i64 rk, .string ⟨rt.toArray⟩, .int .i64 0, .int .i64 rn] 116)).heap.size := by simp
          have HW3 := hide (And.intro hb3 (And.intro hc0 (And.intro hc1 (And.intro hc2 (And.intro hc3 (And.intro hf2 hw3))))))
          clear hb3 hc0 hc1 hc2 hc3 hf2 hw3 hb12 hpos hlen HC hncl hncl2
          subst hc
          unfold tokA
          go_wp2_with fail
          refine (unhide HC2 _ (unhide HT3)).mono ?_
          rintro ev w4 ⟨rfl, hb4⟩
          obtain ⟨hb3, hc0, hc1, hc2, hc3, hf2, hw3⟩ := unhide HW3
          have k0 := (hb4.cell (p := ⟨w2.heap.size, 0, none⟩) hw3).trans hc0
          have k1 := (hb4.cell (p := ⟨w2.heap.size, 1, none⟩) hw3).trans hc1
          have k2 := (hb4.cell (p := ⟨w2.heap.size, 2, none⟩) hw3).trans hc2
          have k3 := (hb4.cell (p := ⟨w2.heap.size, 3, none⟩) hw3).trans hc3
          have z2 := (hb4.frozen (p := ⟨w2.heap.size, 2, none⟩) hw3).trans hf2
          have k1' : (w4.setCell ⟨w2.heap.size, 2, none⟩ (.int .i64 a)).cell? ⟨w2.heap.size, 1, none⟩ = some (.string ⟨rt.toArray⟩) := by simp [go_sem, k1]
          have HW5 := hide (And.intro ((bthen hb3 hb4).setCell (p := ⟨w2.heap.size, 2, none⟩) hs5 (.int .i64 a)) (And.intro k1' (show w2.heap.size.succ ≤ (w4.setCell ⟨w2.heap.size, 2, none⟩ (.int .i64 a)).heap.size from Nat.le_trans hw3 (by have := hb4.size; simpa using this))))
          clear hb3 hc0 hc1 hc2 hc3 hf2 hw3 hb4 k1' HW3 HT3 HC2
          have hown5 := (unhide HO).below (unhide HW5).1
          have hne : some w2.heap.size ≠ (Value.slice au done.length cu).ownBlock := fun h => absurd ((unhide HO).lt _ h.symm).2 (by omega)
          obtain ⟨v9, w9, hr9, ho9, hg9⟩ := append_tok hown5 ⟨rk, rt, a, rn⟩ (Nat.le_trans (unhide HB).size (unhide HW5).1.size) (by omega)
          have hB5 : Below w.heap.size w (w4.setCell ⟨w2.heap.size, 2, none⟩ (.int .i64 a)) := bthen (unhide HB) (unhide HW5).1
          have y9 : Below w.heap.size w w9 := ((hB5.alloc hB5.size _).grown hg9 (Nat.le_trans hB5.size (by simp)) (fun j hj => (World.ownsRow.lt hown5 j hj).1))
          have c9 : w9.cell? ⟨w2.heap.size, 1, none⟩ = some (.string ⟨rt.toArray⟩) := hg9.cell (by rw [((Below.refl w2.heap.size.succ (w4.setCell ⟨w2.heap.size, 2, none⟩ (.int .i64 a))).alloc (unhide HW5).2.2 _).cell (p := ⟨w2.heap.size, 1, none⟩) (Nat.lt_succ_self _)]; exact (unhide HW5).2.1) hne
          have H9 := hide (And.intro ho9 y9)
          rw [show (w4.setCell ⟨w2.heap.size, 2, none⟩ (.int .i64 a)).heap.size = w4.heap.size by simp] at hr9
          clear hown5 hne ho9 hg9 hB5 y9
          go_wp2_with (at_builtin; refine wpList_append_runD rfl _ _ rfl rfl _ _ rfl rfl v9 w9 hr9 ?_)
          go_roundw
          case rel => exact ⟨a + rt.length, done ++ [⟨rk, rt, a, rn⟩], (unhide HK).2.2, by first | rfl | go_num, by rw [List.length_append, List.length_singleton]; omega, hide (unhide HK).1, hide (unhide H9).1, hide (unhide H9).2⟩
          case measure => simp [intOf]; omega
        · have q2 : ((a : Int) == e) = false := by rw [beq_eq_false_iff_ne]; omega
          have HW5 := hide (And.intro (bthen hb12 (alloc_below w2 (.cells #[.int .i64 rk, .string ⟨rt.toArray⟩, .int .i64 a, .int .i64 rn] 116))) (And.intro (show (w2.alloc (.cells #[.int .i64 rk, .string ⟨rt.toArray⟩, .int .i64 a, .int .i64 rn] 116)).cell? ⟨w2.heap.size, 1, none⟩ = some (.string ⟨rt.toArray⟩) by simp) (show w2.heap.size.succ ≤ (w2.alloc (.cells #[.int .i64 rk, .string ⟨rt.toArray⟩, .int .i64 a, .int .i64 rn] 116)).heap.size by simp)))
          clear hb12 hpos hlen hncl
          unfold tokA
          have hown5 := (unhide HO).below (unhide HW5).1
          have hne : some w2.heap.size ≠ (Value.slice au done.length cu).ownBlock := fun h => absurd ((unhide HO).lt _ h.symm).2 (by omega)
          obtain ⟨v9, w9, hr9, ho9, hg9⟩ := append_tok hown5 ⟨rk, rt, a, rn⟩ (Nat.le_trans (unhide HB).size (unhide HW5).1.size) (by omega)
          have hB5 : Below w.heap.size w (w2.alloc (.cells #[.int .i64 rk, .string ⟨rt.toArray⟩, .int .i64 a, .int .i64 rn] 116)) := bthen (unhide HB) (unhide HW5).1
          have y9 : Below w.heap.size w w9 := ((hB5.alloc hB5.size _).grown hg9 (Nat.le_trans hB5.size (by simp)) (fun j hj => (World.ownsRow.lt hown5 j hj).1))
          have c9 : w9.cell? ⟨w2.heap.size, 1, none⟩ = some (.string ⟨rt.toArray⟩) := hg9.cell (by rw [((Below.refl w2.heap.size.succ (w2.alloc (.cells #[.int .i64 rk, .string ⟨rt.toArray⟩, .int .i64 a, .int .i64 rn] 116))).alloc (unhide HW5).2.2 _).cell (p := ⟨w2.heap.size, 1, none⟩) (Nat.lt_succ_self _)]; exact (unhide HW5).2.1) hne
          have H9 := hide (And.intro ho9 y9)
          rw [show (w2.alloc (.cells #[.int .i64 rk, .string ⟨rt.toArray⟩, .int .i64 a, .int .i64 rn] 116)).heap.size = w2.heap.size + 1 by simp] at hr9
          clear hown5 hne ho9 hg9 hB5 y9
          go_wp2_with (at_builtin; refine wpList_append_runD rfl _ _ rfl rfl _ _ rfl rfl v9 w9 hr9 ?_)
          go_roundw
          case rel => exact ⟨a + rt.length, done ++ [⟨rk, rt, a, rn⟩], (unhide HK).2.2, by first | rfl | go_num, by rw [List.length_append, List.length_singleton]; omega, hide (unhide HK).1, hide (unhide H9).1, hide (unhide H9).2⟩
          case measure => simp [intOf]; omega
      · rw [f1]
        clear HRR f1 HF
        have HRR := hide (And.intro hr1 (And.intro hr2 hr3))
        have HE := hide he0
        clear hr1 hr2 hr3
        unfold tokA errV at *
        rw [if_neg he0]
        clear he0
        have HB3 := hide (bthen (unhide HB) (bthen (unhide HB1) (unhide HB2)))
        go_wp2
        go_ret2
        rw [(unhide HRR).1, (unhide HRR).2.1]
        exact ⟨_, _, err, rfl, OwnT.nil _ _ _, .inr ⟨unhide HE, _, Nat.le_trans (unhide HB3).size (by simp), rfl, by simp, by simp, by simp⟩, (unhide HRR).2.2, bthen (bthen (unhide HB3) (alloc_below _ _)) (alloc_below _ _)⟩
end Go.Proofs.YtdpjipphbhomkaaGreatDoor.Line
