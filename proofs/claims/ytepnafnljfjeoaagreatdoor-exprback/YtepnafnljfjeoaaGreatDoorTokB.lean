/- Contracts of the small functions of package tok: isSmall, isDigit, isInner, IsKey, signLength, span.
   Contracts of the checked sum and product: num.Add, num.Mul and what they call.
   Contracts of package tok: letters, digits, clings, first. -/
import Derived.Test.YtepnafnljfjeoaaGreatDoorTokA
import Derived.Lib.Mul64
import Derived.Laws.Bits64b
import Derived.IntWalk
import Derived.WalkLawsBesides
import Derived.Test.YtepnafnljfjeoaaGreatDoorBaseAll
import Derived.Test.YtepnafnljfjeoaaGreatDoorPlainAll
namespace Go.Proofs.YtepnafnljfjeoaaGreatDoor.Line
open Go.ChangeShapes Go.WideShapes Go.ChangeAt Go.RowKit
set_option linter.unusedVariables false

theorem isSmall_any (c : UInt8) (w : World) : Calls Tryz.prog 56 #[.int .u8 (c.toNat : Int)] w fun e w' => e = .returned (.bool (Words.letterB c)) ∧ w' = w := by
  have hE : Words.letterB c = (decide (97 ≤ c.toNat) && decide (c.toNat ≤ 122)) := rfl
  rw [hE]
  clear hE
  generalize c.toNat = n
  by_cases h1 : 97 ≤ n
  · have q1 : decide (97 ≤ n) = true := decide_eq_true h1
    go_enter Tryz.func56, Tryz.ntmps56
    go_wp2
    go_ret
    refine ⟨ret_bool ?_, rfl⟩
    simp [h1]
    omega
  · have q1 : decide (97 ≤ n) = false := decide_eq_false h1
    go_enter Tryz.func56, Tryz.ntmps56
    go_wp2
    go_ret
    refine ⟨ret_bool ?_, rfl⟩
    simp
theorem isDigit_any (c : UInt8) (w : World) : Calls Tryz.prog 60 #[.int .u8 (c.toNat : Int)] w fun e w' => e = .returned (.bool (Words.digitB c)) ∧ w' = w := by
  have hE : Words.digitB c = (decide (48 ≤ c.toNat) && decide (c.toNat ≤ 57)) := rfl
  rw [hE]
  clear hE
  generalize c.toNat = n
  by_cases h1 : 48 ≤ n
  · have q1 : decide (48 ≤ n) = true := decide_eq_true h1
    go_enter Tryz.func60, Tryz.ntmps60
    go_wp2
    go_ret
    refine ⟨ret_bool ?_, rfl⟩
    simp [h1]
    omega
  · have q1 : decide (48 ≤ n) = false := decide_eq_false h1
    go_enter Tryz.func60, Tryz.ntmps60
    go_wp2
    go_ret
    refine ⟨ret_bool ?_, rfl⟩
    simp
theorem isInner_any (c : UInt8) (w : World) : Calls Tryz.prog 59 #[.int .u8 (c.toNat : Int)] w fun e w' => e = .returned (.bool (Words.behindB c)) ∧ w' = w := by
  have hE : Words.behindB c = (Words.letterB c || Words.digitB c || decide (c.toNat = 95)) := rfl
  rw [hE]
  clear hE
  have HL := hide (isSmall_any c w)
  have HD := hide (isDigit_any c w)
  generalize Words.letterB c = bl at *
  generalize Words.digitB c = bd at *
  generalize c.toNat = n at *
  cases bl
  · cases bd
    · go_enter Tryz.func59, Tryz.ntmps59
      go_wp2_with (first | (go_at_call 56; refine (unhide HL).mono ?_; rintro e w1 ⟨rfl, rfl⟩) | (go_at_call 60; refine (unhide HD).mono ?_; rintro e w1 ⟨rfl, rfl⟩))
      go_ret
      refine ⟨ret_bool ?_, rfl⟩
      simp only [Bool.false_or]
      by_cases h : n = 95
      · subst h; rfl
      · rw [decide_eq_false h]
        rw [beq_eq_false_iff_ne]
        omega
    · go_enter Tryz.func59, Tryz.ntmps59
      go_wp2_with (first | (go_at_call 56; refine (unhide HL).mono ?_; rintro e w1 ⟨rfl, rfl⟩) | (go_at_call 60; refine (unhide HD).mono ?_; rintro e w1 ⟨rfl, rfl⟩))
      go_ret
      exact ⟨rfl, rfl⟩
  · go_enter Tryz.func59, Tryz.ntmps59
    go_wp2_with (go_at_call 56; refine (unhide HL).mono ?_; rintro e w1 ⟨rfl, rfl⟩)
    go_ret
    exact ⟨rfl, rfl⟩


set_option maxHeartbeats 2000000 in
theorem isKeyD_any (l : List UInt8) (w : World) : Calls Tryz.prog 84 #[.string ⟨l.toArray⟩] w fun e w' => e = .returned (.bool (Words.isKey l)) ∧ w' = w := by
  by_cases h : l ∈ Words.keys
  · have hE : Words.isKey l = true := by unfold Words.isKey; rw [List.contains_iff_mem]; exact h
    rw [hE]
    clear hE
    simp only [Words.keys, List.mem_cons, List.not_mem_nil, or_false] at h
    rcases h with rfl | rfl | rfl | rfl | rfl | rfl | rfl | rfl
    all_goals (
      go_enter Tryz.func84, Tryz.ntmps84
      go_wp2
      go_ret
      exact ⟨rfl, rfl⟩)
  · have hE : Words.isKey l = false := by
      rw [← Bool.not_eq_true]
      intro h1
      unfold Words.isKey at h1
      rw [List.contains_iff_mem] at h1
      exact h h1
    rw [hE]
    clear hE
    simp only [Words.keys, List.mem_cons, List.not_mem_nil, or_false, not_or] at h
    obtain ⟨h1, h2, h3, h4, h5, h6, h7, h8⟩ := h
    have k1 := beq_eq_false_iff_ne.2 h1
    have k2 := beq_eq_false_iff_ne.2 h2
    have k3 := beq_eq_false_iff_ne.2 h3
    have k4 := beq_eq_false_iff_ne.2 h4
    have k5 := beq_eq_false_iff_ne.2 h5
    have k6 := beq_eq_false_iff_ne.2 h6
    have k7 := beq_eq_false_iff_ne.2 h7
    have k8 := beq_eq_false_iff_ne.2 h8
    go_enter Tryz.func84, Tryz.ntmps84
    go_wp2
    go_ret
    exact ⟨rfl, rfl⟩

theorem tw_len (p : UInt8 → Bool) : ∀ (l : List UInt8) (k : Nat), k ≤ l.length → (∀ j (h : j < l.length), j < k → p l[j] = true) → (∀ h : k < l.length, p l[k] = false) → (l.takeWhile p).length = k := by
  intro l
  induction l with
  | nil => intro k hk _ _; simp at hk; subst hk; rfl
  | cons c r ih =>
    intro k hk h1 h2
    cases k with
    | zero =>
      have := h2 (by simp)
      rw [List.takeWhile_cons, if_neg (by rw [show p c = false from this]; decide)]
      rfl
    | succ k =>
      have hc := h1 0 (by simp) (by omega)
      rw [List.takeWhile_cons, if_pos (show p c = true from hc), List.length_cons, ih k (by simpa using hk) (fun j h hj => h1 (j + 1) (by simpa using h) (by omega)) (fun h => h2 (by simpa using h))]

set_option maxHeartbeats 2000000 in
theorem spanInner_any (l : List UInt8) (w : World) (hl : l.length ≤ 1000000) : Calls Tryz.prog 58 #[.string ⟨l.toArray⟩, .func (.func 59) #[] #[]] w fun e w' => e = .returned (.int .i64 ((l.takeWhile Words.behindB).length : Int)) ∧ w' = w := by
  have HT := hide (tw_len Words.behindB l)
  go_enter Tryz.func58, Tryz.ntmps58
  go_wp2_with fail
  go_loopw [5] (fun q wr => ∃ i : Nat, i ≤ l.length ∧ q = .int .i64 i ∧ wr = w ∧ Hid (∀ j (h : j < l.length), j < i → Words.behindB l[j] = true)) (fun q _ => l.length - (intOf q).toNat)
  case atStart => exact ⟨0, Nat.zero_le _, rfl, rfl, hide (fun j h hj => by omega)⟩
  case round =>
    obtain ⟨i, hi, rfl, rfl, HP⟩ := hrel
    by_cases hlt : i < l.length
    · have q1 : decide (i < l.length) = true := decide_eq_true hlt
      have hs : i < (⟨l.toArray⟩ : ByteArray).size := hlt
      have hbv : (((⟨l.toArray⟩ : ByteArray)[i]'hs).toNat : Int) = (l[i].toNat : Int) := rfl
      have hlt2 : (i : Int) < l.length := by omega
      have HI := hide (fun W => isInner_any l[i] W)
      by_cases hb : Words.behindB l[i] = true
      · have HB := hide hb
        rw [hb] at HI
        generalize l[i].toNat = m at *
        go_wp2_with (go_at_call 59; refine (unhide HI _).mono ?_; rintro ev w1 ⟨rfl, hw⟩; have hw := hw.symm; subst hw)
        go_roundw
        case rel => exact ⟨i + 1, by omega, by go_num, trivial, hide (fun j h hj => by
            by_cases e : j = i
            · subst e; exact unhide HB
            · exact unhide HP j h (by omega))⟩
        case measure => simp [intOf]; omega
      · replace hb : Words.behindB l[i] = false := by simpa using hb
        have HA := hide (unhide HT i (by omega) (unhide HP) (fun _ => hb))
        rw [hb] at HI
        generalize l[i].toNat = m at *
        go_wp2_with (go_at_call 59; refine (unhide HI _).mono ?_; rintro ev w1 ⟨rfl, hw⟩; have hw := hw.symm; subst hw)
        go_ret
        exact ⟨by rw [unhide HA]; rfl, rfl⟩
    · have q1 : decide (i < l.length) = false := decide_eq_false hlt
      have HA := hide (unhide HT i (by omega) (unhide HP) (fun h => absurd h hlt))
      go_wp2
      go_ret
      exact ⟨by rw [unhide HA]; rfl, rfl⟩
set_option maxHeartbeats 2000000 in
theorem spanDigit_any (l : List UInt8) (w : World) (hl : l.length ≤ 1000000) : Calls Tryz.prog 58 #[.string ⟨l.toArray⟩, .func (.func 60) #[] #[]] w fun e w' => e = .returned (.int .i64 ((l.takeWhile Words.digitB).length : Int)) ∧ w' = w := by
  have HT := hide (tw_len Words.digitB l)
  go_enter Tryz.func58, Tryz.ntmps58
  go_wp2_with fail
  go_loopw [5] (fun q wr => ∃ i : Nat, i ≤ l.length ∧ q = .int .i64 i ∧ wr = w ∧ Hid (∀ j (h : j < l.length), j < i → Words.digitB l[j] = true)) (fun q _ => l.length - (intOf q).toNat)
  case atStart => exact ⟨0, Nat.zero_le _, rfl, rfl, hide (fun j h hj => by omega)⟩
  case round =>
    obtain ⟨i, hi, rfl, rfl, HP⟩ := hrel
    by_cases hlt : i < l.length
    · have q1 : decide (i < l.length) = true := decide_eq_true hlt
      have hs : i < (⟨l.toArray⟩ : ByteArray).size := hlt
      have hbv : (((⟨l.toArray⟩ : ByteArray)[i]'hs).toNat : Int) = (l[i].toNat : Int) := rfl
      have hlt2 : (i : Int) < l.length := by omega
      have HI := hide (fun W => isDigit_any l[i] W)
      by_cases hb : Words.digitB l[i] = true
      · have HB := hide hb
        rw [hb] at HI
        generalize l[i].toNat = m at *
        go_wp2_with (go_at_call 60; refine (unhide HI _).mono ?_; rintro ev w1 ⟨rfl, hw⟩; have hw := hw.symm; subst hw)
        go_roundw
        case rel => exact ⟨i + 1, by omega, by go_num, trivial, hide (fun j h hj => by
            by_cases e : j = i
            · subst e; exact unhide HB
            · exact unhide HP j h (by omega))⟩
        case measure => simp [intOf]; omega
      · replace hb : Words.digitB l[i] = false := by simpa using hb
        have HA := hide (unhide HT i (by omega) (unhide HP) (fun _ => hb))
        rw [hb] at HI
        generalize l[i].toNat = m at *
        go_wp2_with (go_at_call 60; refine (unhide HI _).mono ?_; rintro ev w1 ⟨rfl, hw⟩; have hw := hw.symm; subst hw)
        go_ret
        exact ⟨by rw [unhide HA]; rfl, rfl⟩
    · have q1 : decide (i < l.length) = false := decide_eq_false hlt
      have HA := hide (unhide HT i (by omega) (unhide HP) (fun h => absurd h hlt))
      go_wp2
      go_ret
      exact ⟨by rw [unhide HA]; rfl, rfl⟩
theorem signLen_at0 (l : List UInt8) (h : 0 < l.length) (two : Bool) (ht : two = true ↔ ∃ h2 : 1 < l.length, l[1].toNat = 61) : Words.signLen l = if l[0].toNat = 60 ∨ l[0].toNat = 62 ∨ l[0].toNat = 61 ∨ l[0].toNat = 47 then (if two = true then 2 else 1) else if l[0].toNat = 43 ∨ l[0].toNat = 45 ∨ l[0].toNat = 42 ∨ l[0].toNat = 40 ∨ l[0].toNat = 41 ∨ l[0].toNat = 44 then 1 else 0 := by
  have := signLen_at l 0 h two ht
  rwa [List.drop_zero] at this
set_option maxHeartbeats 4000000 in
theorem signLength_any (l : List UInt8) (h : 0 < l.length) (hl : l.length ≤ 1000000) (w : World) : Calls Tryz.prog 62 #[.string ⟨l.toArray⟩] w fun e w' => e = .returned (.int .i64 (Words.signLen l)) ∧ w' = w := by
  have hs : 0 < (⟨l.toArray⟩ : ByteArray).size := h
  have hbv : (((⟨l.toArray⟩ : ByteArray)[0]'hs).toNat : Int) = (l[0].toNat : Int) := rfl
  have hsz : ((⟨l.toArray⟩ : ByteArray).size : Int) = l.length := rfl
  have hi1 : (0 : Int) < l.length := by omega
  have core : ∀ two : Bool, (two = true ↔ ∃ h2 : 1 < l.length, l[1].toNat = 61) → Calls Tryz.prog 62 #[.string ⟨l.toArray⟩] w fun e w' => e = .returned (.int .i64 (if l[0].toNat = 60 ∨ l[0].toNat = 62 ∨ l[0].toNat = 61 ∨ l[0].toNat = 47 then (if two = true then 2 else 1) else if l[0].toNat = 43 ∨ l[0].toNat = 45 ∨ l[0].toNat = 42 ∨ l[0].toNat = 40 ∨ l[0].toNat = 41 ∨ l[0].toNat = 44 then 1 else 0 : Nat)) ∧ w' = w := by
    intro two ht
    have hcase : (∃ (h2 : 1 < l.length), l[1].toNat = 61 ∧ two = true) ∨ (∃ (h2 : 1 < l.length), l[1].toNat ≠ 61 ∧ two = false) ∨ (¬ 1 < l.length ∧ two = false) := by
      by_cases h2 : 1 < l.length
      · by_cases h3 : l[1].toNat = 61
        · exact .inl ⟨h2, h3, ht.2 ⟨h2, h3⟩⟩
        · refine .inr (.inl ⟨h2, h3, ?_⟩)
          cases two
          · rfl
          · obtain ⟨h4, h5⟩ := ht.1 rfl; exact absurd h5 h3
      · refine .inr (.inr ⟨h2, ?_⟩)
        cases two
        · rfl
        · obtain ⟨h4, h5⟩ := ht.1 rfl; exact absurd h4 h2
    clear ht
    generalize l[0].toNat = n at *
    have hn : n = 60 ∨ n = 62 ∨ n = 61 ∨ n = 47 ∨ n = 43 ∨ n = 45 ∨ n = 42 ∨ n = 40 ∨ n = 41 ∨ n = 44 ∨ (¬ (n = 60 ∨ n = 62 ∨ n = 61 ∨ n = 47) ∧ ¬ (n = 43 ∨ n = 45 ∨ n = 42 ∨ n = 40 ∨ n = 41 ∨ n = 44)) := by omega
    rcases hcase with ⟨h2, h3, rfl⟩ | ⟨h2, h3, rfl⟩ | ⟨h2, rfl⟩
    · have hs2 : 1 < (⟨l.toArray⟩ : ByteArray).size := h2
      have hb2 : (((⟨l.toArray⟩ : ByteArray)[1]'hs2).toNat : Int) = 61 := by
        show (l[1].toNat : Int) = 61
        rw [h3]; rfl
      have q1 : decide (1 < l.length) = true := decide_eq_true h2
      have q2 : (1 : Int) < l.length := by omega
      clear h3
      rcases hn with rfl | rfl | rfl | rfl | rfl | rfl | rfl | rfl | rfl | rfl | ⟨hn1, hn2⟩
      all_goals try (
        go_enter Tryz.func62, Tryz.ntmps62
        go_wp2
        go_ret
        exact ⟨rfl, rfl⟩)
      all_goals (
        rw [if_neg hn1, if_neg hn2]
        have k1 : ((n : Int) == 60) = false := by rw [beq_eq_false_iff_ne]; omega
        have k2 : ((n : Int) == 62) = false := by rw [beq_eq_false_iff_ne]; omega
        have k3 : ((n : Int) == 61) = false := by rw [beq_eq_false_iff_ne]; omega
        have k4 : ((n : Int) == 47) = false := by rw [beq_eq_false_iff_ne]; omega
        have k5 : ((n : Int) == 43) = false := by rw [beq_eq_false_iff_ne]; omega
        have k6 : ((n : Int) == 45) = false := by rw [beq_eq_false_iff_ne]; omega
        have k7 : ((n : Int) == 42) = false := by rw [beq_eq_false_iff_ne]; omega
        have k8 : ((n : Int) == 40) = false := by rw [beq_eq_false_iff_ne]; omega
        have k9 : ((n : Int) == 41) = false := by rw [beq_eq_false_iff_ne]; omega
        have k0 : ((n : Int) == 44) = false := by rw [beq_eq_false_iff_ne]; omega
        clear hn1 hn2
        go_enter Tryz.func62, Tryz.ntmps62
        go_wp2
        go_ret
        exact ⟨rfl, rfl⟩)
    · have hs2 : 1 < (⟨l.toArray⟩ : ByteArray).size := h2
      have hb2 : ((((⟨l.toArray⟩ : ByteArray)[1]'hs2).toNat : Int) == 61) = false := by
        show ((l[1].toNat : Int) == 61) = false
        rw [beq_eq_false_iff_ne]
        omega
      have q1 : decide (1 < l.length) = true := decide_eq_true h2
      have q2 : (1 : Int) < l.length := by omega
      clear h3
      rcases hn with rfl | rfl | rfl | rfl | rfl | rfl | rfl | rfl | rfl | rfl | ⟨hn1, hn2⟩
      all_goals try (
        go_enter Tryz.func62, Tryz.ntmps62
        go_wp2
        go_ret
        exact ⟨rfl, rfl⟩)
      all_goals (
        rw [if_neg hn1, if_neg hn2]
        have k1 : ((n : Int) == 60) = false := by rw [beq_eq_false_iff_ne]; omega
        have k2 : ((n : Int) == 62) = false := by rw [beq_eq_false_iff_ne]; omega
        have k3 : ((n : Int) == 61) = false := by rw [beq_eq_false_iff_ne]; omega
        have k4 : ((n : Int) == 47) = false := by rw [beq_eq_false_iff_ne]; omega
        have k5 : ((n : Int) == 43) = false := by rw [beq_eq_false_iff_ne]; omega
        have k6 : ((n : Int) == 45) = false := by rw [beq_eq_false_iff_ne]; omega
        have k7 : ((n : Int) == 42) = false := by rw [beq_eq_false_iff_ne]; omega
        have k8 : ((n : Int) == 40) = false := by rw [beq_eq_false_iff_ne]; omega
        have k9 : ((n : Int) == 41) = false := by rw [beq_eq_false_iff_ne]; omega
        have k0 : ((n : Int) == 44) = false := by rw [beq_eq_false_iff_ne]; omega
        clear hn1 hn2
        go_enter Tryz.func62, Tryz.ntmps62
        go_wp2
        go_ret
        exact ⟨rfl, rfl⟩)
    · have q1 : decide (1 < l.length) = false := decide_eq_false h2
      rcases hn with rfl | rfl | rfl | rfl | rfl | rfl | rfl | rfl | rfl | rfl | ⟨hn1, hn2⟩
      all_goals try (
        go_enter Tryz.func62, Tryz.ntmps62
        go_wp2
        go_ret
        exact ⟨rfl, rfl⟩)
      all_goals (
        rw [if_neg hn1, if_neg hn2]
        have k1 : ((n : Int) == 60) = false := by rw [beq_eq_false_iff_ne]; omega
        have k2 : ((n : Int) == 62) = false := by rw [beq_eq_false_iff_ne]; omega
        have k3 : ((n : Int) == 61) = false := by rw [beq_eq_false_iff_ne]; omega
        have k4 : ((n : Int) == 47) = false := by rw [beq_eq_false_iff_ne]; omega
        have k5 : ((n : Int) == 43) = false := by rw [beq_eq_false_iff_ne]; omega
        have k6 : ((n : Int) == 45) = false := by rw [beq_eq_false_iff_ne]; omega
        have k7 : ((n : Int) == 42) = false := by rw [beq_eq_false_iff_ne]; omega
        have k8 : ((n : Int) == 40) = false := by rw [beq_eq_false_iff_ne]; omega
        have k9 : ((n : Int) == 41) = false := by rw [beq_eq_false_iff_ne]; omega
        have k0 : ((n : Int) == 44) = false := by rw [beq_eq_false_iff_ne]; omega
        clear hn1 hn2
        go_enter Tryz.func62, Tryz.ntmps62
        go_wp2
        go_ret
        exact ⟨rfl, rfl⟩)
  by_cases hx : ∃ h2 : 1 < l.length, l[1].toNat = 61
  · rw [signLen_at0 l h true ⟨fun _ => hx, fun _ => rfl⟩]
    exact core true ⟨fun _ => hx, fun _ => rfl⟩
  · rw [signLen_at0 l h false ⟨fun h => (by cases h), fun h => absurd h hx⟩]
    exact core false ⟨fun h => (by cases h), fun h => absurd h hx⟩
end Go.Proofs.YtepnafnljfjeoaaGreatDoor.Line

namespace Go.Proofs.YtepnafnljfjeoaaGreatDoor.Line
open Go.ChangeShapes Go.WideShapes Go.ChangeAt Go.RowKit
set_option linter.unusedVariables false

/-- What a checked operation answers for the whole number x: x itself where 64 bits hold it, else 0. -/
def fitV (x : Int) : Int := if -9223372036854775808 ≤ x ∧ x ≤ 9223372036854775807 then x else 0
/-- Whether 64 bits hold x. -/
def fitO (x : Int) : Bool := decide (-9223372036854775808 ≤ x ∧ x ≤ 9223372036854775807)
theorem fitV_in {x : Int} (h : -9223372036854775808 ≤ x) (g : x ≤ 9223372036854775807) : fitV x = x := by
  unfold fitV; rw [if_pos ⟨h, g⟩]
theorem fitO_in {x : Int} (h : -9223372036854775808 ≤ x) (g : x ≤ 9223372036854775807) : fitO x = true := by
  unfold fitO; exact decide_eq_true ⟨h, g⟩
theorem fitV_out {x : Int} (h : x < -9223372036854775808 ∨ 9223372036854775807 < x) : fitV x = 0 := by
  unfold fitV; rw [if_neg (by omega)]
theorem fitO_out {x : Int} (h : x < -9223372036854775808 ∨ 9223372036854775807 < x) : fitO x = false := by
  unfold fitO; exact decide_eq_false (by omega)
theorem ret_two {k : IntKind} {a b : Int} {c d : Bool} (h : a = b) (g : c = d) :
    Ending.returned (.tuple #[.int k a, .bool c]) = .returned (.tuple #[.int k b, .bool d]) := by rw [h, g]

/- quotients -/
theorem size_any (a : Int) (w : World) (h1 : -9223372036854775808 ≤ a) (h2 : a ≤ 9223372036854775807) :
    Calls Tryz.prog 96 #[.int .i64 a] w fun e w' => e = .returned (.int .u64 (a.natAbs : Int)) ∧ w' = w := by
  go_enter Tryz.func96, Tryz.ntmps96
  go_wp2
  all_goals go_ret
  · exact ⟨ret_int (by rw [IntKind.wrap_u64, IntKind.wrap_u64]; omega), rfl⟩
  · exact ⟨ret_int (by omega), rfl⟩
theorem add_any (a b : Int) (w : World) (h1 : -9223372036854775808 ≤ a) (h2 : a ≤ 9223372036854775807) (h3 : -9223372036854775808 ≤ b) (h4 : b ≤ 9223372036854775807) :
    Calls Tryz.prog 86 #[.int .i64 a, .int .i64 b] w fun e w' => e = .returned (.tuple #[.int .i64 (fitV (a + b)), .bool (fitO (a + b))]) ∧ w' = w := by
  go_enter Tryz.func86, Tryz.ntmps86
  go_wp2
  all_goals go_ret2
  all_goals first
    | exact ⟨ret_two (fitV_out (by omega)).symm (fitO_out (by omega)).symm, rfl⟩
    | exact ⟨ret_two (fitV_in (by omega) (by omega)).symm (fitO_in (by omega) (by omega)).symm, rfl⟩
theorem maskN (a : Nat) (ha : a < 18446744073709551616) : bits .and .u64 (a : Int) 4294967295 = ((a % 4294967296 : Nat) : Int) := by
  have h := bits_and_u64_nat a 4294967295 ha (by omega)
  rw [Nat.and_two_pow_sub_one_eq_mod a 32] at h
  exact h
theorem divN (a : Nat) : (a : Int) / 4294967296 = ((a / 4294967296 : Nat) : Int) := by omega
theorem wrapN (a : Nat) (ha : a < 18446744073709551616) : IntKind.u64.wrap (a : Int) = (a : Int) := by rw [IntKind.wrap_u64]; omega
theorem wrapM (a : Nat) : IntKind.u64.wrap (a : Int) = ((a % 18446744073709551616 : Nat) : Int) := by rw [IntKind.wrap_u64]; omega
theorem mul64_any (x y : Nat) (hx : x < 18446744073709551616) (hy : y < 18446744073709551616) (w : World) :
    Calls Tryz.prog 95 #[.int .u64 x, .int .u64 y] w fun e w' => e = .returned (.tuple #[.int .u64 ((x * y / 18446744073709551616 : Nat) : Int), .int .u64 ((x * y % 18446744073709551616 : Nat) : Int)]) ∧ w' = w := by
  obtain ⟨bd, bt, bw, hhi⟩ := Lib.mul64_hi x y hx hy
  have ba := Lib.half_mul_le (a := x / 4294967296) (b := y / 4294967296) (by omega) (by omega)
  have bb := Lib.half_mul_le (a := x / 4294967296) (b := y % 4294967296) (by omega) (by omega)
  have bc := Lib.half_mul_le (a := x % 4294967296) (b := y / 4294967296) (by omega) (by omega)
  have ba' : x / 4294967296 * (y / 4294967296) < 18446744073709551616 := by omega
  have bb' : x / 4294967296 * (y % 4294967296) < 18446744073709551616 := by omega
  have bc' : x % 4294967296 * (y / 4294967296) < 18446744073709551616 := by omega
  have bh1 : x / 4294967296 * (y / 4294967296) + (x / 4294967296 * (y % 4294967296) + x % 4294967296 * (y % 4294967296) / 4294967296) / 4294967296 < 18446744073709551616 := by omega
  have bh : x / 4294967296 * (y / 4294967296) + (x / 4294967296 * (y % 4294967296) + x % 4294967296 * (y % 4294967296) / 4294967296) / 4294967296 + ((x / 4294967296 * (y % 4294967296) + x % 4294967296 * (y % 4294967296) / 4294967296) % 4294967296 + x % 4294967296 * (y / 4294967296)) / 4294967296 < 18446744073709551616 := by omega
  go_enter Tryz.func95, Tryz.ntmps95
  go_wp2
  simp only [maskN x hx, maskN y hy, divN, ← Int.natCast_mul, ← Int.natCast_add, wrapN _ bd, wrapN _ bb', wrapN _ bt, maskN _ bt, wrapN _ bc', wrapN _ bw, wrapN _ ba', wrapN _ bh1, wrapN _ bh, wrapM (x * y)]
  rw [hhi]
  go_ret2
  exact ⟨rfl, rfl⟩
theorem signed_any (n : Int) (b : Bool) (w : World) (h1 : 0 ≤ n) (h2 : n ≤ 18446744073709551615) :
    Calls Tryz.prog 97 #[.int .u64 n, .bool b] w fun e w' => e = .returned (.tuple #[.int .i64 (fitV (if b = true then -n else n)), .bool (fitO (if b = true then -n else n))]) ∧ w' = w := by
  cases b
  · simp only [Bool.false_eq_true, if_false]
    go_enter Tryz.func97, Tryz.ntmps97
    go_wp2
    all_goals go_ret2
    all_goals first
      | exact ⟨ret_two (fitV_out (by omega)).symm (fitO_out (by omega)).symm, rfl⟩
      | exact ⟨ret_two (fitV_in (by omega) (by omega)).symm (fitO_in (by omega) (by omega)).symm, rfl⟩
  · simp only [if_true]
    go_enter Tryz.func97, Tryz.ntmps97
    go_wp2
    all_goals go_ret2
    all_goals first
      | exact ⟨ret_two (fitV_out (by omega)).symm (fitO_out (by omega)).symm, rfl⟩
      | exact ⟨ret_two ((by rw [IntKind.wrap_u64]; unfold wrap64; omega : _ = -n).trans (fitV_in (by omega) (by omega)).symm) (fitO_in (by omega) (by omega)).symm, rfl⟩
theorem prod_same {a b : Int} (h : a < 0 ↔ b < 0) : a * b = ↑a.natAbs * ↑b.natAbs := by
  by_cases ha : a < 0
  · have hb := h.1 ha
    rw [show (a.natAbs : Int) = -a by omega, show (b.natAbs : Int) = -b by omega, Int.neg_mul_neg]
  · have hb := fun g => ha (h.2 g)
    rw [show (a.natAbs : Int) = a by omega, show (b.natAbs : Int) = b by omega]
theorem prod_diff {a b : Int} (h : ¬ (a < 0 ↔ b < 0)) : a * b = -(↑a.natAbs * ↑b.natAbs) := by
  by_cases ha : a < 0
  · rw [show (a.natAbs : Int) = -a by omega, show (b.natAbs : Int) = b by omega, Int.neg_mul, Int.neg_neg]
  · rw [show (a.natAbs : Int) = a by omega, show (b.natAbs : Int) = -b by omega, Int.mul_neg, Int.neg_neg]
theorem prod_nonneg (a b : Int) : 0 ≤ (a.natAbs : Int) * (b.natAbs : Int) := Int.mul_nonneg (by omega) (by omega)
theorem prod_great {a b : Int} (h : ((a.natAbs : Int) * (b.natAbs : Int) / 18446744073709551616 != 0) = true) : a * b < -9223372036854775808 ∨ 9223372036854775807 < a * b := by
  have := prod_nonneg a b
  have h : ¬ ((a.natAbs : Int) * (b.natAbs : Int) / 18446744073709551616 = 0) := by simpa using h
  by_cases g : a < 0 ↔ b < 0
  · rw [prod_same g]; omega
  · rw [prod_diff g]; omega
theorem prod_small {a b : Int} (h : ((a.natAbs : Int) * (b.natAbs : Int) / 18446744073709551616 != 0) = false) : (a.natAbs : Int) * (b.natAbs : Int) % 18446744073709551616 = (a.natAbs : Int) * (b.natAbs : Int) := by
  have := prod_nonneg a b
  have h : ((a.natAbs : Int) * (b.natAbs : Int) / 18446744073709551616 = 0) := by simpa using h
  omega
theorem mul_any (a b : Int) (w : World) (h1 : -9223372036854775808 ≤ a) (h2 : a ≤ 9223372036854775807) (h3 : -9223372036854775808 ≤ b) (h4 : b ≤ 9223372036854775807) :
    Calls Tryz.prog 85 #[.int .i64 a, .int .i64 b] w fun e w' => e = .returned (.tuple #[.int .i64 (fitV (a * b)), .bool (fitO (a * b))]) ∧ w' = w := by
  go_enter Tryz.func85, Tryz.ntmps85
  go_wp2_with (first
    | (go_at_call 96; refine (size_any _ _ (by assumption) (by assumption)).mono ?_; rintro e w' ⟨rfl, rfl⟩)
    | (go_at_call 95; refine (mul64_any _ _ (by omega) (by omega) _).mono ?_; rintro e w' ⟨rfl, rfl⟩)
    | (go_at_call 97; refine (signed_any _ _ _ (by omega) (by omega)).mono ?_; rintro e w' ⟨rfl, rfl⟩))
  all_goals go_ret2
  · exact ⟨ret_two (fitV_out (prod_great ‹_›)).symm (fitO_out (prod_great ‹_›)).symm, rfl⟩
  · have e : (a.natAbs : Int) * (b.natAbs : Int) % 18446744073709551616 = a * b := (prod_small ‹_›).trans (prod_same ‹_›).symm
    exact ⟨ret_two (by rw [e]) (by rw [e]), rfl⟩
  · have e : -((a.natAbs : Int) * (b.natAbs : Int) % 18446744073709551616) = a * b := by rw [prod_small ‹_›]; exact (prod_diff ‹_›).symm
    exact ⟨ret_two (by rw [e]) (by rw [e]), rfl⟩
end Go.Proofs.YtepnafnljfjeoaaGreatDoor.Line

namespace Go.Proofs.YtepnafnljfjeoaaGreatDoor.Line
open Go.ChangeShapes Go.WideShapes Go.ChangeAt Go.RowKit
set_option linter.unusedVariables false

/-- a word whose place is not told yet, as a value -/
def tokA (t : Words.T) : Value := .agg #[.int .i64 t.kind, .string ⟨t.text.toArray⟩, .int .i64 0, .int .i64 t.n]
/-- an Errno, or none, as a value -/
def errV (e : Nat) : Value := if e = 0 then .nilIface else .iface 95 (.int .i64 e)
def lettersW (s : List UInt8) : Words.T × Nat := if Words.isKey s then (⟨4, s, 0, 0⟩, 0) else if 31 < s.length then (⟨0, [], 0, 0⟩, 4) else (⟨1, s, 0, 0⟩, 0)

abbrev zeroTok : Array Value := #[.int .i64 0, .string ⟨#[]⟩, .int .i64 0, .int .i64 0]
set_option maxHeartbeats 2000000 in
theorem letters_any (l : List UInt8) (w : World) (hl : l.length ≤ 1000000) : Calls Tryz.prog 57 #[.string ⟨l.toArray⟩] w fun e w' => e = .returned (.tuple #[tokA (lettersW l).1, errV (lettersW l).2]) ∧ Below w.heap.size w w' := by
  have HK := hide (isKeyD_any l)
  unfold lettersW
  by_cases hk : Words.isKey l = true
  · rw [if_pos hk]
    rw [hk] at HK
    clear hk
    go_enter Tryz.func57, Tryz.ntmps57
    go_wp2_with (go_at_call 84; refine (unhide HK _).mono ?_; rintro ev w1 ⟨rfl, hw⟩; have hw := hw.symm; subst hw)
    exact bodyPost_ret (v := .tuple #[tokA ⟨4, l, 0, 0⟩, errV 0]) (by simp [results, Tryz.results57, go_sem, tokA, errV]) rfl ⟨rfl, alloc_below _ _⟩
  · rw [if_neg hk]
    replace hk : Words.isKey l = false := by simpa using hk
    rw [hk] at HK
    clear hk
    by_cases h31 : 31 < l.length
    · rw [if_pos h31]
      have q1 : decide (31 < l.length) = true := decide_eq_true h31
      go_enter Tryz.func57, Tryz.ntmps57
      go_wp2_with (go_at_call 84; refine (unhide HK _).mono ?_; rintro ev w1 ⟨rfl, hw⟩; have hw := hw.symm; subst hw)
      exact bodyPost_ret (v := .tuple #[tokA ⟨0, [], 0, 0⟩, errV 4]) (by simp [results, Tryz.results57, go_sem, tokA, errV]) rfl ⟨rfl, alloc_below _ _⟩
    · rw [if_neg h31]
      have q1 : decide (31 < l.length) = false := decide_eq_false h31
      go_enter Tryz.func57, Tryz.ntmps57
      go_wp2_with (go_at_call 84; refine (unhide HK _).mono ?_; rintro ev w1 ⟨rfl, hw⟩; have hw := hw.symm; subst hw)
      exact bodyPost_ret (v := .tuple #[tokA ⟨1, l, 0, 0⟩, errV 0]) (by simp [results, Tryz.results57, go_sem, tokA, errV]) rfl ⟨rfl, alloc_below _ _⟩

def digitsW (s : List UInt8) : Words.T × Nat := if Words.big < Words.num s then (⟨0, [], 0, 0⟩, 5) else (⟨2, s, 0, Words.num s⟩, 0)
set_option maxHeartbeats 4000000 in
set_option maxRecDepth 100000 in
theorem digits_any (l : List UInt8) (hd : ∀ i (h : i < l.length), Words.digitB l[i] = true) (hl : l.length ≤ 1000000) (w : World) : Calls Tryz.prog 61 #[.string ⟨l.toArray⟩] w fun e w' => e = .returned (.tuple #[tokA (digitsW l).1, errV (digitsW l).2]) ∧ Below w.heap.size w w' := by
  have hsz : ((⟨l.toArray⟩ : ByteArray).size : Int) = l.length := rfl
  have HD := hide hd
  clear hd
  obtain ⟨ans, hans⟩ : ∃ a, Ending.returned (.tuple #[tokA (digitsW l).1, errV (digitsW l).2]) = a := ⟨_, rfl⟩
  rw [hans]
  have HANS := hide hans
  clear hans
  go_enter Tryz.func61, Tryz.ntmps61
  go_wp2
  go_loopw [4, 10] (fun x q wr => ∃ i : Nat, i ≤ l.length ∧ q = .int .i64 i ∧ x = .int .i64 (Words.num (l.take i) : Int) ∧ wr = w.alloc (.cells zeroTok 90) ∧ Hid (Words.num (l.take i) ≤ Words.big)) (fun _ q _ => l.length - (intOf q).toNat)
  case atStart => exact ⟨0, Nat.zero_le _, rfl, rfl, rfl, hide (Nat.zero_le _)⟩
  case round =>
    obtain ⟨i, hi, rfl, rfl, rfl, HB⟩ := hrel
    by_cases hlt : i < l.length
    · have hs : i < (⟨l.toArray⟩ : ByteArray).size := hlt
      have hbv : (((⟨l.toArray⟩ : ByteArray)[i]'hs).toNat : Int) = (l[i].toNat : Int) := rfl
      have hlt2 : (i : Int) < l.length := by omega
      have hdg := unhide HD i hlt
      unfold Words.digitB at hdg
      simp only [Bool.and_eq_true, decide_eq_true_eq] at hdg
      have HNT := hide (num_take l i hlt)
      have HLE := hide (num_le l (i + 1))
      have hnb := unhide HB
      generalize hnn : l[i].toNat = n at *
      generalize Words.num (l.take i) = m at *
      obtain ⟨d, rfl⟩ : ∃ d, n = d + 48 := ⟨n - 48, by omega⟩
      have hd9 : d ≤ 9 := by omega
      unfold Words.big at hnb
      clear hdg
      have e1 : ((d + 48 : Nat) : Int) - 48 = d := by omega
      have HM := hide (fun W => mul_any (m : Int) 10 W (by omega) (by omega) (by omega) (by omega))
      by_cases hov : 10 * m ≤ 9223372036854775807
      · rw [fitV_in (by omega) (by omega), fitO_in (by omega) (by omega), show (m : Int) * 10 = ((10 * m : Nat) : Int) by omega] at HM
        have HA := hide (fun W => add_any ((10 * m : Nat) : Int) (d : Int) W (by omega) (by omega) (by omega) (by omega))
        obtain ⟨mm, hmm⟩ : ∃ mm, 10 * m = mm := ⟨_, rfl⟩
        rw [hmm] at HM HA
        by_cases hov2 : mm + d ≤ 9223372036854775807
        · rw [fitV_in (by omega) (by omega), fitO_in (by omega) (by omega), show (mm : Int) + (d : Int) = ((mm + d : Nat) : Int) by omega] at HA
          go_wp2_with (first | (go_at_call 85; refine (unhide HM _).mono ?_; rintro ev w1 ⟨rfl, hw⟩; have hw := hw.symm; subst hw) | (go_at_call 86; refine (unhide HA _).mono ?_; rintro ev w1 ⟨rfl, hw⟩; have hw := hw.symm; subst hw))
          go_roundw
          case rel => exact ⟨i + 1, by omega, by go_num, by rw [unhide HNT, show d + 48 - 48 = d by omega, hmm]; simp, trivial, hide (by rw [unhide HNT]; unfold Words.big; omega)⟩
          case measure => simp [intOf]; omega
        · rw [fitV_out (by omega), fitO_out (by omega)] at HA
          have HOV : Hid (Words.big < Words.num l) := hide (by have h1 := unhide HNT; have h2 := unhide HLE; unfold Words.big; omega)
          go_wp2_with (first | (go_at_call 85; refine (unhide HM _).mono ?_; rintro ev w1 ⟨rfl, hw⟩; have hw := hw.symm; subst hw) | (go_at_call 86; refine (unhide HA _).mono ?_; rintro ev w1 ⟨rfl, hw⟩; have hw := hw.symm; subst hw))
          refine bodyPost_ret (v := .tuple #[tokA ⟨0, [], 0, 0⟩, errV 5]) (by simp [results, Tryz.results61, go_sem, tokA, errV]) rfl ⟨?_, alloc_below _ _⟩
          rw [← unhide HANS]
          unfold digitsW
          rw [if_pos (unhide HOV)]
      · rw [fitV_out (by omega), fitO_out (by omega)] at HM
        have HOV : Hid (Words.big < Words.num l) := hide (by have h1 := unhide HNT; have h2 := unhide HLE; unfold Words.big; omega)
        go_wp2_with (first | (go_at_call 85; refine (unhide HM _).mono ?_; rintro ev w1 ⟨rfl, hw⟩; have hw := hw.symm; subst hw))
        refine bodyPost_ret (v := .tuple #[tokA ⟨0, [], 0, 0⟩, errV 5]) (by simp [results, Tryz.results61, go_sem, tokA, errV]) rfl ⟨?_, alloc_below _ _⟩
        rw [← unhide HANS]
        unfold digitsW
        rw [if_pos (unhide HOV)]
    · have hil : i = l.length := by omega
      have HQ : Hid (l.take i = l) := hide (by rw [hil, List.take_length])
      have hnb := unhide HB
      rw [unhide HQ] at hnb
      have HNB := hide hnb
      rw [unhide HQ]
      generalize hm : Words.num l = m at *
      clear hil
      have HM := hide hm
      clear hm
      go_wp2
      refine bodyPost_ret (v := .tuple #[tokA ⟨2, l, 0, m⟩, errV 0]) (by simp [results, Tryz.results61, go_sem, tokA, errV]) rfl ⟨?_, alloc_below _ _⟩
      rw [← unhide HANS]
      unfold digitsW
      rw [unhide HM, if_neg (by have := unhide HNB; omega)]

theorem clings_nil (k : Nat) : Words.clingsB [] k = false := rfl
theorem clings_last (l : List Words.T) (m : Nat) (h : l.length = m + 1) (k : Nat) : Words.clingsB l k = (decide ((l[m]'(by omega)).kind = 2) && (decide (k = 1) || decide (k = 4))) := by
  unfold Words.clingsB
  rw [List.getLast?_eq_getElem?, show l.length - 1 = m by omega, List.getElem?_eq_getElem (by omega)]
set_option maxHeartbeats 4000000 in
theorem clings_any (u : Value) (l : List Words.T) (t : Words.T) (w : World) (hT : Tks w u l) (hl : l.length ≤ 1000000) : Calls Tryz.prog 43 #[u, tokA t] w fun e w' => e = .returned (.bool (Words.clingsB l t.kind)) ∧ Below w.heap.size w w' := by
  unfold tokA
  have hT2 := hT.below (alloc_below w (.cells #[.int .i64 t.kind, .string ⟨t.text.toArray⟩, .int .i64 0, .int .i64 t.n] 90))
  have hB := alloc_below w (.cells #[.int .i64 t.kind, .string ⟨t.text.toArray⟩, .int .i64 0, .int .i64 t.n] 90)
  have HB := hide hB
  clear hB
  have c0 : (w.alloc (.cells #[.int .i64 t.kind, .string ⟨t.text.toArray⟩, .int .i64 0, .int .i64 t.n] 90)).cell? ⟨w.heap.size, 0, none⟩ = some (.int .i64 t.kind) := by simp
  by_cases h0 : l.length = 0
  · obtain rfl : l = [] := List.length_eq_zero_iff.1 h0
    obtain ⟨a, c, rfl⟩ := hT.shape
    rw [clings_nil]
    clear hT hT2 h0 c0
    go_enter Tryz.func43, Tryz.ntmps43
    go_wp2
    go_ret
    exact ⟨rfl, unhide HB⟩
  · obtain ⟨m, hm⟩ : ∃ m, l.length = m + 1 := ⟨l.length - 1, by omega⟩
    rw [clings_last l m hm]
    rcases hT2 with ⟨_, _, _, hnil⟩ | ⟨b, off, cap, rfl, hcap, hcells⟩
    · exact absurd (by rw [hnil]; rfl) h0
    obtain ⟨d0, -, -, -⟩ := hcells m (by omega)
    clear hcells hT h0
    generalize (l[m]'(by omega)).kind = lk at *
    generalize l.length = n at *
    have e1 : (n : Int) - 1 = m := by omega
    have e2 : ((n : Int) == 0) = false := by rw [beq_eq_false_iff_ne]; omega
    have e3 : ¬ (n : Int) = 0 := by omega
    have hm1 : m + 1 ≤ cap := by omega
    have hm2 : (m : Int) < n := by omega
    have hm3 : m ≤ 1000000 := by omega
    clear hm
    generalize t.kind = k at *
    by_cases g1 : lk = 2
    · subst g1
      by_cases g2 : k = 1
      · have k1 : (k : Int) = 1 := by omega
        have HG := hide g2
        rw [k1] at c0 HB d0 ⊢
        clear k1 g2
        go_enter Tryz.func43, Tryz.ntmps43
        go_wp2
        go_ret
        exact ⟨ret_bool (by rw [unhide HG]; rfl), unhide HB⟩
      · have k1 : ((k : Int) == 1) = false := by rw [beq_eq_false_iff_ne]; omega
        go_enter Tryz.func43, Tryz.ntmps43
        go_wp2
        go_ret
        refine ⟨ret_bool ?_, unhide HB⟩
        by_cases g3 : k = 4
        · subst g3; rfl
        · have k4 : ((k : Int) == 4) = false := by rw [beq_eq_false_iff_ne]; omega
          simp [g2, g3, k4]
    · have k2 : ((lk : Int) != 2) = true := by rw [bne_iff_ne]; omega
      have k3 : ¬ (lk : Int) = 2 := by omega
      rw [decide_eq_false g1]
      go_enter Tryz.func43, Tryz.ntmps43
      go_wp2
      go_ret
      exact ⟨rfl, unhide HB⟩

/-- the block of the named result, a Tok, behind a call that wrote new memory alone -/
theorem tok_cells {w w2 : World} (hB : Below (w.heap.size + 1) (w.alloc (.cells zeroTok 90)) w2) :
    (w2.cell? ⟨w.heap.size, 0, none⟩ = some (.int .i64 0) ∧ w2.cell? ⟨w.heap.size, 1, none⟩ = some (.string ⟨#[]⟩) ∧ w2.cell? ⟨w.heap.size, 2, none⟩ = some (.int .i64 0) ∧ w2.cell? ⟨w.heap.size, 3, none⟩ = some (.int .i64 0)) ∧ (w2.frozen? ⟨w.heap.size, 0, none⟩ = false ∧ w2.frozen? ⟨w.heap.size, 1, none⟩ = false ∧ w2.frozen? ⟨w.heap.size, 2, none⟩ = false ∧ w2.frozen? ⟨w.heap.size, 3, none⟩ = false) ∧ w.heap.size < w2.heap.size ∧ Below w.heap.size w w2 := by
  refine ⟨⟨?_, ?_, ?_, ?_⟩, ⟨?_, ?_, ?_, ?_⟩, by have := hB.size; simp at this; omega, ((Below.refl _ _).alloc (Nat.le_refl _) _).trans (hB.mono (by omega))⟩
  · rw [hB.cell (p := ⟨w.heap.size, 0, none⟩) (by simp)]; simp
  · rw [hB.cell (p := ⟨w.heap.size, 1, none⟩) (by simp)]; simp
  · rw [hB.cell (p := ⟨w.heap.size, 2, none⟩) (by simp)]; simp
  · rw [hB.cell (p := ⟨w.heap.size, 3, none⟩) (by simp)]; simp
  · rw [hB.frozen (p := ⟨w.heap.size, 0, none⟩) (by simp)]; simp
  · rw [hB.frozen (p := ⟨w.heap.size, 1, none⟩) (by simp)]; simp
  · rw [hB.frozen (p := ⟨w.heap.size, 2, none⟩) (by simp)]; simp
  · rw [hB.frozen (p := ⟨w.heap.size, 3, none⟩) (by simp)]; simp
theorem first_names {l : List UInt8} (h : Words.headIs Words.letterB l = true) : Words.first l = lettersW (l.takeWhile Words.behindB) := by
  unfold Words.first lettersW
  rw [if_pos h]
theorem first_numbers {l : List UInt8} (h : Words.headIs Words.letterB l = false) (h2 : Words.headIs Words.digitB l = true) : Words.first l = digitsW (l.takeWhile Words.digitB) := by
  unfold Words.first digitsW
  rw [if_neg (by rw [h]; decide), if_pos h2]
theorem first_signs {l : List UInt8} (h : Words.headIs Words.letterB l = false) (h2 : Words.headIs Words.digitB l = false) : Words.first l = if Words.signLen l = 0 then (⟨0, [], 0, 0⟩, 3) else (⟨3, l.take (Words.signLen l), 0, 0⟩, 0) := by
  unfold Words.first
  rw [if_neg (by rw [h]; decide), if_neg (by rw [h2]; decide)]
theorem head_at (p : UInt8 → Bool) (l : List UInt8) (h : 0 < l.length) : Words.headIs p l = p l[0] := by
  cases l with
  | nil => simp at h
  | cons c r => rfl
theorem take_tw (p : UInt8 → Bool) (l : List UInt8) : l.take (l.takeWhile p).length = l.takeWhile p := (List.prefix_iff_eq_take.1 (List.takeWhile_prefix _)).symm
set_option maxHeartbeats 4000000 in
set_option maxRecDepth 100000 in
theorem first_any (l : List UInt8) (w : World) (h0 : 0 < l.length) (hl : l.length ≤ 1000000) : Calls Tryz.prog 42 #[.string ⟨l.toArray⟩] w fun e w' => e = .returned (.tuple #[tokA (Words.first l).1, errV (Words.first l).2]) ∧ Below w.heap.size w w' := by
  have hs : 0 < (⟨l.toArray⟩ : ByteArray).size := h0
  have hbv : (((⟨l.toArray⟩ : ByteArray)[0]'hs).toNat : Int) = (l[0].toNat : Int) := rfl
  have hlt2 : (0 : Int) < l.length := by omega
  have HS := hide (fun W => isSmall_any l[0] W)
  have HD := hide (fun W => isDigit_any l[0] W)
  have H1 := hide (head_at Words.letterB l h0)
  have H2 := hide (head_at Words.digitB l h0)
  by_cases g1 : Words.letterB l[0] = true
  · rw [first_names ((unhide H1).trans g1)]
    rw [g1] at HS
    have HSP := hide (fun W => spanInner_any l W hl)
    have HTW := hide (take_tw Words.behindB l)
    have hle : (l.takeWhile Words.behindB).length ≤ l.length := (List.takeWhile_prefix _).length_le
    have HLE := hide (fun W => letters_any (l.takeWhile Words.behindB) W (by omega))
    generalize l.takeWhile Words.behindB = X at *
    generalize lettersW X = r at *
    obtain ⟨⟨rk, rt, rp, rn⟩, re⟩ := r
    generalize l[0].toNat = c0 at *
    have hxe : (⟨l.toArray⟩ : ByteArray).extract 0 X.length = ⟨X.toArray⟩ := by rw [ext_front, unhide HTW]
    have hle2 : (X.length : Int) ≤ l.length := by omega
    clear g1 H1 H2
    go_enter Tryz.func42, Tryz.ntmps42
    go_wp2_with (first | (go_at_call 56; refine (unhide HS _).mono ?_; rintro ev w1 ⟨rfl, hw⟩; have hw := hw.symm; subst hw) | (go_at_call 58; refine (unhide HSP _).mono ?_; rintro ev w1 ⟨rfl, hw⟩; have hw := hw.symm; subst hw))
    refine (unhide HLE _).mono ?_
    rintro ev w4 ⟨rfl, hb4⟩
    have hb5 : Below (w.heap.size + 1) (w.alloc (.cells zeroTok 90)) w4 := hb4.mono (by simp)
    obtain ⟨⟨k0, k1, k2, k3⟩, ⟨z0, z1, z2, z3⟩, hsz, hB⟩ := tok_cells hb5
    have HB := hide hB
    clear hb4 hb5 hB
    unfold tokA
    go_wp2
    refine bodyPost_ret (v := .tuple #[tokA ⟨rk, rt, rp, rn⟩, errV re]) (by simp [results, Tryz.results42, go_sem, tokA, k0, k1, k2, k3]) rfl ⟨rfl, ?_⟩
    exact ((((unhide HB).setCell (Nat.le_refl _) _).setCell (Nat.le_refl _) _).setCell (Nat.le_refl _) _).setCell (Nat.le_refl _) _
  · replace g1 : Words.letterB l[0] = false := by simpa using g1
    rw [g1] at HS
    by_cases g2 : Words.digitB l[0] = true
    · rw [first_numbers ((unhide H1).trans g1) ((unhide H2).trans g2)]
      rw [g2] at HD
      have HSP := hide (fun W => spanDigit_any l W hl)
      have HTW := hide (take_tw Words.digitB l)
      have hle : (l.takeWhile Words.digitB).length ≤ l.length := (List.takeWhile_prefix _).length_le
      have HLE := hide (fun W => digits_any (l.takeWhile Words.digitB) (fun i h => List.all_eq_true.1 List.all_takeWhile _ (List.getElem_mem h)) (by omega) W)
      generalize l.takeWhile Words.digitB = X at *
      generalize digitsW X = r at *
      obtain ⟨⟨rk, rt, rp, rn⟩, re⟩ := r
      generalize l[0].toNat = c0 at *
      have hxe : (⟨l.toArray⟩ : ByteArray).extract 0 X.length = ⟨X.toArray⟩ := by rw [ext_front, unhide HTW]
      have hle2 : (X.length : Int) ≤ l.length := by omega
      clear g1 g2 H1 H2
      go_enter Tryz.func42, Tryz.ntmps42
      go_wp2_with (first | (go_at_call 56; refine (unhide HS _).mono ?_; rintro ev w1 ⟨rfl, hw⟩; have hw := hw.symm; subst hw) | (go_at_call 60; refine (unhide HD _).mono ?_; rintro ev w1 ⟨rfl, hw⟩; have hw := hw.symm; subst hw) | (go_at_call 58; refine (unhide HSP _).mono ?_; rintro ev w1 ⟨rfl, hw⟩; have hw := hw.symm; subst hw))
      refine (unhide HLE _).mono ?_
      rintro ev w4 ⟨rfl, hb4⟩
      have hb5 : Below (w.heap.size + 1) (w.alloc (.cells zeroTok 90)) w4 := hb4.mono (by simp)
      obtain ⟨⟨k0, k1, k2, k3⟩, ⟨z0, z1, z2, z3⟩, hsz, hB⟩ := tok_cells hb5
      have HB := hide hB
      clear hb4 hb5 hB
      unfold tokA
      go_wp2
      refine bodyPost_ret (v := .tuple #[tokA ⟨rk, rt, rp, rn⟩, errV re]) (by simp [results, Tryz.results42, go_sem, tokA, k0, k1, k2, k3]) rfl ⟨rfl, ?_⟩
      exact ((((unhide HB).setCell (Nat.le_refl _) _).setCell (Nat.le_refl _) _).setCell (Nat.le_refl _) _).setCell (Nat.le_refl _) _
    · replace g2 : Words.digitB l[0] = false := by simpa using g2
      rw [first_signs ((unhide H1).trans g1) ((unhide H2).trans g2)]
      rw [g2] at HD
      have HSG := hide (fun W => signLength_any l h0 hl W)
      have HKL := hide (Words.signLen_le l)
      have hle : Words.signLen l ≤ l.length := by
        have := Words.signLen_le l
        cases hh : l with
        | nil => simp [Words.signLen]
        | cons c r =>
          simp only [Words.signLen]
          split
          · split
            · rename_i hr
              cases r with
              | nil => cases hr
              | cons _ _ => simp
            · simp
          · split <;> simp
      generalize Words.signLen l = k at *
      generalize l[0].toNat = c0 at *
      clear g1 g2 H1 H2
      by_cases hk : k = 0
      · subst hk
        rw [if_pos rfl]
        go_enter Tryz.func42, Tryz.ntmps42
        go_wp2_with (first | (go_at_call 56; refine (unhide HS _).mono ?_; rintro ev w1 ⟨rfl, hw⟩; have hw := hw.symm; subst hw) | (go_at_call 60; refine (unhide HD _).mono ?_; rintro ev w1 ⟨rfl, hw⟩; have hw := hw.symm; subst hw) | (go_at_call 62; refine (unhide HSG _).mono ?_; rintro ev w1 ⟨rfl, hw⟩; have hw := hw.symm; subst hw))
        exact bodyPost_ret (v := .tuple #[tokA ⟨0, [], 0, 0⟩, errV 3]) (by simp [results, Tryz.results42, go_sem, tokA, errV]) rfl ⟨rfl, alloc_below _ _⟩
      · rw [if_neg hk]
        have k1 : ((k : Int) == 0) = false := by rw [beq_eq_false_iff_ne]; omega
        have k2 : ¬ (k : Int) = 0 := by omega
        have hle2 : (k : Int) ≤ l.length := by omega
        obtain ⟨X, hX⟩ : ∃ X, l.take k = X := ⟨_, rfl⟩
        have hxe : (⟨l.toArray⟩ : ByteArray).extract 0 k = ⟨X.toArray⟩ := by rw [ext_front, hX]
        rw [hX]
        clear hX
        go_enter Tryz.func42, Tryz.ntmps42
        go_wp2_with (first | (go_at_call 56; refine (unhide HS _).mono ?_; rintro ev w1 ⟨rfl, hw⟩; have hw := hw.symm; subst hw) | (go_at_call 60; refine (unhide HD _).mono ?_; rintro ev w1 ⟨rfl, hw⟩; have hw := hw.symm; subst hw) | (go_at_call 62; refine (unhide HSG _).mono ?_; rintro ev w1 ⟨rfl, hw⟩; have hw := hw.symm; subst hw))
        exact bodyPost_ret (v := .tuple #[tokA ⟨3, X, 0, 0⟩, errV 0]) (by simp [results, Tryz.results42, go_sem, tokA, errV]) rfl ⟨rfl, alloc_below _ _⟩
end Go.Proofs.YtepnafnljfjeoaaGreatDoor.Line
