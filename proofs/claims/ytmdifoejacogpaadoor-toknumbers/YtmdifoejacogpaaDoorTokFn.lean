/- Contracts of the small functions of package tok: isSmall, isDigit, isInner, IsKey, signLength, span. -/
import Derived.Test.YtmdifoejacogpaaDoorTokSmall
namespace Go.Proofs.YtmdifoejacogpaaDoor.Line
open Go.ChangeShapes Go.WideShapes Go.ChangeAt Go.RowKit
set_option linter.unusedVariables false

theorem isSmall_any (c : UInt8) (w : World) : Calls Tryd.prog 33 #[.int .u8 (c.toNat : Int)] w fun e w' => e = .returned (.bool (Words.letterB c)) ∧ w' = w := by
  have hE : Words.letterB c = (decide (97 ≤ c.toNat) && decide (c.toNat ≤ 122)) := rfl
  rw [hE]
  clear hE
  generalize c.toNat = n
  by_cases h1 : 97 ≤ n
  · have q1 : decide (97 ≤ n) = true := decide_eq_true h1
    go_enter Tryd.func33, Tryd.ntmps33
    go_wp2
    go_ret
    refine ⟨ret_bool ?_, rfl⟩
    simp [h1]
    omega
  · have q1 : decide (97 ≤ n) = false := decide_eq_false h1
    go_enter Tryd.func33, Tryd.ntmps33
    go_wp2
    go_ret
    refine ⟨ret_bool ?_, rfl⟩
    simp
theorem isDigit_any (c : UInt8) (w : World) : Calls Tryd.prog 37 #[.int .u8 (c.toNat : Int)] w fun e w' => e = .returned (.bool (Words.digitB c)) ∧ w' = w := by
  have hE : Words.digitB c = (decide (48 ≤ c.toNat) && decide (c.toNat ≤ 57)) := rfl
  rw [hE]
  clear hE
  generalize c.toNat = n
  by_cases h1 : 48 ≤ n
  · have q1 : decide (48 ≤ n) = true := decide_eq_true h1
    go_enter Tryd.func37, Tryd.ntmps37
    go_wp2
    go_ret
    refine ⟨ret_bool ?_, rfl⟩
    simp [h1]
    omega
  · have q1 : decide (48 ≤ n) = false := decide_eq_false h1
    go_enter Tryd.func37, Tryd.ntmps37
    go_wp2
    go_ret
    refine ⟨ret_bool ?_, rfl⟩
    simp
theorem isInner_any (c : UInt8) (w : World) : Calls Tryd.prog 36 #[.int .u8 (c.toNat : Int)] w fun e w' => e = .returned (.bool (Words.behindB c)) ∧ w' = w := by
  have hE : Words.behindB c = (Words.letterB c || Words.digitB c || decide (c.toNat = 95)) := rfl
  rw [hE]
  clear hE
  have HL := hide (isSmall_any c w)
  have HD := hide (isDigit_any c w)
  generalize Words.letterB c = bl at *
  generalize Words.digitB c = bd at *
  generalize c.toNat = n at *
  cases bl
  · cases bd
    · go_enter Tryd.func36, Tryd.ntmps36
      go_wp2_with (first | (go_at_call 33; refine (unhide HL).mono ?_; rintro e w1 ⟨rfl, rfl⟩) | (go_at_call 37; refine (unhide HD).mono ?_; rintro e w1 ⟨rfl, rfl⟩))
      go_ret
      refine ⟨ret_bool ?_, rfl⟩
      simp only [Bool.false_or]
      by_cases h : n = 95
      · subst h; rfl
      · rw [decide_eq_false h]
        rw [beq_eq_false_iff_ne]
        omega
    · go_enter Tryd.func36, Tryd.ntmps36
      go_wp2_with (first | (go_at_call 33; refine (unhide HL).mono ?_; rintro e w1 ⟨rfl, rfl⟩) | (go_at_call 37; refine (unhide HD).mono ?_; rintro e w1 ⟨rfl, rfl⟩))
      go_ret
      exact ⟨rfl, rfl⟩
  · go_enter Tryd.func36, Tryd.ntmps36
    go_wp2_with (go_at_call 33; refine (unhide HL).mono ?_; rintro e w1 ⟨rfl, rfl⟩)
    go_ret
    exact ⟨rfl, rfl⟩


set_option maxHeartbeats 2000000 in
theorem isKeyD_any (l : List UInt8) (w : World) : Calls Tryd.prog 15 #[.string ⟨l.toArray⟩] w fun e w' => e = .returned (.bool (Words.isKey l)) ∧ w' = w := by
  by_cases h : l ∈ Words.keys
  · have hE : Words.isKey l = true := by unfold Words.isKey; rw [List.contains_iff_mem]; exact h
    rw [hE]
    clear hE
    simp only [Words.keys, List.mem_cons, List.not_mem_nil, or_false] at h
    rcases h with rfl | rfl | rfl | rfl | rfl | rfl | rfl | rfl
    all_goals (
      go_enter Tryd.func15, Tryd.ntmps15
      go_wp2
      go_ret
      exact ⟨rfl, rfl⟩)
  · have hE : Words.isKey l = false := by
      rw [← Bool.not_eq_true]
      intro h1
      unfold Words.isKey at h1
      rw [List.contains_iff_mem] at h1
      exact h h1
    rw [hE]
    clear hE
    simp only [Words.keys, List.mem_cons, List.not_mem_nil, or_false, not_or] at h
    obtain ⟨h1, h2, h3, h4, h5, h6, h7, h8⟩ := h
    have k1 := beq_eq_false_iff_ne.2 h1
    have k2 := beq_eq_false_iff_ne.2 h2
    have k3 := beq_eq_false_iff_ne.2 h3
    have k4 := beq_eq_false_iff_ne.2 h4
    have k5 := beq_eq_false_iff_ne.2 h5
    have k6 := beq_eq_false_iff_ne.2 h6
    have k7 := beq_eq_false_iff_ne.2 h7
    have k8 := beq_eq_false_iff_ne.2 h8
    go_enter Tryd.func15, Tryd.ntmps15
    go_wp2
    go_ret
    exact ⟨rfl, rfl⟩

theorem tw_len (p : UInt8 → Bool) : ∀ (l : List UInt8) (k : Nat), k ≤ l.length → (∀ j (h : j < l.length), j < k → p l[j] = true) → (∀ h : k < l.length, p l[k] = false) → (l.takeWhile p).length = k := by
  intro l
  induction l with
  | nil => intro k hk _ _; simp at hk; subst hk; rfl
  | cons c r ih =>
    intro k hk h1 h2
    cases k with
    | zero =>
      have := h2 (by simp)
      rw [List.takeWhile_cons, if_neg (by rw [show p c = false from this]; decide)]
      rfl
    | succ k =>
      have hc := h1 0 (by simp) (by omega)
      rw [List.takeWhile_cons, if_pos (show p c = true from hc), List.length_cons, ih k (by simpa using hk) (fun j h hj => h1 (j + 1) (by simpa using h) (by omega)) (fun h => h2 (by simpa using h))]

set_option maxHeartbeats 2000000 in
theorem spanInner_any (l : List UInt8) (w : World) (hl : l.length ≤ 1000000) : Calls Tryd.prog 35 #[.string ⟨l.toArray⟩, .func (.func 36) #[] #[]] w fun e w' => e = .returned (.int .i64 ((l.takeWhile Words.behindB).length : Int)) ∧ w' = w := by
  have HT := hide (tw_len Words.behindB l)
  go_enter Tryd.func35, Tryd.ntmps35
  go_wp2_with fail
  go_loopw [5] (fun q wr => ∃ i : Nat, i ≤ l.length ∧ q = .int .i64 i ∧ wr = w ∧ Hid (∀ j (h : j < l.length), j < i → Words.behindB l[j] = true)) (fun q _ => l.length - (intOf q).toNat)
  case atStart => exact ⟨0, Nat.zero_le _, rfl, rfl, hide (fun j h hj => by omega)⟩
  case round =>
    obtain ⟨i, hi, rfl, rfl, HP⟩ := hrel
    by_cases hlt : i < l.length
    · have q1 : decide (i < l.length) = true := decide_eq_true hlt
      have hs : i < (⟨l.toArray⟩ : ByteArray).size := hlt
      have hbv : (((⟨l.toArray⟩ : ByteArray)[i]'hs).toNat : Int) = (l[i].toNat : Int) := rfl
      have hlt2 : (i : Int) < l.length := by omega
      have HI := hide (fun W => isInner_any l[i] W)
      by_cases hb : Words.behindB l[i] = true
      · have HB := hide hb
        rw [hb] at HI
        generalize l[i].toNat = m at *
        go_wp2_with (go_at_call 36; refine (unhide HI _).mono ?_; rintro ev w1 ⟨rfl, hw⟩; have hw := hw.symm; subst hw)
        go_roundw
        case rel => exact ⟨i + 1, by omega, by go_num, trivial, hide (fun j h hj => by
            by_cases e : j = i
            · subst e; exact unhide HB
            · exact unhide HP j h (by omega))⟩
        case measure => simp [intOf]; omega
      · replace hb : Words.behindB l[i] = false := by simpa using hb
        have HA := hide (unhide HT i (by omega) (unhide HP) (fun _ => hb))
        rw [hb] at HI
        generalize l[i].toNat = m at *
        go_wp2_with (go_at_call 36; refine (unhide HI _).mono ?_; rintro ev w1 ⟨rfl, hw⟩; have hw := hw.symm; subst hw)
        go_ret
        exact ⟨by rw [unhide HA]; rfl, rfl⟩
    · have q1 : decide (i < l.length) = false := decide_eq_false hlt
      have HA := hide (unhide HT i (by omega) (unhide HP) (fun h => absurd h hlt))
      go_wp2
      go_ret
      exact ⟨by rw [unhide HA]; rfl, rfl⟩
set_option maxHeartbeats 2000000 in
theorem spanDigit_any (l : List UInt8) (w : World) (hl : l.length ≤ 1000000) : Calls Tryd.prog 35 #[.string ⟨l.toArray⟩, .func (.func 37) #[] #[]] w fun e w' => e = .returned (.int .i64 ((l.takeWhile Words.digitB).length : Int)) ∧ w' = w := by
  have HT := hide (tw_len Words.digitB l)
  go_enter Tryd.func35, Tryd.ntmps35
  go_wp2_with fail
  go_loopw [5] (fun q wr => ∃ i : Nat, i ≤ l.length ∧ q = .int .i64 i ∧ wr = w ∧ Hid (∀ j (h : j < l.length), j < i → Words.digitB l[j] = true)) (fun q _ => l.length - (intOf q).toNat)
  case atStart => exact ⟨0, Nat.zero_le _, rfl, rfl, hide (fun j h hj => by omega)⟩
  case round =>
    obtain ⟨i, hi, rfl, rfl, HP⟩ := hrel
    by_cases hlt : i < l.length
    · have q1 : decide (i < l.length) = true := decide_eq_true hlt
      have hs : i < (⟨l.toArray⟩ : ByteArray).size := hlt
      have hbv : (((⟨l.toArray⟩ : ByteArray)[i]'hs).toNat : Int) = (l[i].toNat : Int) := rfl
      have hlt2 : (i : Int) < l.length := by omega
      have HI := hide (fun W => isDigit_any l[i] W)
      by_cases hb : Words.digitB l[i] = true
      · have HB := hide hb
        rw [hb] at HI
        generalize l[i].toNat = m at *
        go_wp2_with (go_at_call 37; refine (unhide HI _).mono ?_; rintro ev w1 ⟨rfl, hw⟩; have hw := hw.symm; subst hw)
        go_roundw
        case rel => exact ⟨i + 1, by omega, by go_num, trivial, hide (fun j h hj => by
            by_cases e : j = i
            · subst e; exact unhide HB
            · exact unhide HP j h (by omega))⟩
        case measure => simp [intOf]; omega
      · replace hb : Words.digitB l[i] = false := by simpa using hb
        have HA := hide (unhide HT i (by omega) (unhide HP) (fun _ => hb))
        rw [hb] at HI
        generalize l[i].toNat = m at *
        go_wp2_with (go_at_call 37; refine (unhide HI _).mono ?_; rintro ev w1 ⟨rfl, hw⟩; have hw := hw.symm; subst hw)
        go_ret
        exact ⟨by rw [unhide HA]; rfl, rfl⟩
    · have q1 : decide (i < l.length) = false := decide_eq_false hlt
      have HA := hide (unhide HT i (by omega) (unhide HP) (fun h => absurd h hlt))
      go_wp2
      go_ret
      exact ⟨by rw [unhide HA]; rfl, rfl⟩
theorem signLen_at0 (l : List UInt8) (h : 0 < l.length) (two : Bool) (ht : two = true ↔ ∃ h2 : 1 < l.length, l[1].toNat = 61) : Words.signLen l = if l[0].toNat = 60 ∨ l[0].toNat = 62 ∨ l[0].toNat = 61 ∨ l[0].toNat = 47 then (if two = true then 2 else 1) else if l[0].toNat = 43 ∨ l[0].toNat = 45 ∨ l[0].toNat = 42 ∨ l[0].toNat = 40 ∨ l[0].toNat = 41 ∨ l[0].toNat = 44 then 1 else 0 := by
  have := signLen_at l 0 h two ht
  rwa [List.drop_zero] at this
set_option maxHeartbeats 4000000 in
theorem signLength_any (l : List UInt8) (h : 0 < l.length) (hl : l.length ≤ 1000000) (w : World) : Calls Tryd.prog 39 #[.string ⟨l.toArray⟩] w fun e w' => e = .returned (.int .i64 (Words.signLen l)) ∧ w' = w := by
  have hs : 0 < (⟨l.toArray⟩ : ByteArray).size := h
  have hbv : (((⟨l.toArray⟩ : ByteArray)[0]'hs).toNat : Int) = (l[0].toNat : Int) := rfl
  have hsz : ((⟨l.toArray⟩ : ByteArray).size : Int) = l.length := rfl
  have hi1 : (0 : Int) < l.length := by omega
  have core : ∀ two : Bool, (two = true ↔ ∃ h2 : 1 < l.length, l[1].toNat = 61) → Calls Tryd.prog 39 #[.string ⟨l.toArray⟩] w fun e w' => e = .returned (.int .i64 (if l[0].toNat = 60 ∨ l[0].toNat = 62 ∨ l[0].toNat = 61 ∨ l[0].toNat = 47 then (if two = true then 2 else 1) else if l[0].toNat = 43 ∨ l[0].toNat = 45 ∨ l[0].toNat = 42 ∨ l[0].toNat = 40 ∨ l[0].toNat = 41 ∨ l[0].toNat = 44 then 1 else 0 : Nat)) ∧ w' = w := by
    intro two ht
    have hcase : (∃ (h2 : 1 < l.length), l[1].toNat = 61 ∧ two = true) ∨ (∃ (h2 : 1 < l.length), l[1].toNat ≠ 61 ∧ two = false) ∨ (¬ 1 < l.length ∧ two = false) := by
      by_cases h2 : 1 < l.length
      · by_cases h3 : l[1].toNat = 61
        · exact .inl ⟨h2, h3, ht.2 ⟨h2, h3⟩⟩
        · refine .inr (.inl ⟨h2, h3, ?_⟩)
          cases two
          · rfl
          · obtain ⟨h4, h5⟩ := ht.1 rfl; exact absurd h5 h3
      · refine .inr (.inr ⟨h2, ?_⟩)
        cases two
        · rfl
        · obtain ⟨h4, h5⟩ := ht.1 rfl; exact absurd h4 h2
    clear ht
    generalize l[0].toNat = n at *
    have hn : n = 60 ∨ n = 62 ∨ n = 61 ∨ n = 47 ∨ n = 43 ∨ n = 45 ∨ n = 42 ∨ n = 40 ∨ n = 41 ∨ n = 44 ∨ (¬ (n = 60 ∨ n = 62 ∨ n = 61 ∨ n = 47) ∧ ¬ (n = 43 ∨ n = 45 ∨ n = 42 ∨ n = 40 ∨ n = 41 ∨ n = 44)) := by omega
    rcases hcase with ⟨h2, h3, rfl⟩ | ⟨h2, h3, rfl⟩ | ⟨h2, rfl⟩
    · have hs2 : 1 < (⟨l.toArray⟩ : ByteArray).size := h2
      have hb2 : (((⟨l.toArray⟩ : ByteArray)[1]'hs2).toNat : Int) = 61 := by
        show (l[1].toNat : Int) = 61
        rw [h3]; rfl
      have q1 : decide (1 < l.length) = true := decide_eq_true h2
      have q2 : (1 : Int) < l.length := by omega
      clear h3
      rcases hn with rfl | rfl | rfl | rfl | rfl | rfl | rfl | rfl | rfl | rfl | ⟨hn1, hn2⟩
      all_goals try (
        go_enter Tryd.func39, Tryd.ntmps39
        go_wp2
        go_ret
        exact ⟨rfl, rfl⟩)
      all_goals (
        rw [if_neg hn1, if_neg hn2]
        have k1 : ((n : Int) == 60) = false := by rw [beq_eq_false_iff_ne]; omega
        have k2 : ((n : Int) == 62) = false := by rw [beq_eq_false_iff_ne]; omega
        have k3 : ((n : Int) == 61) = false := by rw [beq_eq_false_iff_ne]; omega
        have k4 : ((n : Int) == 47) = false := by rw [beq_eq_false_iff_ne]; omega
        have k5 : ((n : Int) == 43) = false := by rw [beq_eq_false_iff_ne]; omega
        have k6 : ((n : Int) == 45) = false := by rw [beq_eq_false_iff_ne]; omega
        have k7 : ((n : Int) == 42) = false := by rw [beq_eq_false_iff_ne]; omega
        have k8 : ((n : Int) == 40) = false := by rw [beq_eq_false_iff_ne]; omega
        have k9 : ((n : Int) == 41) = false := by rw [beq_eq_false_iff_ne]; omega
        have k0 : ((n : Int) == 44) = false := by rw [beq_eq_false_iff_ne]; omega
        clear hn1 hn2
        go_enter Tryd.func39, Tryd.ntmps39
        go_wp2
        go_ret
        exact ⟨rfl, rfl⟩)
    · have hs2 : 1 < (⟨l.toArray⟩ : ByteArray).size := h2
      have hb2 : ((((⟨l.toArray⟩ : ByteArray)[1]'hs2).toNat : Int) == 61) = false := by
        show ((l[1].toNat : Int) == 61) = false
        rw [beq_eq_false_iff_ne]
        omega
      have q1 : decide (1 < l.length) = true := decide_eq_true h2
      have q2 : (1 : Int) < l.length := by omega
      clear h3
      rcases hn with rfl | rfl | rfl | rfl | rfl | rfl | rfl | rfl | rfl | rfl | ⟨hn1, hn2⟩
      all_goals try (
        go_enter Tryd.func39, Tryd.ntmps39
        go_wp2
        go_ret
        exact ⟨rfl, rfl⟩)
      all_goals (
        rw [if_neg hn1, if_neg hn2]
        have k1 : ((n : Int) == 60) = false := by rw [beq_eq_false_iff_ne]; omega
        have k2 : ((n : Int) == 62) = false := by rw [beq_eq_false_iff_ne]; omega
        have k3 : ((n : Int) == 61) = false := by rw [beq_eq_false_iff_ne]; omega
        have k4 : ((n : Int) == 47) = false := by rw [beq_eq_false_iff_ne]; omega
        have k5 : ((n : Int) == 43) = false := by rw [beq_eq_false_iff_ne]; omega
        have k6 : ((n : Int) == 45) = false := by rw [beq_eq_false_iff_ne]; omega
        have k7 : ((n : Int) == 42) = false := by rw [beq_eq_false_iff_ne]; omega
        have k8 : ((n : Int) == 40) = false := by rw [beq_eq_false_iff_ne]; omega
        have k9 : ((n : Int) == 41) = false := by rw [beq_eq_false_iff_ne]; omega
        have k0 : ((n : Int) == 44) = false := by rw [beq_eq_false_iff_ne]; omega
        clear hn1 hn2
        go_enter Tryd.func39, Tryd.ntmps39
        go_wp2
        go_ret
        exact ⟨rfl, rfl⟩)
    · have q1 : decide (1 < l.length) = false := decide_eq_false h2
      rcases hn with rfl | rfl | rfl | rfl | rfl | rfl | rfl | rfl | rfl | rfl | ⟨hn1, hn2⟩
      all_goals try (
        go_enter Tryd.func39, Tryd.ntmps39
        go_wp2
        go_ret
        exact ⟨rfl, rfl⟩)
      all_goals (
        rw [if_neg hn1, if_neg hn2]
        have k1 : ((n : Int) == 60) = false := by rw [beq_eq_false_iff_ne]; omega
        have k2 : ((n : Int) == 62) = false := by rw [beq_eq_false_iff_ne]; omega
        have k3 : ((n : Int) == 61) = false := by rw [beq_eq_false_iff_ne]; omega
        have k4 : ((n : Int) == 47) = false := by rw [beq_eq_false_iff_ne]; omega
        have k5 : ((n : Int) == 43) = false := by rw [beq_eq_false_iff_ne]; omega
        have k6 : ((n : Int) == 45) = false := by rw [beq_eq_false_iff_ne]; omega
        have k7 : ((n : Int) == 42) = false := by rw [beq_eq_false_iff_ne]; omega
        have k8 : ((n : Int) == 40) = false := by rw [beq_eq_false_iff_ne]; omega
        have k9 : ((n : Int) == 41) = false := by rw [beq_eq_false_iff_ne]; omega
        have k0 : ((n : Int) == 44) = false := by rw [beq_eq_false_iff_ne]; omega
        clear hn1 hn2
        go_enter Tryd.func39, Tryd.ntmps39
        go_wp2
        go_ret
        exact ⟨rfl, rfl⟩)
  by_cases hx : ∃ h2 : 1 < l.length, l[1].toNat = 61
  · rw [signLen_at0 l h true ⟨fun _ => hx, fun _ => rfl⟩]
    exact core true ⟨fun _ => hx, fun _ => rfl⟩
  · rw [signLen_at0 l h false ⟨fun h => (by cases h), fun h => absurd h hx⟩]
    exact core false ⟨fun h => (by cases h), fun h => absurd h hx⟩
end Go.Proofs.YtmdifoejacogpaaDoor.Line
