/- Plain facts on how a line's words are read one behind the other: what a text begins with (first), whether a word clings to the one ahead, and one round more. Nothing of the program is named. -/
import Derived.Test.YtbpmfkikhackfaaGreatDoorPlainTokMore
namespace Go.Proofs.YtbpmfkikhackfaaGreatDoor.Words
set_option linter.unusedVariables false

/-- the word that a text begins with (its place is told later), and what is wrong; 0: nothing -/
def first (s : List UInt8) : T × Nat :=
  if headIs letterB s then (if isKey (s.takeWhile behindB) then (⟨4, s.takeWhile behindB, 0, 0⟩, 0) else if 31 < (s.takeWhile behindB).length then (⟨0, [], 0, 0⟩, 4) else (⟨1, s.takeWhile behindB, 0, 0⟩, 0))
  else if headIs digitB s then (if big < num (s.takeWhile digitB) then (⟨0, [], 0, 0⟩, 5) else (⟨2, s.takeWhile digitB, 0, num (s.takeWhile digitB)⟩, 0))
  else if signLen s = 0 then (⟨0, [], 0, 0⟩, 3) else (⟨3, s.take (signLen s), 0, 0⟩, 0)
/-- does a word of that kind cling to the words ahead? -/
def clingsB (l : List T) (k : Nat) : Bool := (match l.getLast? with | some t => decide (t.kind = 2) | none => false) && (decide (k = 1) || decide (k = 4))
/-- what may be told in place of what -/
def Near (e e' : Nat) : Prop := e' = e ∨ (e = 3 ∧ e' = 4)
theorem Near.same {e e' : Nat} (h : Near e e') (h3 : e ≠ 3) : e' = e := by
  rcases h with h | ⟨h, _⟩
  · exact h
  · exact absurd h h3
theorem isKey_len {s : List UInt8} (h : isKey s = true) : s.length ≤ 7 := by
  unfold isKey at h
  rw [List.contains_iff_mem] at h
  simp only [keys, List.mem_cons, List.not_mem_nil, or_false] at h
  rcases h with rfl | rfl | rfl | rfl | rfl | rfl | rfl | rfl <;> decide
theorem first_tok {s : List UInt8} {kd n k : Nat} (h : step s = .tok kd n k) : first s = (⟨kd, s.take k, 0, n⟩, 0) ∧ (kd = 1 ∨ kd = 4 → headIs letterB s = true) ∧ (kd = 2 → headIs letterB (s.drop k) = false) := by
  unfold step at h
  unfold first
  split at h
  · cases h
  · split at h
    · rename_i hl
      rw [if_pos hl]
      split at h
      · cases h
      · rename_i h31
        injection h with h1 h2 h3
        have e : s.take k = s.takeWhile behindB := by rw [← h3]; exact (List.prefix_iff_eq_take.1 (List.takeWhile_prefix _)).symm
        subst h2
        rw [e]
        split
        · rename_i hk
          rw [if_pos hk] at h1
          subst h1
          exact ⟨rfl, fun _ => hl, fun h => by cases h⟩
        · rename_i hk
          rw [if_neg hk] at h1
          subst h1
          exact ⟨rfl, fun _ => hl, fun h => by cases h⟩
    · rename_i hl
      rw [if_neg hl]
      split at h
      · rename_i hd
        rw [if_pos hd]
        split at h
        · cases h
        · rename_i hov
          split at h
          · cases h
          · rename_i hlt
            injection h with h1 h2 h3
            have e : s.take k = s.takeWhile digitB := by rw [← h3]; exact (List.prefix_iff_eq_take.1 (List.takeWhile_prefix _)).symm
            rw [if_neg hov, e]
            subst h1
            refine ⟨by rw [h2], fun h => by omega, fun _ => ?_⟩
            rw [← h3]
            simpa using hlt
      · rename_i hd
        rw [if_neg hd]
        split at h
        · cases h
        · rename_i hs
          injection h with h1 h2 h3
          rw [if_neg hs, h3]
          subst h1
          subst h2
          exact ⟨rfl, fun h => by omega, fun h => by cases h⟩
theorem first_bad {s : List UInt8} {e o : Nat} (h : step s = .bad e o) : (first s = (⟨0, [], 0, 0⟩, e) ∧ o = 0) ∨ (∃ n, first s = (⟨2, s.take o, 0, n⟩, 0) ∧ 0 < o ∧ o ≤ s.length ∧ e = 3 ∧ headIs letterB (s.drop o) = true) := by
  unfold step at h
  unfold first
  split at h
  · cases h
  · split at h
    · rename_i hl
      rw [if_pos hl]
      split at h
      · rename_i h31
        injection h with h1 h2
        left
        rw [if_neg (fun hk => by have := isKey_len hk; omega), if_pos h31, h1]
        exact ⟨rfl, h2.symm⟩
      · cases h
    · rename_i hl
      rw [if_neg hl]
      split at h
      · rename_i hd
        rw [if_pos hd]
        split at h
        · rename_i hov
          injection h with h1 h2
          left
          rw [if_pos hov, h1]
          exact ⟨rfl, h2.symm⟩
        · rename_i hov
          split at h
          · rename_i hlt
            injection h with h1 h2
            right
            have e2 : s.take o = s.takeWhile digitB := by rw [← h2]; exact (List.prefix_iff_eq_take.1 (List.takeWhile_prefix _)).symm
            rw [if_neg hov, e2]
            refine ⟨_, rfl, ?_, ?_, h1.symm, by rw [← h2]; exact hlt⟩
            · rw [← h2]; exact takeWhile_pos hd
            · rw [← h2]; exact (List.takeWhile_prefix _).length_le
          · cases h
      · rename_i hd
        rw [if_neg hd]
        split at h
        · rename_i hs
          injection h with h1 h2
          left
          rw [if_pos hs, h1]
          exact ⟨rfl, h2.symm⟩
        · cases h
/-- what stands behind some rounds: the words so far, and from where on one goes on -/
def Inv (s : List UInt8) (done : List T) (e : Nat) : Prop :=
  (also done (scanAt s e) = toks s ∧ ((∃ t, done.getLast? = some t ∧ t.kind = 2) → headIs letterB (s.drop e) = false)) ∨
  ((∃ t, done.getLast? = some t ∧ t.kind = 2) ∧ headIs letterB (s.drop e) = true ∧ toks s = ([], 3, e))
theorem inv_start (s : List UInt8) : Inv s [] 0 := by
  left
  refine ⟨?_, fun ⟨t, h, _⟩ => by cases h⟩
  exact also_nil _ (scanAt_form s 0).1 (scanAt_form s 0).2
theorem skip_blanks (s : List UInt8) : ∀ (n e : Nat), ((s.drop e).takeWhile blankB).length = n → scanAt s e = scanAt s (e + n) ∧ headIs blankB (s.drop (e + n)) = false := by
  intro n
  induction n with
  | zero =>
    intro e h
    refine ⟨rfl, ?_⟩
    rw [Nat.add_zero]
    cases hd : s.drop e with
    | nil => rfl
    | cons c r =>
      rw [hd, List.takeWhile_cons] at h
      show blankB c = false
      by_cases hb : blankB c = true
      · rw [if_pos hb] at h; simp at h
      · simpa using hb
  | succ n ih =>
    intro e h
    have he : e < s.length := by
      rcases Nat.lt_or_ge e s.length with h1 | h1
      · exact h1
      · rw [List.drop_of_length_le h1] at h; simp at h
    rw [List.drop_eq_getElem_cons he, List.takeWhile_cons] at h
    by_cases hb : blankB s[e] = true
    · rw [if_pos hb, List.length_cons] at h
      obtain ⟨h1, h2⟩ := ih (e + 1) (by omega)
      have hs : step (s.drop e) = .blank := by unfold step; rw [List.drop_eq_getElem_cons he, if_pos (show headIs blankB (s[e] :: s.drop (e + 1)) = true from hb)]
      rw [scanAt_blank he hs, show e + (n + 1) = e + 1 + n by omega]
      exact ⟨h1, h2⟩
    · rw [if_neg hb] at h; simp at h
theorem letter_blank {s : List UInt8} (h : headIs letterB s = true) : headIs blankB s = false := by
  cases s with
  | nil => cases h
  | cons c r =>
    have h : letterB c = true := h
    show blankB c = false
    by_cases hb : blankB c = true
    · have := (blank_not c hb).2.1; rw [this] at h; cases h
    · simpa using hb
theorem takeWhile_none {p : UInt8 → Bool} {s : List UInt8} (h : headIs p s = false) : (s.takeWhile p).length = 0 := by
  cases s with
  | nil => rfl
  | cons c r => rw [List.takeWhile_cons, if_neg (by rw [show p c = false from h]; decide)]; rfl
theorem clings_iff (l : List T) (k : Nat) : clingsB l k = true ↔ (∃ t, l.getLast? = some t ∧ t.kind = 2) ∧ (k = 1 ∨ k = 4) := by
  unfold clingsB
  cases h : l.getLast? with
  | none => simp
  | some t => simp
theorem first_letter {s : List UInt8} (h : headIs letterB s = true) : (∃ t, first s = (t, 0) ∧ (t.kind = 1 ∨ t.kind = 4)) ∨ first s = (⟨0, [], 0, 0⟩, 4) := by
  unfold first
  rw [if_pos h]
  split
  · exact .inl ⟨_, rfl, .inr rfl⟩
  · split
    · exact .inr rfl
    · exact .inl ⟨_, rfl, .inl rfl⟩
/-- one round more -/
theorem round (s : List UInt8) (done : List T) (e a : Nat) (h : Inv s done e) (he : e ≤ s.length) (ha : e + ((s.drop e).takeWhile blankB).length = a) :
    (a = s.length → toks s = (done, 0, 0)) ∧ (a < s.length →
      (∃ t, first (s.drop a) = (t, 0) ∧ a = e ∧ clingsB done t.kind = true ∧ toks s = ([], 3, a)) ∨
      (∃ t, first (s.drop a) = (t, 0) ∧ ¬ (a = e ∧ clingsB done t.kind = true) ∧ Inv s (done ++ [⟨t.kind, t.text, a, t.n⟩]) (a + t.text.length) ∧ 0 < t.text.length ∧ a + t.text.length ≤ s.length) ∨
      (∃ err, first (s.drop a) = (⟨0, [], 0, 0⟩, err) ∧ err ≠ 0 ∧ (toks s).1 = [] ∧ (toks s).2.2 = a ∧ Near (toks s).2.1 err)) := by
  rcases h with ⟨h1, h2⟩ | ⟨h1, h2, h3⟩
  · obtain ⟨k1, k2⟩ := skip_blanks s _ e rfl
    rw [ha] at k1 k2
    rw [k1] at h1
    constructor
    · intro hl
      rw [scanAt_end s a (by omega)] at h1
      rw [← h1]
      unfold also
      simp
    · intro hl
      cases hs : step (s.drop a) with
      | blank => have := step_blank hs; rw [k2] at this; cases this
      | tok kd n k =>
        obtain ⟨f1, f2, f3⟩ := first_tok hs
        have hk := step_len hs
        rw [List.length_drop] at hk
        have hlen : ((s.drop a).take k).length = k := by rw [List.length_take, List.length_drop]; omega
        right; left
        refine ⟨_, f1, ?_, ?_, by show 0 < ((s.drop a).take k).length; omega, by show a + ((s.drop a).take k).length ≤ s.length; omega⟩
        · rintro ⟨rfl, hc⟩
          obtain ⟨c1, c2⟩ := (clings_iff _ _).1 hc
          have := h2 c1
          rw [f2 c2] at this
          cases this
        · show Inv s (done ++ [⟨kd, (s.drop a).take k, a, n⟩]) (a + ((s.drop a).take k).length)
          rw [hlen]
          left
          constructor
          · rw [← h1, scanAt_tok hl hs, also_also]
          · rintro ⟨t, ht, hk2⟩
            rw [List.getLast?_append] at ht
            simp at ht
            subst ht
            have := f3 hk2
            rwa [List.drop_drop] at this
      | bad er o =>
        have hb := scanAt_bad hl hs
        rw [hb] at h1
        have her := step_err hs
        have ht : toks s = ([], er, a + o) := by
          rw [← h1]
          unfold also
          rw [if_neg (by show er ≠ 0; omega)]
        rcases first_bad hs with ⟨f1, rfl⟩ | ⟨n, f1, f2, f3, rfl, f5⟩
        · right; right
          exact ⟨er, f1, by omega, by rw [ht], by rw [ht]; rfl, by rw [ht]; exact .inl rfl⟩
        · right; left
          rw [List.length_drop] at f3
          have hlen : ((s.drop a).take o).length = o := by rw [List.length_take, List.length_drop]; omega
          refine ⟨_, f1, ?_, ?_, by show 0 < ((s.drop a).take o).length; omega, by show a + ((s.drop a).take o).length ≤ s.length; omega⟩
          · rintro ⟨_, hc⟩
            obtain ⟨_, c2⟩ := (clings_iff _ _).1 hc
            simp at c2
          · show Inv s (done ++ [⟨2, (s.drop a).take o, a, n⟩]) (a + ((s.drop a).take o).length)
            rw [hlen]
            right
            refine ⟨⟨_, by rw [List.getLast?_append]; simp; rfl, rfl⟩, ?_, ht⟩
            rwa [List.drop_drop] at f5
  · have h0 := takeWhile_none (letter_blank h2)
    rw [h0, Nat.add_zero] at ha
    subst ha
    have hl : e < s.length := by
      rcases Nat.lt_or_ge e s.length with h | h
      · exact h
      · rw [List.drop_of_length_le h] at h2; cases h2
    refine ⟨fun h => by omega, fun _ => ?_⟩
    rcases first_letter h2 with ⟨t, f1, f2⟩ | f1
    · exact .inl ⟨t, f1, rfl, (clings_iff _ _).2 ⟨h1, f2⟩, h3⟩
    · exact .inr (.inr ⟨4, f1, by decide, by rw [h3], by rw [h3], by rw [h3]; exact .inr ⟨rfl, rfl⟩⟩)
end Go.Proofs.YtbpmfkikhackfaaGreatDoor.Words
