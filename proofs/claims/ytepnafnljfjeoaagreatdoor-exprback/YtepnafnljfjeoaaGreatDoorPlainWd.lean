/- Words behind one another (plain): a text made of words, of which some have a blank ahead, is read as just these words. -/
import Derived.Test.YtepnafnljfjeoaaGreatDoorPlainAll
namespace Go.Proofs.YtepnafnljfjeoaaGreatDoor.Words
set_option linter.unusedVariables false

/-- what may stand right behind a word: nothing that goes on with it -/
def Soft (r : List UInt8) : Prop := headIs behindB r = false ∧ r.head? ≠ some 61
theorem soft_no {r : List UInt8} (h : Soft r) : headIs behindB r = false ∧ headIs letterB r = false ∧ headIs digitB r = false ∧ r.head? ≠ some 61 := by
  obtain ⟨h1, h2⟩ := h
  refine ⟨h1, ?_, ?_, h2⟩
  · cases r with
    | nil => rfl
    | cons c r =>
      have h1 : behindB c = false := h1
      show letterB c = false
      unfold behindB at h1
      simp only [Bool.or_eq_false_iff] at h1
      exact h1.1.1
  · cases r with
    | nil => rfl
    | cons c r =>
      have h1 : behindB c = false := h1
      show digitB c = false
      unfold behindB at h1
      simp only [Bool.or_eq_false_iff] at h1
      exact h1.1.2
theorem soft_app {s r : List UInt8} {kd n : Nat} (h : step s = .tok kd n s.length) (hr : Soft r) : step (s ++ r) = .tok kd n s.length := by
  obtain ⟨r1, r2, r3, r4⟩ := soft_no hr
  cases s with
  | nil => have := (step_len h).1; simp at this
  | cons c t =>
    have hp : ∀ p : UInt8 → Bool, headIs p (c :: t ++ r) = headIs p (c :: t) := fun p => rfl
    unfold step at h ⊢
    rw [hp, hp, hp]
    split at h
    · cases h
    · rename_i hb
      rw [if_neg hb]
      split at h
      · rename_i hl
        rw [if_pos hl]
        split at h
        · cases h
        · injection h with h1 h2 h3
          have hf := takeWhile_full h3
          rw [takeWhile_stop hf r1]
          rename_i h31
          rw [hf] at h31 h1
          rw [if_neg h31, h1, h2]
      · rename_i hl
        rw [if_neg hl]
        split at h
        · rename_i hd
          rw [if_pos hd]
          split at h
          · cases h
          · rename_i hov
            split at h
            · cases h
            · injection h with h1 h2 h3
              have hf := takeWhile_full h3
              rw [takeWhile_stop hf r3]
              rw [hf] at hov h2
              rw [if_neg hov, List.drop_left, if_neg (by rw [r2]; decide), h1, h2]
        · rename_i hd
          rw [if_neg hd]
          split at h
          · cases h
          · injection h with h1 h2 h3
            have h4 : signLen (c :: t ++ r) = (c :: t).length := by
              rw [← h3]
              cases t with
              | nil =>
                simp only [signLen, List.cons_append, List.nil_append]
                split
                · first | (rw [if_neg r4, if_neg (by simp)]) | simp
                · rfl
              | cons d t => rfl
            rw [h4, if_neg (by simp), h1, h2]
/-- a sign of one byte that no other goes on with -/
theorem sign_app (c : UInt8) (hc : c = 43 ∨ c = 45 ∨ c = 42 ∨ c = 40 ∨ c = 41 ∨ c = 44) (r : List UInt8) : step ([c] ++ r) = .tok 3 0 [c].length := by
  rcases hc with rfl | rfl | rfl | rfl | rfl | rfl <;> rfl
/-- a word of a text: whether a blank stands ahead; its kind, text, number -/
abbrev Wd : Type := Bool × Nat × List UInt8 × Nat
def textW : List Wd → List UInt8
  | [] => []
  | x :: L => (if x.1 then [32] else []) ++ (x.2.2.1 ++ textW L)
def FitsW : List Wd → Prop
  | [] => True
  | x :: L => step (x.2.2.1 ++ textW L) = .tok x.2.1 x.2.2.2 x.2.2.1.length ∧ FitsW L
abbrev keyT (t : T) : Nat × List UInt8 × Nat := (t.kind, t.text, t.n)
theorem scan_text (L : List Wd) : ∀ p, FitsW L → ∃ l, scan (textW L).length (textW L) p = (l, 0, 0) ∧ l.map keyT = L.map (·.2) := by
  induction L with
  | nil => intro p _; exact ⟨[], rfl, rfl⟩
  | cons x L ih =>
    intro p h
    obtain ⟨h1, h2⟩ := h
    obtain ⟨b, kd, tx, n⟩ := x
    cases b with
    | true =>
      obtain ⟨l, e1, e2⟩ := ih (p + 1 + tx.length) h2
      refine ⟨⟨kd, tx, p + 1, n⟩ :: l, ?_, by rw [List.map_cons, List.map_cons, e2]⟩
      show scan ([32] ++ (tx ++ textW L)).length ([32] ++ (tx ++ textW L)) p = _
      rw [scan_blanks [32] _ (by decide), scan_step h1, List.drop_left, List.take_left, show p + [(32 : UInt8)].length = p + 1 from rfl, e1]
      rfl
    | false =>
      obtain ⟨l, e1, e2⟩ := ih (p + tx.length) h2
      refine ⟨⟨kd, tx, p, n⟩ :: l, ?_, by rw [List.map_cons, List.map_cons, e2]⟩
      show scan (tx ++ textW L).length (tx ++ textW L) p = _
      rw [scan_step h1, List.drop_left, List.take_left, e1]
      rfl
theorem toks_text (L : List Wd) (h : FitsW L) : ∃ l, toks (textW L) = (l, 0, 0) ∧ l.map keyT = L.map (·.2) := by
  obtain ⟨l, e1, e2⟩ := scan_text L 0 h
  refine ⟨l, ?_, e2⟩
  unfold toks scanAt
  rw [List.drop_zero, Nat.sub_zero]
  exact e1
theorem textW_app (L M : List Wd) : textW (L ++ M) = textW L ++ textW M := by
  induction L with
  | nil => rfl
  | cons x L ih => simp only [List.cons_append, textW, ih, List.append_assoc]
/-- words that fit, with r behind them -/
def FitsTo : List Wd → List UInt8 → Prop
  | [], _ => True
  | x :: L, r => step (x.2.2.1 ++ (textW L ++ r)) = .tok x.2.1 x.2.2.2 x.2.2.1.length ∧ FitsTo L r
theorem fits_of : ∀ {L : List Wd}, FitsTo L [] → FitsW L := by
  intro L
  induction L with
  | nil => intro h; trivial
  | cons x L ih =>
    intro h
    refine ⟨?_, ih h.2⟩
    have h1 := h.1
    rw [List.append_nil] at h1
    exact h1
theorem fits_app {L M : List Wd} {r : List UInt8} (h1 : FitsTo L (textW M ++ r)) (h2 : FitsTo M r) : FitsTo (L ++ M) r := by
  induction L with
  | nil => exact h2
  | cons x L ih =>
    refine ⟨?_, ih h1.2⟩
    have h := h1.1
    show step (x.2.2.1 ++ (textW (L ++ M) ++ r)) = _
    rw [textW_app, List.append_assoc]
    exact h
theorem soft_nil : Soft [] := ⟨rfl, by simp⟩
theorem soft_cons (c : UInt8) (r : List UInt8) (h : behindB c = false) (h2 : c ≠ 61) : Soft (c :: r) := ⟨h, by simpa using h2⟩
end Go.Proofs.YtepnafnljfjeoaaGreatDoor.Words
