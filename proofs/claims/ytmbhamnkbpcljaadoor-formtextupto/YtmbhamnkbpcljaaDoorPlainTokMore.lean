/- Plain facts on words more: digits alone are one number; words with blanks between them are the same words; two signs beside each other. Nothing of the program is named. -/
import Derived.Test.YtmbhamnkbpcljaaDoorPlainTok
namespace Go.Proofs.YtmbhamnkbpcljaaDoor.Words
set_option linter.unusedVariables false

/-! ### a number in words -/
theorem takeWhile_all {p : UInt8 → Bool} {s : List UInt8} (h : ∀ c ∈ s, p c = true) : s.takeWhile p = s := by
  induction s with
  | nil => rfl
  | cons c r ih => rw [List.takeWhile_cons, if_pos (h c (List.mem_cons_self ..)), ih (fun x hx => h x (List.mem_cons_of_mem _ hx))]
theorem digit_not (c : UInt8) (h : digitB c = true) : blankB c = false ∧ letterB c = false := by
  unfold digitB at h
  unfold blankB letterB
  simp only [Bool.and_eq_true, decide_eq_true_eq] at h
  simp only [Bool.or_eq_false_iff, Bool.and_eq_false_iff, decide_eq_false_iff_not]
  omega
theorem step_digits (s : List UInt8) (h0 : s ≠ []) (h : ∀ c ∈ s, digitB c = true) : step s = if big < num s then .bad 5 0 else .tok 2 (num s) s.length := by
  cases s with
  | nil => exact absurd rfl h0
  | cons c r =>
    have hc := h c (List.mem_cons_self ..)
    obtain ⟨h1, h2⟩ := digit_not c hc
    unfold step
    rw [show headIs blankB (c :: r) = false from h1, show headIs letterB (c :: r) = false from h2, show headIs digitB (c :: r) = true from hc, if_neg (by decide), if_neg (by decide), if_pos rfl, takeWhile_all h, List.drop_length]
    rfl
theorem toks_digits (s : List UInt8) (h0 : s ≠ []) (h : ∀ c ∈ s, digitB c = true) : toks s = if big < num s then ([], 5, 0) else ([⟨2, s, 0, num s⟩], 0, 0) := by
  have hl : 0 < s.length := by cases s with | nil => exact absurd rfl h0 | cons _ _ => simp
  unfold toks
  have hs := step_digits s h0 h
  by_cases hb : big < num s
  · rw [if_pos hb] at hs ⊢
    rw [scanAt_bad hl (by rw [List.drop_zero]; exact hs)]
  · rw [if_neg hb] at hs ⊢
    rw [scanAt_tok hl (by rw [List.drop_zero]; exact hs), scanAt_end s _ (by omega), List.drop_zero, List.take_length]
    rfl
/-- a number's digits; none for 0 -/
def digs (n : Nat) : List UInt8 := if h : n = 0 then [] else digs (n / 10) ++ [UInt8.ofNat (48 + n % 10)]
termination_by n
decreasing_by omega
theorem digs_zero : digs 0 = [] := by rw [digs]; rfl
theorem digs_pos {n : Nat} (h : n ≠ 0) : digs n = digs (n / 10) ++ [UInt8.ofNat (48 + n % 10)] := by rw [digs, dif_neg h]
theorem dig_toNat (k : Nat) (h : k < 10) : (UInt8.ofNat (48 + k)).toNat = 48 + k := by rw [UInt8.toNat_ofNat']; omega
theorem digs_all (n : Nat) : ∀ c ∈ digs n, digitB c = true := by
  induction n using Nat.strongRecOn with
  | ind n ih =>
    by_cases h : n = 0
    · subst h; rw [digs_zero]; intro c hc; cases hc
    · rw [digs_pos h]
      intro c hc
      rcases List.mem_append.1 hc with h1 | h1
      · exact ih (n / 10) (by omega) c h1
      · rw [List.mem_singleton.1 h1]
        unfold digitB
        rw [dig_toNat _ (by omega)]
        simp only [Bool.and_eq_true, decide_eq_true_eq]
        omega
theorem num_app (a b : List UInt8) (h : num a = 0) : num (a ++ b) = num b := by
  unfold num at *
  rw [List.foldl_append, h]
theorem num_digs (n : Nat) : num (digs n) = n := by
  induction n using Nat.strongRecOn with
  | ind n ih =>
    by_cases h : n = 0
    · subst h; rw [digs_zero]; rfl
    · rw [digs_pos h]
      have e : num (digs (n / 10) ++ [UInt8.ofNat (48 + n % 10)]) = 10 * num (digs (n / 10)) + ((UInt8.ofNat (48 + n % 10)).toNat - 48) := by unfold num; rw [List.foldl_append]; rfl
      rw [e, ih (n / 10) (by omega), dig_toNat _ (by omega)]
      omega
theorem digs_len (k : Nat) : ∀ n, n < 10 ^ k → (digs n).length ≤ k := by
  induction k with
  | zero =>
    intro n h
    have h0 : n = 0 := by simpa using h
    subst h0
    rw [digs_zero]; simp
  | succ k ih =>
    intro n h
    by_cases h0 : n = 0
    · subst h0; rw [digs_zero]; simp
    · rw [digs_pos h0, List.length_append, List.length_singleton]
      have := ih (n / 10) (by rw [Nat.pow_succ] at h; omega)
      omega
def noughts (k : Nat) : List UInt8 := List.replicate k 48
theorem noughts_all (k : Nat) : ∀ c ∈ noughts k, digitB c = true := by
  intro c hc
  rw [List.eq_of_mem_replicate hc]
  rfl
theorem noughts_num (k : Nat) : num (noughts k) = 0 := by
  unfold num noughts
  induction k with
  | zero => rfl
  | succ k ih => rw [List.replicate_succ, List.foldl_cons]; exact ih
/-- a number's digits as the law makes them -/
def dec (n : Nat) : List UInt8 := if n = 0 then [48] else digs n
theorem toks_dec (k n : Nat) : toks (noughts k ++ dec n) = if big < n then ([], 5, 0) else ([⟨2, noughts k ++ dec n, 0, n⟩], 0, 0) := by
  have hd : ∀ c ∈ dec n, digitB c = true := by
    unfold dec
    split
    · intro c hc; rw [List.mem_singleton.1 hc]; rfl
    · exact digs_all n
  have hn : num (dec n) = n := by
    unfold dec
    split
    · rename_i h; rw [h]; rfl
    · exact num_digs n
  have h0 : noughts k ++ dec n ≠ [] := by
    intro h
    have h1 := (List.append_eq_nil_iff.1 h).2
    unfold dec at h1
    split at h1
    · cases h1
    · rename_i h2
      rw [digs_pos h2] at h1
      exact absurd (List.append_eq_nil_iff.1 h1).2 (List.cons_ne_nil _ _)
  have e := toks_digits (noughts k ++ dec n) h0 (fun c hc => by
    rcases List.mem_append.1 hc with h | h
    · exact noughts_all k c h
    · exact hd c h)
  rw [num_app _ _ (noughts_num k), hn] at e
  exact e

/-! ### blanks between words -/
theorem blank_not (c : UInt8) (h : blankB c = true) : behindB c = false ∧ letterB c = false ∧ digitB c = false ∧ c ≠ 61 := by
  unfold blankB at h
  simp only [Bool.or_eq_true, decide_eq_true_eq] at h
  refine ⟨?_, ?_, ?_, ?_⟩
  · unfold behindB letterB digitB
    simp only [Bool.or_eq_false_iff, Bool.and_eq_false_iff, decide_eq_false_iff_not]
    omega
  · unfold letterB
    simp only [Bool.and_eq_false_iff, decide_eq_false_iff_not]
    omega
  · unfold digitB
    simp only [Bool.and_eq_false_iff, decide_eq_false_iff_not]
    omega
  · intro e
    subst e
    revert h
    decide
theorem takeWhile_full {p : UInt8 → Bool} {s : List UInt8} (h : (s.takeWhile p).length = s.length) : s.takeWhile p = s := (List.takeWhile_prefix p).eq_of_length h
theorem takeWhile_stop {p : UInt8 → Bool} {s r : List UInt8} (hs : s.takeWhile p = s) (hr : headIs p r = false) : (s ++ r).takeWhile p = s := by
  have hall : ∀ c ∈ s, p c = true := by
    intro c hc
    have := List.all_takeWhile (p := p) (l := s)
    rw [hs] at this
    exact List.all_eq_true.1 this c hc
  rw [List.takeWhile_append_of_pos hall]
  cases r with
  | nil => simp
  | cons d r => rw [List.takeWhile_cons, if_neg (by rw [show p d = false from hr]; decide), List.append_nil]
/-- does a text end, or go on with a blank? -/
def stops (r : List UInt8) : Prop := r = [] ∨ headIs blankB r = true
theorem stops_no {r : List UInt8} (h : stops r) : headIs behindB r = false ∧ headIs letterB r = false ∧ headIs digitB r = false ∧ r.head? ≠ some 61 := by
  cases r with
  | nil => exact ⟨rfl, rfl, rfl, by simp⟩
  | cons c r =>
    rcases h with h | h
    · cases h
    · obtain ⟨h1, h2, h3, h4⟩ := blank_not c h
      exact ⟨h1, h2, h3, fun e => h4 (Option.some.inj e)⟩
theorem signLen_le (s : List UInt8) : signLen s ≤ 2 := by
  cases s with
  | nil => simp [signLen]
  | cons c r => simp only [signLen]; split <;> (try split) <;> omega
theorem step_app {s r : List UInt8} {kd n : Nat} (h : step s = .tok kd n s.length) (hr : stops r) : step (s ++ r) = .tok kd n s.length := by
  obtain ⟨r1, r2, r3, r4⟩ := stops_no hr
  cases s with
  | nil => have := (step_len h).1; simp at this
  | cons c t =>
    have hp : ∀ p : UInt8 → Bool, headIs p (c :: t ++ r) = headIs p (c :: t) := fun p => rfl
    unfold step at h ⊢
    rw [hp, hp, hp]
    split at h
    · cases h
    · rename_i hb
      rw [if_neg hb]
      split at h
      · rename_i hl
        rw [if_pos hl]
        split at h
        · cases h
        · injection h with h1 h2 h3
          have hf := takeWhile_full h3
          rw [takeWhile_stop hf r1]
          rename_i h31
          rw [hf] at h31 h1
          rw [if_neg h31, h1, h2]
      · rename_i hl
        rw [if_neg hl]
        split at h
        · rename_i hd
          rw [if_pos hd]
          split at h
          · cases h
          · rename_i hov
            split at h
            · cases h
            · injection h with h1 h2 h3
              have hf := takeWhile_full h3
              rw [takeWhile_stop hf r3]
              rw [hf] at hov h2
              rw [if_neg hov, List.drop_left, if_neg (by rw [r2]; decide), h1, h2]
        · rename_i hd
          rw [if_neg hd]
          split at h
          · cases h
          · injection h with h1 h2 h3
            have h4 : signLen (c :: t ++ r) = (c :: t).length := by
              rw [← h3]
              cases t with
              | nil =>
                simp only [signLen, List.cons_append, List.nil_append]
                split
                · first | (rw [if_neg r4, if_neg (by simp)]) | simp
                · rfl
              | cons d t => rfl
            rw [h4, if_neg (by simp), h1, h2]
theorem step_take {s : List UInt8} {kd n k : Nat} (h : step s = .tok kd n k) : step (s.take k) = .tok kd n k := by
  have hlen := step_len h
  cases s with
  | nil => simp at hlen; omega
  | cons c t =>
    obtain ⟨m, rfl⟩ : ∃ m, k = m + 1 := ⟨k - 1, by omega⟩
    have hp : ∀ p : UInt8 → Bool, headIs p ((c :: t).take (m + 1)) = headIs p (c :: t) := fun p => rfl
    unfold step at h ⊢
    rw [hp, hp, hp]
    split at h
    · cases h
    · rename_i hb
      rw [if_neg hb]
      split at h
      · rename_i hl
        rw [if_pos hl]
        split at h
        · cases h
        · rename_i h31
          injection h with h1 h2 h3
          have e : (c :: t).take (m + 1) = (c :: t).takeWhile behindB := by rw [← h3]; exact (List.prefix_iff_eq_take.1 (List.takeWhile_prefix _)).symm
          have e2 : ((c :: t).takeWhile behindB).takeWhile behindB = (c :: t).takeWhile behindB := takeWhile_all (fun x hx => List.all_eq_true.1 List.all_takeWhile x hx)
          rw [e, e2, if_neg h31, h1, h2, h3]
      · rename_i hl
        rw [if_neg hl]
        split at h
        · rename_i hd
          rw [if_pos hd]
          split at h
          · cases h
          · rename_i hov
            split at h
            · cases h
            · injection h with h1 h2 h3
              have e : (c :: t).take (m + 1) = (c :: t).takeWhile digitB := by rw [← h3]; exact (List.prefix_iff_eq_take.1 (List.takeWhile_prefix _)).symm
              have e2 : ((c :: t).takeWhile digitB).takeWhile digitB = (c :: t).takeWhile digitB := takeWhile_all (fun x hx => List.all_eq_true.1 List.all_takeWhile x hx)
              rw [e, e2, if_neg hov, List.drop_length, if_neg (by decide), h1, h2, h3]
        · rename_i hd
          rw [if_neg hd]
          split at h
          · cases h
          · rename_i hs0
            injection h with h1 h2 h3
            have h4 : signLen ((c :: t).take (m + 1)) = m + 1 := by
              simp only [signLen] at h3
              show signLen (c :: t.take m) = m + 1
              simp only [signLen]
              split at h3
              · rename_i hc
                rw [if_pos hc]
                split at h3
                · rename_i ht
                  obtain rfl : m = 1 := by omega
                  cases t with
                  | nil => cases ht
                  | cons d t => rw [if_pos (show ((d :: t).take 1).head? = some 61 from ht)]
                · obtain rfl : m = 0 := by omega
                  rw [if_neg (by simp)]
              · rename_i hc
                rw [if_neg hc]
                split at h3
                · rename_i hc2
                  rw [if_pos hc2]; omega
                · omega
            rw [h4, if_neg (by omega), h1, h2]
/-- a word alone is that word -/
def Valid (t : T) : Prop := step t.text = .tok t.kind t.n t.text.length
theorem scanAt_valid (s : List UInt8) : ∀ i, ∀ t ∈ (scanAt s i).1, Valid t := by
  refine scanAt_ind s _ (fun i h => ?_) (fun i h hs ih => ?_) (fun i e o h hs => ?_) (fun i kd n k h hs ih => ?_)
  · rw [scanAt_end s i h]; intro t ht; cases ht
  · rw [scanAt_blank h hs]; exact ih
  · rw [scanAt_bad h hs]; intro t ht; cases ht
  · rw [scanAt_tok h hs]
    unfold also
    split
    · intro t ht
      rcases List.mem_cons.1 ht with rfl | h2
      · have hk := step_len hs
        have hl : ((s.drop i).take k).length = k := by rw [List.length_take]; omega
        show step ((s.drop i).take k) = .tok kd n ((s.drop i).take k).length
        rw [hl]
        exact step_take hs
      · exact ih t h2
    · intro t ht; cases ht
/-- words with blanks ahead of each -/
def spaced : List (List UInt8 × T) → List UInt8
  | [] => []
  | x :: L => x.1 ++ (x.2.text ++ spaced L)
def Apart (L : List (List UInt8 × T)) : Prop := ∀ x ∈ L, x.1 ≠ [] ∧ (∀ c ∈ x.1, blankB c = true) ∧ Valid x.2
theorem spaced_stops (L : List (List UInt8 × T)) (h : Apart L) : stops (spaced L) := by
  cases L with
  | nil => exact .inl rfl
  | cons x L =>
    obtain ⟨h1, h2, _⟩ := h x (List.mem_cons_self ..)
    refine .inr ?_
    show headIs blankB (x.1 ++ (x.2.text ++ spaced L)) = true
    cases hx : x.1 with
    | nil => exact absurd hx h1
    | cons c b => exact h2 c (by rw [hx]; exact List.mem_cons_self ..)
theorem scan_step {s : List UInt8} {p kd n k : Nat} (hs : step s = .tok kd n k) : scan s.length s p = also [⟨kd, s.take k, p, n⟩] (scan (s.drop k).length (s.drop k) (p + k)) := by
  have hk := step_len hs
  have hne : s ≠ [] := fun e => by subst e; simp at hk; omega
  obtain ⟨m, hm⟩ : ∃ m, s.length = m + 1 := ⟨s.length - 1, by omega⟩
  rw [hm]
  show (if s = [] then _ else _) = _
  rw [if_neg hne, hs]
  show also _ (scan m (s.drop k) (p + k)) = _
  rw [scan_any m m (s.drop k).length _ _ (by rw [List.length_drop]; omega) (by rw [List.length_drop]; omega) (Nat.le_refl _)]
theorem scan_blanks (b r : List UInt8) (hb : ∀ c ∈ b, blankB c = true) : ∀ p, scan (b ++ r).length (b ++ r) p = scan r.length r (p + b.length) := by
  induction b with
  | nil => intro p; rfl
  | cons c b ih =>
    intro p
    have hc := hb c (List.mem_cons_self ..)
    have hs : step (c :: b ++ r) = .blank := by unfold step; rw [if_pos (show headIs blankB (c :: b ++ r) = true from hc)]
    have e : scan (c :: b ++ r).length (c :: b ++ r) p = scan (b ++ r).length (b ++ r) (p + 1) := by
      show (if c :: b ++ r = [] then _ else _) = _
      rw [if_neg (by simp), hs]
      rfl
    rw [e, ih (fun x hx => hb x (List.mem_cons_of_mem _ hx)), List.length_cons]
    congr 1
    omega
theorem scan_spaced (L : List (List UInt8 × T)) : ∀ p, Apart L → ∃ l, scan (spaced L).length (spaced L) p = (l, 0, 0) ∧ l.map (fun t => (t.kind, t.text, t.n)) = L.map (fun x => (x.2.kind, x.2.text, x.2.n)) := by
  induction L with
  | nil => intro p _; exact ⟨[], rfl, rfl⟩
  | cons x L ih =>
    intro p h
    obtain ⟨h1, h2, h3⟩ := h x (List.mem_cons_self ..)
    have hL : Apart L := fun y hy => h y (List.mem_cons_of_mem _ hy)
    obtain ⟨l, e1, e2⟩ := ih (p + x.1.length + x.2.text.length) hL
    have hs := step_app h3 (spaced_stops L hL)
    refine ⟨⟨x.2.kind, x.2.text, p + x.1.length, x.2.n⟩ :: l, ?_, by rw [List.map_cons, List.map_cons, e2]⟩
    show scan (x.1 ++ (x.2.text ++ spaced L)).length (x.1 ++ (x.2.text ++ spaced L)) p = _
    rw [scan_blanks _ _ h2, scan_step hs, List.drop_left, List.take_left, e1]
    rfl
theorem toks_spaced (L : List (List UInt8 × T)) (h : Apart L) : ∃ l, toks (spaced L) = (l, 0, 0) ∧ l.map (fun t => (t.kind, t.text, t.n)) = L.map (fun x => (x.2.kind, x.2.text, x.2.n)) := scan_spaced L 0 h

/-! ### two signs beside each other -/
def signs10 : List UInt8 := [60, 62, 61, 47, 43, 45, 42, 40, 41, 44]
def joinedOK (a b : Fin 10) : Bool :=
  let x := signs10[a.val]!
  let y := signs10[b.val]!
  let t := (toks [105, x, y, 55])
  t.2.1 == 0 && (if y == 61 && (x == 60 || x == 62 || x == 61 || x == 47) then t.1.length == 3 && (t.1[1]?).map (·.text) == some [x, y] && (t.1[2]?).map (·.n) == some 7 && (t.1[2]?).map (·.pos) == some 3 else t.1.length == 4 && (t.1[1]?).map (·.text) == some [x] && (t.1[2]?).map (·.text) == some [y] && (t.1[3]?).map (·.n) == some 7 && (t.1[1]?).map (·.kind) == some 3 && (t.1[3]?).map (·.pos) == some 3)
theorem joined_all : ∀ a b : Fin 10, joinedOK a b = true := by decide +kernel
end Go.Proofs.YtmbhamnkbpcljaaDoor.Words
