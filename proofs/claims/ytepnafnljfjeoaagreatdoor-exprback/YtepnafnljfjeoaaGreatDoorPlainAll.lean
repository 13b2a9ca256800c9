/- Plain facts on words of a line: bytes, one step, all words from a place on. Nothing of the program is named.
   Plain facts on words more: digits alone are one number; words with blanks between them are the same words; two signs beside each other. Nothing of the program is named.
   Plain facts on how a line's words are read one behind the other: what a text begins with (first), whether a word clings to the one ahead, and one round more. Nothing of the program is named.
   Plain facts on expressions: trees, how words are read as one (with so many rounds at most), that more rounds change nothing, the rules by which a reading goes. Nothing of the program is named.
   The project's way of reading, where what is open lies in a list: that it comes to what the reading by rules comes to. Nothing of the program is named.
   Plain: what is read has few parts everywhere. Nothing of the program is named.
   Plain: where words lie, how many there are.
   A reading that has found nothing wrong has left the place of what is wrong alone. -/
namespace Go.Proofs.YtepnafnljfjeoaaGreatDoor.Words

structure T where
  kind : Nat
  text : List UInt8
  pos : Nat
  n : Nat
deriving DecidableEq

def letterB (c : UInt8) : Bool := decide (97 ≤ c.toNat) && decide (c.toNat ≤ 122)
def digitB (c : UInt8) : Bool := decide (48 ≤ c.toNat) && decide (c.toNat ≤ 57)
def behindB (c : UInt8) : Bool := letterB c || digitB c || decide (c.toNat = 95)
def blankB (c : UInt8) : Bool := decide (c.toNat = 32) || decide (c.toNat = 9)
def keys : List (List UInt8) := [[105, 110, 116, 101, 103, 101, 114], [100, 111], [101, 110, 100], [105, 102], [116, 104, 101, 110], [101, 108, 115, 101], [114, 101, 97, 100], [112, 114, 105, 110, 116]]
def isKey (s : List UInt8) : Bool := keys.contains s
def num (s : List UInt8) : Nat := s.foldl (fun n c => 10 * n + (c.toNat - 48)) 0
def big : Nat := 9223372036854775807
/-- how long a sign that a text begins with is; 0: none -/
def signLen : List UInt8 → Nat
  | [] => 0
  | c :: r => if c.toNat = 60 ∨ c.toNat = 62 ∨ c.toNat = 61 ∨ c.toNat = 47 then (if r.head? = some 61 then 2 else 1) else if c.toNat = 43 ∨ c.toNat = 45 ∨ c.toNat = 42 ∨ c.toNat = 40 ∨ c.toNat = 41 ∨ c.toNat = 44 then 1 else 0
/-- what a text begins with: a blank; a word of that kind, number, length; something that is wrong there -/
inductive Step
  | blank
  | tok (kind n len : Nat)
  | bad (err off : Nat)
def headIs (p : UInt8 → Bool) : List UInt8 → Bool
  | [] => false
  | c :: _ => p c
def step (s : List UInt8) : Step :=
  if headIs blankB s then .blank
  else if headIs letterB s then
    (if 31 < (s.takeWhile behindB).length then .bad 4 0 else .tok (if isKey (s.takeWhile behindB) then 4 else 1) 0 (s.takeWhile behindB).length)
  else if headIs digitB s then
    (if big < num (s.takeWhile digitB) then .bad 5 0 else if headIs letterB (s.drop (s.takeWhile digitB).length) then .bad 3 (s.takeWhile digitB).length else .tok 2 (num (s.takeWhile digitB)) (s.takeWhile digitB).length)
  else if signLen s = 0 then .bad 3 0 else .tok 3 0 (signLen s)
/-- what comes of words ahead and of the rest -/
def also (l : List T) (x : List T × Nat × Nat) : List T × Nat × Nat := if x.2.1 = 0 then (l ++ x.1, 0, 0) else ([], x.2.1, x.2.2)
def scan : Nat → List UInt8 → Nat → List T × Nat × Nat
  | 0, _, _ => ([], 0, 0)
  | f + 1, s, p => if s = [] then ([], 0, 0) else match step s with
    | .blank => scan f (s.drop 1) (p + 1)
    | .bad e o => ([], e, p + o)
    | .tok kd n k => also [⟨kd, s.take k, p, n⟩] (scan f (s.drop k) (p + k))
/-- the words of a text from place i on: (words, 0, 0), or ([], what is wrong, where) -/
def scanAt (s : List UInt8) (i : Nat) : List T × Nat × Nat := scan (s.length - i) (s.drop i) i
def toks (s : List UInt8) : List T × Nat × Nat := scanAt s 0

theorem also_nil (x : List T × Nat × Nat) (h : x.2.1 = 0 → x.2.2 = 0) (h2 : x.2.1 ≠ 0 → x.1 = []) : also [] x = x := by
  obtain ⟨l, e, a⟩ := x
  unfold also
  by_cases he : e = 0
  · have := h he
    simp only at this
    simp [he, this]
  · have := h2 he
    simp only at this
    simp [he, this]
theorem also_also (l m : List T) (x : List T × Nat × Nat) : also l (also m x) = also (l ++ m) x := by
  obtain ⟨k, e, a⟩ := x
  unfold also
  by_cases he : e = 0
  · simp [he]
  · simp [he]
theorem takeWhile_pos {p : UInt8 → Bool} {s : List UInt8} (h : headIs p s = true) : 0 < (s.takeWhile p).length := by
  cases s with
  | nil => cases h
  | cons c r => rw [List.takeWhile_cons, if_pos (show p c = true from h)]; simp
theorem takeWhile_head {p q : UInt8 → Bool} {s : List UInt8} (hq : ∀ c, p c = true → q c = true) (h : headIs p s = true) : 0 < (s.takeWhile q).length := by
  cases s with
  | nil => cases h
  | cons c r => rw [List.takeWhile_cons, if_pos (hq c h)]; simp
theorem letter_behind (c : UInt8) (h : letterB c = true) : behindB c = true := by unfold behindB; rw [h]; rfl
theorem step_len {s : List UInt8} {kd n k : Nat} (h : step s = .tok kd n k) : 0 < k ∧ k ≤ s.length := by
  unfold step at h
  split at h
  · cases h
  · split at h
    · rename_i hl
      split at h
      · cases h
      · injection h with _ _ h
        subst h
        exact ⟨takeWhile_head letter_behind hl, (List.takeWhile_prefix _).length_le⟩
    · split at h
      · rename_i hd
        split at h
        · cases h
        · split at h
          · cases h
          · injection h with _ _ h
            subst h
            exact ⟨takeWhile_pos hd, (List.takeWhile_prefix _).length_le⟩
      · split at h
        · cases h
        · rename_i hs
          injection h with _ _ h
          subst h
          refine ⟨by omega, ?_⟩
          cases s with
          | nil => simp [signLen]
          | cons c r =>
            simp only [signLen]
            split
            · split
              · rename_i hr
                cases r with
                | nil => cases hr
                | cons _ _ => simp
              · simp
            · split <;> simp
theorem scan_nil (f p : Nat) : scan f [] p = ([], 0, 0) := by cases f <;> rfl
/-- more rounds than are wanted change nothing -/
theorem scan_any : ∀ (n f g : Nat) (s : List UInt8) (p : Nat), s.length ≤ n → s.length ≤ f → s.length ≤ g → scan f s p = scan g s p := by
  intro n
  induction n with
  | zero =>
    intro f g s p h _ _
    have : s = [] := List.length_eq_zero_iff.1 (by omega)
    subst this
    rw [scan_nil, scan_nil]
  | succ n ih =>
    intro f g s p h hf hg
    by_cases hs : s = []
    · subst hs; rw [scan_nil, scan_nil]
    · have h0 : s.length ≠ 0 := fun h => hs (List.length_eq_zero_iff.1 h)
      obtain ⟨f', rfl⟩ : ∃ m, f = m + 1 := ⟨f - 1, by omega⟩
      obtain ⟨g', rfl⟩ : ∃ m, g = m + 1 := ⟨g - 1, by omega⟩
      have hd : ∀ k q, 0 < k → scan f' (s.drop k) q = scan g' (s.drop k) q := fun k q hk => ih f' g' _ q (by rw [List.length_drop]; omega) (by rw [List.length_drop]; omega) (by rw [List.length_drop]; omega)
      unfold scan
      rw [if_neg hs, if_neg hs]
      split
      · exact hd 1 _ (by omega)
      · rfl
      · rename_i kd n' k hk
        rw [hd k _ (step_len hk).1]
theorem scanAt_end (s : List UInt8) (i : Nat) (h : s.length ≤ i) : scanAt s i = ([], 0, 0) := by
  unfold scanAt
  rw [List.drop_of_length_le h, scan_nil]
theorem scanAt_unfold (s : List UInt8) (i : Nat) (h : i < s.length) : scanAt s i = match step (s.drop i) with
    | .blank => scanAt s (i + 1)
    | .bad e o => ([], e, i + o)
    | .tok kd n k => also [⟨kd, (s.drop i).take k, i, n⟩] (scanAt s (i + k)) := by
  have hne : s.drop i ≠ [] := fun h0 => by have := congrArg List.length h0; rw [List.length_drop] at this; simp at this; omega
  obtain ⟨m, hm⟩ : ∃ m, s.length - i = m + 1 := ⟨s.length - i - 1, by omega⟩
  have e0 : scanAt s i = match step (s.drop i) with
      | .blank => scan m ((s.drop i).drop 1) (i + 1)
      | .bad e o => ([], e, i + o)
      | .tok kd n k => also [⟨kd, (s.drop i).take k, i, n⟩] (scan m ((s.drop i).drop k) (i + k)) := by
    unfold scanAt
    rw [hm]
    show (if s.drop i = [] then _ else _) = _
    rw [if_neg hne]
  rw [e0]
  cases hs : step (s.drop i) with
  | blank =>
    show scan m ((s.drop i).drop 1) (i + 1) = scanAt s (i + 1)
    unfold scanAt
    rw [List.drop_drop]
    exact scan_any m m (s.length - (i + 1)) _ _ (by rw [List.length_drop]; omega) (by rw [List.length_drop]; omega) (by rw [List.length_drop]; omega)
  | bad e o => rfl
  | tok kd n k =>
    have := step_len hs
    show also _ (scan m ((s.drop i).drop k) (i + k)) = also _ (scanAt s (i + k))
    unfold scanAt
    rw [List.drop_drop, scan_any m m (s.length - (i + k)) _ _ (by rw [List.length_drop]; omega) (by rw [List.length_drop]; omega) (by rw [List.length_drop]; omega)]
theorem scanAt_blank {s : List UInt8} {i : Nat} (h : i < s.length) (hs : step (s.drop i) = .blank) : scanAt s i = scanAt s (i + 1) := by rw [scanAt_unfold s i h, hs]
theorem scanAt_bad {s : List UInt8} {i e o : Nat} (h : i < s.length) (hs : step (s.drop i) = .bad e o) : scanAt s i = ([], e, i + o) := by rw [scanAt_unfold s i h, hs]
theorem scanAt_tok {s : List UInt8} {i kd n k : Nat} (h : i < s.length) (hs : step (s.drop i) = .tok kd n k) : scanAt s i = also [⟨kd, (s.drop i).take k, i, n⟩] (scanAt s (i + k)) := by rw [scanAt_unfold s i h, hs]
theorem step_err {s : List UInt8} {e o : Nat} (h : step s = .bad e o) : e = 3 ∨ e = 4 ∨ e = 5 := by
  unfold step at h
  split at h
  · cases h
  · split at h
    · split at h
      · injection h with h; omega
      · cases h
    · split at h
      · split at h
        · injection h with h; omega
        · split at h
          · injection h with h; omega
          · cases h
      · split at h
        · injection h with h; omega
        · cases h
/-- by going on from place to place -/
theorem scanAt_ind (s : List UInt8) (P : Nat → Prop) (hend : ∀ i, s.length ≤ i → P i) (hb : ∀ i, i < s.length → step (s.drop i) = .blank → P (i + 1) → P i) (hbad : ∀ i e o, i < s.length → step (s.drop i) = .bad e o → P i)
    (ht : ∀ i kd n k, i < s.length → step (s.drop i) = .tok kd n k → P (i + k) → P i) : ∀ i, P i := by
  have key : ∀ m i, s.length - i ≤ m → P i := by
    intro m
    induction m with
    | zero => intro i h; exact hend i (by omega)
    | succ m ih =>
      intro i h
      by_cases hi : i < s.length
      · cases hs : step (s.drop i) with
        | blank => exact hb i hi hs (ih _ (by omega))
        | bad e o => exact hbad i e o hi hs
        | tok kd n k => have := step_len hs; exact ht i kd n k hi hs (ih _ (by omega))
      · exact hend i (by omega)
  exact fun i => key _ i (Nat.le_refl _)
theorem scanAt_form (s : List UInt8) : ∀ i, ((scanAt s i).2.1 = 0 → (scanAt s i).2.2 = 0) ∧ ((scanAt s i).2.1 ≠ 0 → (scanAt s i).1 = []) := by
  refine scanAt_ind s _ (fun i h => ?_) (fun i h hs ih => ?_) (fun i e o h hs => ?_) (fun i kd n k h hs ih => ?_)
  · rw [scanAt_end s i h]; exact ⟨fun _ => rfl, fun h => absurd rfl h⟩
  · rw [scanAt_blank h hs]; exact ih
  · rw [scanAt_bad h hs]; have := step_err hs; exact ⟨fun h => by simp only at h; omega, fun _ => rfl⟩
  · rw [scanAt_tok h hs]
    unfold also
    split
    · exact ⟨fun _ => rfl, fun h => absurd rfl h⟩
    · rename_i h2; exact ⟨fun h => absurd h h2, fun _ => rfl⟩
/-- where words lie: behind each other, blanks alone between them -/
def Good (s : List UInt8) : Nat → List T → Prop
  | _, [] => True
  | a, t :: l => a ≤ t.pos ∧ t.pos + t.text.length ≤ s.length ∧ t.text = (s.drop t.pos).take t.text.length ∧ (∀ k (h : k < s.length), a ≤ k → k < t.pos → blankB s[k] = true) ∧ Good s (t.pos + t.text.length) l
theorem Good.from {s : List UInt8} {l : List T} {a b : Nat} (h : Good s b l) (hab : a ≤ b) (hbl : ∀ k (h : k < s.length), a ≤ k → k < b → blankB s[k] = true) : Good s a l := by
  cases l with
  | nil => trivial
  | cons t l =>
    obtain ⟨h1, h2, h3, h4, h5⟩ := h
    refine ⟨by omega, h2, h3, fun k hk ha hp => ?_, h5⟩
    by_cases hkb : k < b
    · exact hbl k hk ha hkb
    · exact h4 k hk (by omega) hp
theorem step_blank {s : List UInt8} (h : step s = .blank) : headIs blankB s = true := by
  unfold step at h
  split at h
  · assumption
  · split at h
    · split at h <;> cases h
    · split at h
      · split at h
        · cases h
        · split at h <;> cases h
      · split at h <;> cases h
theorem scanAt_good (s : List UInt8) : ∀ i, (scanAt s i).2.1 = 0 → Good s i (scanAt s i).1 := by
  refine scanAt_ind s _ (fun i h => ?_) (fun i h hs ih => ?_) (fun i e o h hs => ?_) (fun i kd n k h hs ih => ?_)
  · rw [scanAt_end s i h]; exact fun _ => trivial
  · rw [scanAt_blank h hs]
    intro he
    refine (ih he).from (by omega) (fun k hk h1 h2 => ?_)
    obtain rfl : k = i := by omega
    have := step_blank hs
    rw [List.drop_eq_getElem_cons hk] at this
    exact this
  · rw [scanAt_bad h hs]; have := step_err hs; intro h; simp only at h; omega
  · rw [scanAt_tok h hs]
    unfold also
    split
    · rename_i he
      intro _
      have hk := step_len hs
      rw [List.length_drop] at hk
      have hl : ((s.drop i).take k).length = k := by rw [List.length_take, List.length_drop]; omega
      refine ⟨Nat.le_refl _, ?_, ?_, fun k' _ h1 h2 => ?_, ?_⟩
      · show i + ((s.drop i).take k).length ≤ s.length
        rw [hl]; omega
      · show (s.drop i).take k = (s.drop i).take ((s.drop i).take k).length
        rw [hl]
      · simp only at h2; omega
      · show Good s (i + ((s.drop i).take k).length) _
        rw [hl]; exact ih he
    · rename_i h2; exact fun h => absurd h h2
/-- by in place of each name that is name, from place a on -/
def repl (body name by_ : List UInt8) : Nat → List T → List UInt8
  | a, [] => body.drop a
  | a, t :: l => if t.kind = 1 ∧ t.text = name then (body.drop a).take (t.pos - a) ++ by_ ++ repl body name by_ (t.pos + name.length) l else repl body name by_ a l
theorem repl_self (body name : List UInt8) (l : List T) : ∀ a b, a ≤ b → Good body b l → repl body name name a l = body.drop a := by
  induction l with
  | nil => intro a b _ _; rfl
  | cons t l ih =>
    intro a b hab hg
    obtain ⟨h1, h2, h3, h4, h5⟩ := hg
    show (if t.kind = 1 ∧ t.text = name then (body.drop a).take (t.pos - a) ++ name ++ repl body name name (t.pos + name.length) l else repl body name name a l) = _
    split
    · rename_i hn
      obtain ⟨_, rfl⟩ := hn
      rw [ih _ _ (Nat.le_refl _) h5]
      conv => lhs; lhs; rhs; rw [h3]
      have e1 : body.drop (t.pos + t.text.length) = (body.drop t.pos).drop t.text.length := by rw [List.drop_drop]
      have e2 : body.drop t.pos = (body.drop a).drop (t.pos - a) := by rw [List.drop_drop]; congr 1; omega
      rw [e1, List.append_assoc, List.take_append_drop, e2, List.take_append_drop]
    · exact ih a _ (by omega) h5
end Go.Proofs.YtepnafnljfjeoaaGreatDoor.Words

namespace Go.Proofs.YtepnafnljfjeoaaGreatDoor.Words
set_option linter.unusedVariables false

/-! ### a number in words -/
theorem takeWhile_all {p : UInt8 → Bool} {s : List UInt8} (h : ∀ c ∈ s, p c = true) : s.takeWhile p = s := by
  induction s with
  | nil => rfl
  | cons c r ih => rw [List.takeWhile_cons, if_pos (h c (List.mem_cons_self ..)), ih (fun x hx => h x (List.mem_cons_of_mem _ hx))]
theorem digit_not (c : UInt8) (h : digitB c = true) : blankB c = false ∧ letterB c = false := by
  unfold digitB at h
  unfold blankB letterB
  simp only [Bool.and_eq_true, decide_eq_true_eq] at h
  simp only [Bool.or_eq_false_iff, Bool.and_eq_false_iff, decide_eq_false_iff_not]
  omega
theorem step_digits (s : List UInt8) (h0 : s ≠ []) (h : ∀ c ∈ s, digitB c = true) : step s = if big < num s then .bad 5 0 else .tok 2 (num s) s.length := by
  cases s with
  | nil => exact absurd rfl h0
  | cons c r =>
    have hc := h c (List.mem_cons_self ..)
    obtain ⟨h1, h2⟩ := digit_not c hc
    unfold step
    rw [show headIs blankB (c :: r) = false from h1, show headIs letterB (c :: r) = false from h2, show headIs digitB (c :: r) = true from hc, if_neg (by decide), if_neg (by decide), if_pos rfl, takeWhile_all h, List.drop_length]
    rfl
theorem toks_digits (s : List UInt8) (h0 : s ≠ []) (h : ∀ c ∈ s, digitB c = true) : toks s = if big < num s then ([], 5, 0) else ([⟨2, s, 0, num s⟩], 0, 0) := by
  have hl : 0 < s.length := by cases s with | nil => exact absurd rfl h0 | cons _ _ => simp
  unfold toks
  have hs := step_digits s h0 h
  by_cases hb : big < num s
  · rw [if_pos hb] at hs ⊢
    rw [scanAt_bad hl (by rw [List.drop_zero]; exact hs)]
  · rw [if_neg hb] at hs ⊢
    rw [scanAt_tok hl (by rw [List.drop_zero]; exact hs), scanAt_end s _ (by omega), List.drop_zero, List.take_length]
    rfl
/-- a number's digits; none for 0 -/
def digs (n : Nat) : List UInt8 := if h : n = 0 then [] else digs (n / 10) ++ [UInt8.ofNat (48 + n % 10)]
termination_by n
decreasing_by omega
theorem digs_zero : digs 0 = [] := by rw [digs]; rfl
theorem digs_pos {n : Nat} (h : n ≠ 0) : digs n = digs (n / 10) ++ [UInt8.ofNat (48 + n % 10)] := by rw [digs, dif_neg h]
theorem dig_toNat (k : Nat) (h : k < 10) : (UInt8.ofNat (48 + k)).toNat = 48 + k := by rw [UInt8.toNat_ofNat']; omega
theorem digs_all (n : Nat) : ∀ c ∈ digs n, digitB c = true := by
  induction n using Nat.strongRecOn with
  | ind n ih =>
    by_cases h : n = 0
    · subst h; rw [digs_zero]; intro c hc; cases hc
    · rw [digs_pos h]
      intro c hc
      rcases List.mem_append.1 hc with h1 | h1
      · exact ih (n / 10) (by omega) c h1
      · rw [List.mem_singleton.1 h1]
        unfold digitB
        rw [dig_toNat _ (by omega)]
        simp only [Bool.and_eq_true, decide_eq_true_eq]
        omega
theorem num_app (a b : List UInt8) (h : num a = 0) : num (a ++ b) = num b := by
  unfold num at *
  rw [List.foldl_append, h]
theorem num_digs (n : Nat) : num (digs n) = n := by
  induction n using Nat.strongRecOn with
  | ind n ih =>
    by_cases h : n = 0
    · subst h; rw [digs_zero]; rfl
    · rw [digs_pos h]
      have e : num (digs (n / 10) ++ [UInt8.ofNat (48 + n % 10)]) = 10 * num (digs (n / 10)) + ((UInt8.ofNat (48 + n % 10)).toNat - 48) := by unfold num; rw [List.foldl_append]; rfl
      rw [e, ih (n / 10) (by omega), dig_toNat _ (by omega)]
      omega
theorem digs_len (k : Nat) : ∀ n, n < 10 ^ k → (digs n).length ≤ k := by
  induction k with
  | zero =>
    intro n h
    have h0 : n = 0 := by simpa using h
    subst h0
    rw [digs_zero]; simp
  | succ k ih =>
    intro n h
    by_cases h0 : n = 0
    · subst h0; rw [digs_zero]; simp
    · rw [digs_pos h0, List.length_append, List.length_singleton]
      have := ih (n / 10) (by rw [Nat.pow_succ] at h; omega)
      omega
def noughts (k : Nat) : List UInt8 := List.replicate k 48
theorem noughts_all (k : Nat) : ∀ c ∈ noughts k, digitB c = true := by
  intro c hc
  rw [List.eq_of_mem_replicate hc]
  rfl
theorem noughts_num (k : Nat) : num (noughts k) = 0 := by
  unfold num noughts
  induction k with
  | zero => rfl
  | succ k ih => rw [List.replicate_succ, List.foldl_cons]; exact ih
/-- a number's digits as the law makes them -/
def dec (n : Nat) : List UInt8 := if n = 0 then [48] else digs n
theorem toks_dec (k n : Nat) : toks (noughts k ++ dec n) = if big < n then ([], 5, 0) else ([⟨2, noughts k ++ dec n, 0, n⟩], 0, 0) := by
  have hd : ∀ c ∈ dec n, digitB c = true := by
    unfold dec
    split
    · intro c hc; rw [List.mem_singleton.1 hc]; rfl
    · exact digs_all n
  have hn : num (dec n) = n := by
    unfold dec
    split
    · rename_i h; rw [h]; rfl
    · exact num_digs n
  have h0 : noughts k ++ dec n ≠ [] := by
    intro h
    have h1 := (List.append_eq_nil_iff.1 h).2
    unfold dec at h1
    split at h1
    · cases h1
    · rename_i h2
      rw [digs_pos h2] at h1
      exact absurd (List.append_eq_nil_iff.1 h1).2 (List.cons_ne_nil _ _)
  have e := toks_digits (noughts k ++ dec n) h0 (fun c hc => by
    rcases List.mem_append.1 hc with h | h
    · exact noughts_all k c h
    · exact hd c h)
  rw [num_app _ _ (noughts_num k), hn] at e
  exact e

/-! ### blanks between words -/
theorem blank_not (c : UInt8) (h : blankB c = true) : behindB c = false ∧ letterB c = false ∧ digitB c = false ∧ c ≠ 61 := by
  unfold blankB at h
  simp only [Bool.or_eq_true, decide_eq_true_eq] at h
  refine ⟨?_, ?_, ?_, ?_⟩
  · unfold behindB letterB digitB
    simp only [Bool.or_eq_false_iff, Bool.and_eq_false_iff, decide_eq_false_iff_not]
    omega
  · unfold letterB
    simp only [Bool.and_eq_false_iff, decide_eq_false_iff_not]
    omega
  · unfold digitB
    simp only [Bool.and_eq_false_iff, decide_eq_false_iff_not]
    omega
  · intro e
    subst e
    revert h
    decide
theorem takeWhile_full {p : UInt8 → Bool} {s : List UInt8} (h : (s.takeWhile p).length = s.length) : s.takeWhile p = s := (List.takeWhile_prefix p).eq_of_length h
theorem takeWhile_stop {p : UInt8 → Bool} {s r : List UInt8} (hs : s.takeWhile p = s) (hr : headIs p r = false) : (s ++ r).takeWhile p = s := by
  have hall : ∀ c ∈ s, p c = true := by
    intro c hc
    have := List.all_takeWhile (p := p) (l := s)
    rw [hs] at this
    exact List.all_eq_true.1 this c hc
  rw [List.takeWhile_append_of_pos hall]
  cases r with
  | nil => simp
  | cons d r => rw [List.takeWhile_cons, if_neg (by rw [show p d = false from hr]; decide), List.append_nil]
/-- does a text end, or go on with a blank? -/
def stops (r : List UInt8) : Prop := r = [] ∨ headIs blankB r = true
theorem stops_no {r : List UInt8} (h : stops r) : headIs behindB r = false ∧ headIs letterB r = false ∧ headIs digitB r = false ∧ r.head? ≠ some 61 := by
  cases r with
  | nil => exact ⟨rfl, rfl, rfl, by simp⟩
  | cons c r =>
    rcases h with h | h
    · cases h
    · obtain ⟨h1, h2, h3, h4⟩ := blank_not c h
      exact ⟨h1, h2, h3, fun e => h4 (Option.some.inj e)⟩
theorem signLen_le (s : List UInt8) : signLen s ≤ 2 := by
  cases s with
  | nil => simp [signLen]
  | cons c r => simp only [signLen]; split <;> (try split) <;> omega
theorem step_app {s r : List UInt8} {kd n : Nat} (h : step s = .tok kd n s.length) (hr : stops r) : step (s ++ r) = .tok kd n s.length := by
  obtain ⟨r1, r2, r3, r4⟩ := stops_no hr
  cases s with
  | nil => have := (step_len h).1; simp at this
  | cons c t =>
    have hp : ∀ p : UInt8 → Bool, headIs p (c :: t ++ r) = headIs p (c :: t) := fun p => rfl
    unfold step at h ⊢
    rw [hp, hp, hp]
    split at h
    · cases h
    · rename_i hb
      rw [if_neg hb]
      split at h
      · rename_i hl
        rw [if_pos hl]
        split at h
        · cases h
        · injection h with h1 h2 h3
          have hf := takeWhile_full h3
          rw [takeWhile_stop hf r1]
          rename_i h31
          rw [hf] at h31 h1
          rw [if_neg h31, h1, h2]
      · rename_i hl
        rw [if_neg hl]
        split at h
        · rename_i hd
          rw [if_pos hd]
          split at h
          · cases h
          · rename_i hov
            split at h
            · cases h
            · injection h with h1 h2 h3
              have hf := takeWhile_full h3
              rw [takeWhile_stop hf r3]
              rw [hf] at hov h2
              rw [if_neg hov, List.drop_left, if_neg (by rw [r2]; decide), h1, h2]
        · rename_i hd
          rw [if_neg hd]
          split at h
          · cases h
          · injection h with h1 h2 h3
            have h4 : signLen (c :: t ++ r) = (c :: t).length := by
              rw [← h3]
              cases t with
              | nil =>
                simp only [signLen, List.cons_append, List.nil_append]
                split
                · first | (rw [if_neg r4, if_neg (by simp)]) | simp
                · rfl
              | cons d t => rfl
            rw [h4, if_neg (by simp), h1, h2]
theorem step_take {s : List UInt8} {kd n k : Nat} (h : step s = .tok kd n k) : step (s.take k) = .tok kd n k := by
  have hlen := step_len h
  cases s with
  | nil => simp at hlen; omega
  | cons c t =>
    obtain ⟨m, rfl⟩ : ∃ m, k = m + 1 := ⟨k - 1, by omega⟩
    have hp : ∀ p : UInt8 → Bool, headIs p ((c :: t).take (m + 1)) = headIs p (c :: t) := fun p => rfl
    unfold step at h ⊢
    rw [hp, hp, hp]
    split at h
    · cases h
    · rename_i hb
      rw [if_neg hb]
      split at h
      · rename_i hl
        rw [if_pos hl]
        split at h
        · cases h
        · rename_i h31
          injection h with h1 h2 h3
          have e : (c :: t).take (m + 1) = (c :: t).takeWhile behindB := by rw [← h3]; exact (List.prefix_iff_eq_take.1 (List.takeWhile_prefix _)).symm
          have e2 : ((c :: t).takeWhile behindB).takeWhile behindB = (c :: t).takeWhile behindB := takeWhile_all (fun x hx => List.all_eq_true.1 List.all_takeWhile x hx)
          rw [e, e2, if_neg h31, h1, h2, h3]
      · rename_i hl
        rw [if_neg hl]
        split at h
        · rename_i hd
          rw [if_pos hd]
          split at h
          · cases h
          · rename_i hov
            split at h
            · cases h
            · injection h with h1 h2 h3
              have e : (c :: t).take (m + 1) = (c :: t).takeWhile digitB := by rw [← h3]; exact (List.prefix_iff_eq_take.1 (List.takeWhile_prefix _)).symm
              have e2 : ((c :: t).takeWhile digitB).takeWhile digitB = (c :: t).takeWhile digitB := takeWhile_all (fun x hx => List.all_eq_true.1 List.all_takeWhile x hx)
              rw [e, e2, if_neg hov, List.drop_length, if_neg (by decide), h1, h2, h3]
        · rename_i hd
          rw [if_neg hd]
          split at h
          · cases h
          · rename_i hs0
            injection h with h1 h2 h3
            have h4 : signLen ((c :: t).take (m + 1)) = m + 1 := by
              simp only [signLen] at h3
              show signLen (c :: t.take m) = m + 1
              simp only [signLen]
              split at h3
              · rename_i hc
                rw [if_pos hc]
                split at h3
                · rename_i ht
                  obtain rfl : m = 1 := by omega
                  cases t with
                  | nil => cases ht
                  | cons d t => rw [if_pos (show ((d :: t).take 1).head? = some 61 from ht)]
                · obtain rfl : m = 0 := by omega
                  rw [if_neg (by simp)]
              · rename_i hc
                rw [if_neg hc]
                split at h3
                · rename_i hc2
                  rw [if_pos hc2]; omega
                · omega
            rw [h4, if_neg (by omega), h1, h2]
/-- a word alone is that word -/
def Valid (t : T) : Prop := step t.text = .tok t.kind t.n t.text.length
theorem scanAt_valid (s : List UInt8) : ∀ i, ∀ t ∈ (scanAt s i).1, Valid t := by
  refine scanAt_ind s _ (fun i h => ?_) (fun i h hs ih => ?_) (fun i e o h hs => ?_) (fun i kd n k h hs ih => ?_)
  · rw [scanAt_end s i h]; intro t ht; cases ht
  · rw [scanAt_blank h hs]; exact ih
  · rw [scanAt_bad h hs]; intro t ht; cases ht
  · rw [scanAt_tok h hs]
    unfold also
    split
    · intro t ht
      rcases List.mem_cons.1 ht with rfl | h2
      · have hk := step_len hs
        have hl : ((s.drop i).take k).length = k := by rw [List.length_take]; omega
        show step ((s.drop i).take k) = .tok kd n ((s.drop i).take k).length
        rw [hl]
        exact step_take hs
      · exact ih t h2
    · intro t ht; cases ht
/-- words with blanks ahead of each -/
def spaced : List (List UInt8 × T) → List UInt8
  | [] => []
  | x :: L => x.1 ++ (x.2.text ++ spaced L)
def Apart (L : List (List UInt8 × T)) : Prop := ∀ x ∈ L, x.1 ≠ [] ∧ (∀ c ∈ x.1, blankB c = true) ∧ Valid x.2
theorem spaced_stops (L : List (List UInt8 × T)) (h : Apart L) : stops (spaced L) := by
  cases L with
  | nil => exact .inl rfl
  | cons x L =>
    obtain ⟨h1, h2, _⟩ := h x (List.mem_cons_self ..)
    refine .inr ?_
    show headIs blankB (x.1 ++ (x.2.text ++ spaced L)) = true
    cases hx : x.1 with
    | nil => exact absurd hx h1
    | cons c b => exact h2 c (by rw [hx]; exact List.mem_cons_self ..)
theorem scan_step {s : List UInt8} {p kd n k : Nat} (hs : step s = .tok kd n k) : scan s.length s p = also [⟨kd, s.take k, p, n⟩] (scan (s.drop k).length (s.drop k) (p + k)) := by
  have hk := step_len hs
  have hne : s ≠ [] := fun e => by subst e; simp at hk; omega
  obtain ⟨m, hm⟩ : ∃ m, s.length = m + 1 := ⟨s.length - 1, by omega⟩
  rw [hm]
  show (if s = [] then _ else _) = _
  rw [if_neg hne, hs]
  show also _ (scan m (s.drop k) (p + k)) = _
  rw [scan_any m m (s.drop k).length _ _ (by rw [List.length_drop]; omega) (by rw [List.length_drop]; omega) (Nat.le_refl _)]
theorem scan_blanks (b r : List UInt8) (hb : ∀ c ∈ b, blankB c = true) : ∀ p, scan (b ++ r).length (b ++ r) p = scan r.length r (p + b.length) := by
  induction b with
  | nil => intro p; rfl
  | cons c b ih =>
    intro p
    have hc := hb c (List.mem_cons_self ..)
    have hs : step (c :: b ++ r) = .blank := by unfold step; rw [if_pos (show headIs blankB (c :: b ++ r) = true from hc)]
    have e : scan (c :: b ++ r).length (c :: b ++ r) p = scan (b ++ r).length (b ++ r) (p + 1) := by
      show (if c :: b ++ r = [] then _ else _) = _
      rw [if_neg (by simp), hs]
      rfl
    rw [e, ih (fun x hx => hb x (List.mem_cons_of_mem _ hx)), List.length_cons]
    congr 1
    omega
theorem scan_spaced (L : List (List UInt8 × T)) : ∀ p, Apart L → ∃ l, scan (spaced L).length (spaced L) p = (l, 0, 0) ∧ l.map (fun t => (t.kind, t.text, t.n)) = L.map (fun x => (x.2.kind, x.2.text, x.2.n)) := by
  induction L with
  | nil => intro p _; exact ⟨[], rfl, rfl⟩
  | cons x L ih =>
    intro p h
    obtain ⟨h1, h2, h3⟩ := h x (List.mem_cons_self ..)
    have hL : Apart L := fun y hy => h y (List.mem_cons_of_mem _ hy)
    obtain ⟨l, e1, e2⟩ := ih (p + x.1.length + x.2.text.length) hL
    have hs := step_app h3 (spaced_stops L hL)
    refine ⟨⟨x.2.kind, x.2.text, p + x.1.length, x.2.n⟩ :: l, ?_, by rw [List.map_cons, List.map_cons, e2]⟩
    show scan (x.1 ++ (x.2.text ++ spaced L)).length (x.1 ++ (x.2.text ++ spaced L)) p = _
    rw [scan_blanks _ _ h2, scan_step hs, List.drop_left, List.take_left, e1]
    rfl
theorem toks_spaced (L : List (List UInt8 × T)) (h : Apart L) : ∃ l, toks (spaced L) = (l, 0, 0) ∧ l.map (fun t => (t.kind, t.text, t.n)) = L.map (fun x => (x.2.kind, x.2.text, x.2.n)) := scan_spaced L 0 h

/-! ### two signs beside each other -/
def signs10 : List UInt8 := [60, 62, 61, 47, 43, 45, 42, 40, 41, 44]
def joinedOK (a b : Fin 10) : Bool :=
  let x := signs10[a.val]!
  let y := signs10[b.val]!
  let t := (toks [105, x, y, 55])
  t.2.1 == 0 && (if y == 61 && (x == 60 || x == 62 || x == 61 || x == 47) then t.1.length == 3 && (t.1[1]?).map (·.text) == some [x, y] && (t.1[2]?).map (·.n) == some 7 && (t.1[2]?).map (·.pos) == some 3 else t.1.length == 4 && (t.1[1]?).map (·.text) == some [x] && (t.1[2]?).map (·.text) == some [y] && (t.1[3]?).map (·.n) == some 7 && (t.1[1]?).map (·.kind) == some 3 && (t.1[3]?).map (·.pos) == some 3)
theorem joined_all : ∀ a b : Fin 10, joinedOK a b = true := by decide +kernel
end Go.Proofs.YtepnafnljfjeoaaGreatDoor.Words

namespace Go.Proofs.YtepnafnljfjeoaaGreatDoor.Words
set_option linter.unusedVariables false

/-- the word that a text begins with (its place is told later), and what is wrong; 0: nothing -/
def first (s : List UInt8) : T × Nat :=
  if headIs letterB s then (if isKey (s.takeWhile behindB) then (⟨4, s.takeWhile behindB, 0, 0⟩, 0) else if 31 < (s.takeWhile behindB).length then (⟨0, [], 0, 0⟩, 4) else (⟨1, s.takeWhile behindB, 0, 0⟩, 0))
  else if headIs digitB s then (if big < num (s.takeWhile digitB) then (⟨0, [], 0, 0⟩, 5) else (⟨2, s.takeWhile digitB, 0, num (s.takeWhile digitB)⟩, 0))
  else if signLen s = 0 then (⟨0, [], 0, 0⟩, 3) else (⟨3, s.take (signLen s), 0, 0⟩, 0)
/-- does a word of that kind cling to the words ahead? -/
def clingsB (l : List T) (k : Nat) : Bool := (match l.getLast? with | some t => decide (t.kind = 2) | none => false) && (decide (k = 1) || decide (k = 4))
/-- what may be told in place of what -/
def Near (e e' : Nat) : Prop := e' = e ∨ (e = 3 ∧ e' = 4)
theorem Near.same {e e' : Nat} (h : Near e e') (h3 : e ≠ 3) : e' = e := by
  rcases h with h | ⟨h, _⟩
  · exact h
  · exact absurd h h3
theorem isKey_len {s : List UInt8} (h : isKey s = true) : s.length ≤ 7 := by
  unfold isKey at h
  rw [List.contains_iff_mem] at h
  simp only [keys, List.mem_cons, List.not_mem_nil, or_false] at h
  rcases h with rfl | rfl | rfl | rfl | rfl | rfl | rfl | rfl <;> decide
theorem first_tok {s : List UInt8} {kd n k : Nat} (h : step s = .tok kd n k) : first s = (⟨kd, s.take k, 0, n⟩, 0) ∧ (kd = 1 ∨ kd = 4 → headIs letterB s = true) ∧ (kd = 2 → headIs letterB (s.drop k) = false) := by
  unfold step at h
  unfold first
  split at h
  · cases h
  · split at h
    · rename_i hl
      rw [if_pos hl]
      split at h
      · cases h
      · rename_i h31
        injection h with h1 h2 h3
        have e : s.take k = s.takeWhile behindB := by rw [← h3]; exact (List.prefix_iff_eq_take.1 (List.takeWhile_prefix _)).symm
        subst h2
        rw [e]
        split
        · rename_i hk
          rw [if_pos hk] at h1
          subst h1
          exact ⟨rfl, fun _ => hl, fun h => by cases h⟩
        · rename_i hk
          rw [if_neg hk] at h1
          subst h1
          exact ⟨rfl, fun _ => hl, fun h => by cases h⟩
    · rename_i hl
      rw [if_neg hl]
      split at h
      · rename_i hd
        rw [if_pos hd]
        split at h
        · cases h
        · rename_i hov
          split at h
          · cases h
          · rename_i hlt
            injection h with h1 h2 h3
            have e : s.take k = s.takeWhile digitB := by rw [← h3]; exact (List.prefix_iff_eq_take.1 (List.takeWhile_prefix _)).symm
            rw [if_neg hov, e]
            subst h1
            refine ⟨by rw [h2], fun h => by omega, fun _ => ?_⟩
            rw [← h3]
            simpa using hlt
      · rename_i hd
        rw [if_neg hd]
        split at h
        · cases h
        · rename_i hs
          injection h with h1 h2 h3
          rw [if_neg hs, h3]
          subst h1
          subst h2
          exact ⟨rfl, fun h => by omega, fun h => by cases h⟩
theorem first_bad {s : List UInt8} {e o : Nat} (h : step s = .bad e o) : (first s = (⟨0, [], 0, 0⟩, e) ∧ o = 0) ∨ (∃ n, first s = (⟨2, s.take o, 0, n⟩, 0) ∧ 0 < o ∧ o ≤ s.length ∧ e = 3 ∧ headIs letterB (s.drop o) = true) := by
  unfold step at h
  unfold first
  split at h
  · cases h
  · split at h
    · rename_i hl
      rw [if_pos hl]
      split at h
      · rename_i h31
        injection h with h1 h2
        left
        rw [if_neg (fun hk => by have := isKey_len hk; omega), if_pos h31, h1]
        exact ⟨rfl, h2.symm⟩
      · cases h
    · rename_i hl
      rw [if_neg hl]
      split at h
      · rename_i hd
        rw [if_pos hd]
        split at h
        · rename_i hov
          injection h with h1 h2
          left
          rw [if_pos hov, h1]
          exact ⟨rfl, h2.symm⟩
        · rename_i hov
          split at h
          · rename_i hlt
            injection h with h1 h2
            right
            have e2 : s.take o = s.takeWhile digitB := by rw [← h2]; exact (List.prefix_iff_eq_take.1 (List.takeWhile_prefix _)).symm
            rw [if_neg hov, e2]
            refine ⟨_, rfl, ?_, ?_, h1.symm, by rw [← h2]; exact hlt⟩
            · rw [← h2]; exact takeWhile_pos hd
            · rw [← h2]; exact (List.takeWhile_prefix _).length_le
          · cases h
      · rename_i hd
        rw [if_neg hd]
        split at h
        · rename_i hs
          injection h with h1 h2
          left
          rw [if_pos hs, h1]
          exact ⟨rfl, h2.symm⟩
        · cases h
/-- what stands behind some rounds: the words so far, and from where on one goes on -/
def Inv (s : List UInt8) (done : List T) (e : Nat) : Prop :=
  (also done (scanAt s e) = toks s ∧ ((∃ t, done.getLast? = some t ∧ t.kind = 2) → headIs letterB (s.drop e) = false)) ∨
  ((∃ t, done.getLast? = some t ∧ t.kind = 2) ∧ headIs letterB (s.drop e) = true ∧ toks s = ([], 3, e))
theorem inv_start (s : List UInt8) : Inv s [] 0 := by
  left
  refine ⟨?_, fun ⟨t, h, _⟩ => by cases h⟩
  exact also_nil _ (scanAt_form s 0).1 (scanAt_form s 0).2
theorem skip_blanks (s : List UInt8) : ∀ (n e : Nat), ((s.drop e).takeWhile blankB).length = n → scanAt s e = scanAt s (e + n) ∧ headIs blankB (s.drop (e + n)) = false := by
  intro n
  induction n with
  | zero =>
    intro e h
    refine ⟨rfl, ?_⟩
    rw [Nat.add_zero]
    cases hd : s.drop e with
    | nil => rfl
    | cons c r =>
      rw [hd, List.takeWhile_cons] at h
      show blankB c = false
      by_cases hb : blankB c = true
      · rw [if_pos hb] at h; simp at h
      · simpa using hb
  | succ n ih =>
    intro e h
    have he : e < s.length := by
      rcases Nat.lt_or_ge e s.length with h1 | h1
      · exact h1
      · rw [List.drop_of_length_le h1] at h; simp at h
    rw [List.drop_eq_getElem_cons he, List.takeWhile_cons] at h
    by_cases hb : blankB s[e] = true
    · rw [if_pos hb, List.length_cons] at h
      obtain ⟨h1, h2⟩ := ih (e + 1) (by omega)
      have hs : step (s.drop e) = .blank := by unfold step; rw [List.drop_eq_getElem_cons he, if_pos (show headIs blankB (s[e] :: s.drop (e + 1)) = true from hb)]
      rw [scanAt_blank he hs, show e + (n + 1) = e + 1 + n by omega]
      exact ⟨h1, h2⟩
    · rw [if_neg hb] at h; simp at h
theorem letter_blank {s : List UInt8} (h : headIs letterB s = true) : headIs blankB s = false := by
  cases s with
  | nil => cases h
  | cons c r =>
    have h : letterB c = true := h
    show blankB c = false
    by_cases hb : blankB c = true
    · have := (blank_not c hb).2.1; rw [this] at h; cases h
    · simpa using hb
theorem takeWhile_none {p : UInt8 → Bool} {s : List UInt8} (h : headIs p s = false) : (s.takeWhile p).length = 0 := by
  cases s with
  | nil => rfl
  | cons c r => rw [List.takeWhile_cons, if_neg (by rw [show p c = false from h]; decide)]; rfl
theorem clings_iff (l : List T) (k : Nat) : clingsB l k = true ↔ (∃ t, l.getLast? = some t ∧ t.kind = 2) ∧ (k = 1 ∨ k = 4) := by
  unfold clingsB
  cases h : l.getLast? with
  | none => simp
  | some t => simp
theorem first_letter {s : List UInt8} (h : headIs letterB s = true) : (∃ t, first s = (t, 0) ∧ (t.kind = 1 ∨ t.kind = 4)) ∨ first s = (⟨0, [], 0, 0⟩, 4) := by
  unfold first
  rw [if_pos h]
  split
  · exact .inl ⟨_, rfl, .inr rfl⟩
  · split
    · exact .inr rfl
    · exact .inl ⟨_, rfl, .inl rfl⟩
/-- one round more -/
theorem round (s : List UInt8) (done : List T) (e a : Nat) (h : Inv s done e) (he : e ≤ s.length) (ha : e + ((s.drop e).takeWhile blankB).length = a) :
    (a = s.length → toks s = (done, 0, 0)) ∧ (a < s.length →
      (∃ t, first (s.drop a) = (t, 0) ∧ a = e ∧ clingsB done t.kind = true ∧ toks s = ([], 3, a)) ∨
      (∃ t, first (s.drop a) = (t, 0) ∧ ¬ (a = e ∧ clingsB done t.kind = true) ∧ Inv s (done ++ [⟨t.kind, t.text, a, t.n⟩]) (a + t.text.length) ∧ 0 < t.text.length ∧ a + t.text.length ≤ s.length) ∨
      (∃ err, first (s.drop a) = (⟨0, [], 0, 0⟩, err) ∧ err ≠ 0 ∧ (toks s).1 = [] ∧ (toks s).2.2 = a ∧ Near (toks s).2.1 err)) := by
  rcases h with ⟨h1, h2⟩ | ⟨h1, h2, h3⟩
  · obtain ⟨k1, k2⟩ := skip_blanks s _ e rfl
    rw [ha] at k1 k2
    rw [k1] at h1
    constructor
    · intro hl
      rw [scanAt_end s a (by omega)] at h1
      rw [← h1]
      unfold also
      simp
    · intro hl
      cases hs : step (s.drop a) with
      | blank => have := step_blank hs; rw [k2] at this; cases this
      | tok kd n k =>
        obtain ⟨f1, f2, f3⟩ := first_tok hs
        have hk := step_len hs
        rw [List.length_drop] at hk
        have hlen : ((s.drop a).take k).length = k := by rw [List.length_take, List.length_drop]; omega
        right; left
        refine ⟨_, f1, ?_, ?_, by show 0 < ((s.drop a).take k).length; omega, by show a + ((s.drop a).take k).length ≤ s.length; omega⟩
        · rintro ⟨rfl, hc⟩
          obtain ⟨c1, c2⟩ := (clings_iff _ _).1 hc
          have := h2 c1
          rw [f2 c2] at this
          cases this
        · show Inv s (done ++ [⟨kd, (s.drop a).take k, a, n⟩]) (a + ((s.drop a).take k).length)
          rw [hlen]
          left
          constructor
          · rw [← h1, scanAt_tok hl hs, also_also]
          · rintro ⟨t, ht, hk2⟩
            rw [List.getLast?_append] at ht
            simp at ht
            subst ht
            have := f3 hk2
            rwa [List.drop_drop] at this
      | bad er o =>
        have hb := scanAt_bad hl hs
        rw [hb] at h1
        have her := step_err hs
        have ht : toks s = ([], er, a + o) := by
          rw [← h1]
          unfold also
          rw [if_neg (by show er ≠ 0; omega)]
        rcases first_bad hs with ⟨f1, rfl⟩ | ⟨n, f1, f2, f3, rfl, f5⟩
        · right; right
          exact ⟨er, f1, by omega, by rw [ht], by rw [ht]; rfl, by rw [ht]; exact .inl rfl⟩
        · right; left
          rw [List.length_drop] at f3
          have hlen : ((s.drop a).take o).length = o := by rw [List.length_take, List.length_drop]; omega
          refine ⟨_, f1, ?_, ?_, by show 0 < ((s.drop a).take o).length; omega, by show a + ((s.drop a).take o).length ≤ s.length; omega⟩
          · rintro ⟨_, hc⟩
            obtain ⟨_, c2⟩ := (clings_iff _ _).1 hc
            simp at c2
          · show Inv s (done ++ [⟨2, (s.drop a).take o, a, n⟩]) (a + ((s.drop a).take o).length)
            rw [hlen]
            right
            refine ⟨⟨_, by rw [List.getLast?_append]; simp; rfl, rfl⟩, ?_, ht⟩
            rwa [List.drop_drop] at f5
  · have h0 := takeWhile_none (letter_blank h2)
    rw [h0, Nat.add_zero] at ha
    subst ha
    have hl : e < s.length := by
      rcases Nat.lt_or_ge e s.length with h | h
      · exact h
      · rw [List.drop_of_length_le h] at h2; cases h2
    refine ⟨fun h => by omega, fun _ => ?_⟩
    rcases first_letter h2 with ⟨t, f1, f2⟩ | f1
    · exact .inl ⟨t, f1, rfl, (clings_iff _ _).2 ⟨h1, f2⟩, h3⟩
    · exact .inr (.inr ⟨4, f1, by decide, by rw [h3], by rw [h3], by rw [h3]; exact .inr ⟨rfl, rfl⟩⟩)
end Go.Proofs.YtepnafnljfjeoaaGreatDoor.Words

namespace Go.Proofs.YtepnafnljfjeoaaGreatDoor.Ex
set_option linter.unusedVariables false
open Words (T)

inductive E
  | mk (kind : Int) (n : Int) (name : List UInt8) (a : List E)
def E.kind : E → Int | .mk k _ _ _ => k
def E.n : E → Int | .mk _ n _ _ => n
def E.name : E → List UInt8 | .mk _ _ s _ => s
def E.a : E → List E | .mk _ _ _ a => a
theorem E.eta (x : E) : E.mk x.kind x.n x.name x.a = x := by cases x; rfl
def E.none : E := .mk 0 0 [] []

theorem E.ind (P : E → Prop) (h : ∀ x : E, (∀ y ∈ x.a, P y) → P x) : ∀ x, P x := by
  have key : ∀ n, ∀ x : E, sizeOf x ≤ n → P x := by
    intro n
    induction n with
    | zero => intro x hx; cases x; simp at hx
    | succ n ih =>
      intro x hx
      refine h x (fun y hy => ih y ?_)
      cases x with
      | mk k m s a =>
        have h1 := List.sizeOf_lt_of_mem (show y ∈ a from hy)
        simp at hx
        omega
  exact fun x => key _ x (Nat.le_refl _)
/-- a tree that has few parts everywhere -/
inductive Sm : E → Prop
  | mk (x : E) (h : x.a.length ≤ 1000) (hs : ∀ y ∈ x.a, Sm y) : Sm x
theorem Sm.len {x : E} (h : Sm x) : x.a.length ≤ 1000 := by cases h; assumption
theorem Sm.part {x : E} (h : Sm x) : ∀ y ∈ x.a, Sm y := by cases h; assumption
/-- where a reading is; what is wrong (0: nothing), at which word -/
structure St where
  pos : Nat
  err : Nat
  bad : Nat
deriving DecidableEq
def St.fail (s : St) (k e : Nat) : St := if s.err = 0 then ⟨s.pos, e, k⟩ else s
def St.next (s : St) : St := ⟨s.pos + 1, s.err, s.bad⟩
/-- is that sign next? -/
def isSign (l : List T) (s : St) (c : List UInt8) : Bool := decide (s.err = 0) && (match l[s.pos]? with | some t => decide (t.kind = 3) && decide (t.text = c) | none => false)

mutual
def pExpr (l : List T) : Nat → Nat → St → Option (E × St)
  | 0, _, _ => none
  | f + 1, d, s => match pTerm l f d s with
    | some (e, s1) => pSums l f d e s1
    | none => none
def pSums (l : List T) : Nat → Nat → E → St → Option (E × St)
  | 0, _, _, _ => none
  | f + 1, d, e, s =>
    if isSign l s [43] then (match pTerm l f d s.next with
      | some (x, s1) => pSums l f d (.mk 5 0 [] [e, x]) s1
      | none => none)
    else if isSign l s [45] then (match pTerm l f d s.next with
      | some (x, s1) => pSums l f d (.mk 6 0 [] [e, x]) s1
      | none => none)
    else some (e, s)
def pTerm (l : List T) : Nat → Nat → St → Option (E × St)
  | 0, _, _ => none
  | f + 1, d, s => match pFactor l f d s with
    | some (e, s1) => pProds l f d e s1
    | none => none
def pProds (l : List T) : Nat → Nat → E → St → Option (E × St)
  | 0, _, _, _ => none
  | f + 1, d, e, s =>
    if isSign l s [42] then (match pFactor l f d s.next with
      | some (x, s1) => pProds l f d (.mk 7 0 [] [e, x]) s1
      | none => none)
    else if isSign l s [47] then (match pFactor l f d s.next with
      | some (x, s1) => pProds l f d (.mk 8 0 [] [e, x]) s1
      | none => none)
    else some (e, s)
def pFactor (l : List T) : Nat → Nat → St → Option (E × St)
  | 0, _, _ => none
  | f + 1, d, s =>
    if s.err ≠ 0 then some (E.none, s)
    else match l[s.pos]? with
    | none => some (E.none, s.fail s.pos 2)
    | some t =>
      if t.kind = 2 then some (.mk 1 t.n [] [], s.next)
      else if t.kind = 1 then
        (if isSign l s.next [40] then (match pSubs l f d s.next.next with
          | some (xs, s1) => some (.mk 3 0 t.text xs, s1)
          | none => none)
        else some (.mk 2 0 t.text [], s.next))
      else if isSign l s [45] || isSign l s [40] then
        (if 20 ≤ d then some (E.none, s.fail s.pos 4)
        else if isSign l s [45] then (match pFactor l f (d + 1) s.next with
          | some (x, s1) => some (.mk 4 0 [] [x], s1)
          | none => none)
        else (match pExpr l f (d + 1) s.next with
          | some (x, s1) => some (x, if isSign l s1 [41] then s1.next else s1.fail s1.pos 2)
          | none => none))
      else some (E.none, s.fail s.pos 2)
def pSubs (l : List T) : Nat → Nat → St → Option (List E × St)
  | 0, _, _ => none
  | f + 1, d, s => match pExpr l f d s with
    | some (x, s1) => pMore l f d [x] s1
    | none => none
def pMore (l : List T) : Nat → Nat → List E → St → Option (List E × St)
  | 0, _, _, _ => none
  | f + 1, d, xs, s =>
    if isSign l s [44] then
      (if 4 ≤ xs.length then some (xs, s.fail s.pos 4)
      else (match pExpr l f d s.next with
        | some (x, s1) => pMore l f d (xs ++ [x]) s1
        | none => none))
    else some (xs, if isSign l s [41] then s.next else s.fail s.pos 2)
end

def Mono (l : List T) (f : Nat) : Prop :=
  (∀ d s r, pExpr l f d s = some r → pExpr l (f + 1) d s = some r) ∧ (∀ d e s r, pSums l f d e s = some r → pSums l (f + 1) d e s = some r) ∧
  (∀ d s r, pTerm l f d s = some r → pTerm l (f + 1) d s = some r) ∧ (∀ d e s r, pProds l f d e s = some r → pProds l (f + 1) d e s = some r) ∧
  (∀ d s r, pFactor l f d s = some r → pFactor l (f + 1) d s = some r) ∧ (∀ d s r, pSubs l f d s = some r → pSubs l (f + 1) d s = some r) ∧
  (∀ d xs s r, pMore l f d xs s = some r → pMore l (f + 1) d xs s = some r)
theorem mono (l : List T) : ∀ f, Mono l f := by
  intro f
  induction f with
  | zero => exact ⟨fun _ _ _ h => by simp [pExpr] at h, fun _ _ _ _ h => by simp [pSums] at h, fun _ _ _ h => by simp [pTerm] at h, fun _ _ _ _ h => by simp [pProds] at h, fun _ _ _ h => by simp [pFactor] at h, fun _ _ _ h => by simp [pSubs] at h, fun _ _ _ _ h => by simp [pMore] at h⟩
  | succ f ih =>
    obtain ⟨iE, iS, iT, iP, iF, iU, iM⟩ := ih
    refine ⟨?_, ?_, ?_, ?_, ?_, ?_, ?_⟩
    · intro d s r h
      rw [pExpr] at h ⊢
      cases h1 : pTerm l f d s with
      | none => rw [h1] at h; cases h
      | some x => rw [h1] at h; rw [iT _ _ _ h1]; exact iS _ _ _ _ h
    · intro d e s r h
      rw [pSums] at h ⊢
      split
      · rename_i c
        rw [if_pos c] at h
        cases h1 : pTerm l f d s.next with
        | none => rw [h1] at h; cases h
        | some x => rw [h1] at h; rw [iT _ _ _ h1]; exact iS _ _ _ _ h
      · rename_i c
        rw [if_neg c] at h
        split
        · rename_i c2
          rw [if_pos c2] at h
          cases h1 : pTerm l f d s.next with
          | none => rw [h1] at h; cases h
          | some x => rw [h1] at h; rw [iT _ _ _ h1]; exact iS _ _ _ _ h
        · rename_i c2
          rw [if_neg c2] at h
          exact h
    · intro d s r h
      rw [pTerm] at h ⊢
      cases h1 : pFactor l f d s with
      | none => rw [h1] at h; cases h
      | some x => rw [h1] at h; rw [iF _ _ _ h1]; exact iP _ _ _ _ h
    · intro d e s r h
      rw [pProds] at h ⊢
      split
      · rename_i c
        rw [if_pos c] at h
        cases h1 : pFactor l f d s.next with
        | none => rw [h1] at h; cases h
        | some x => rw [h1] at h; rw [iF _ _ _ h1]; exact iP _ _ _ _ h
      · rename_i c
        rw [if_neg c] at h
        split
        · rename_i c2
          rw [if_pos c2] at h
          cases h1 : pFactor l f d s.next with
          | none => rw [h1] at h; cases h
          | some x => rw [h1] at h; rw [iF _ _ _ h1]; exact iP _ _ _ _ h
        · rename_i c2
          rw [if_neg c2] at h
          exact h
    · intro d s r h
      rw [pFactor] at h ⊢
      by_cases c0 : s.err ≠ 0
      · rw [if_pos c0] at h ⊢; exact h
      · rw [if_neg c0] at h ⊢
        cases ht : l[s.pos]? with
        | none => rw [ht] at h; exact h
        | some t =>
          rw [ht] at h
          simp only at h ⊢
          by_cases c1 : t.kind = 2
          · rw [if_pos c1] at h ⊢; exact h
          · rw [if_neg c1] at h ⊢
            by_cases c2 : t.kind = 1
            · rw [if_pos c2] at h ⊢
              by_cases c3 : isSign l s.next [40] = true
              · rw [if_pos c3] at h ⊢
                cases h1 : pSubs l f d s.next.next with
                | none => rw [h1] at h; cases h
                | some x => rw [h1] at h; rw [iU _ _ _ h1]; exact h
              · rw [if_neg c3] at h ⊢; exact h
            · rw [if_neg c2] at h ⊢
              by_cases c3 : (isSign l s [45] || isSign l s [40]) = true
              · rw [if_pos c3] at h ⊢
                by_cases c4 : 20 ≤ d
                · rw [if_pos c4] at h ⊢; exact h
                · rw [if_neg c4] at h ⊢
                  by_cases c5 : isSign l s [45] = true
                  · rw [if_pos c5] at h ⊢
                    cases h1 : pFactor l f (d + 1) s.next with
                    | none => rw [h1] at h; cases h
                    | some x => rw [h1] at h; rw [iF _ _ _ h1]; exact h
                  · rw [if_neg c5] at h ⊢
                    cases h1 : pExpr l f (d + 1) s.next with
                    | none => rw [h1] at h; cases h
                    | some x => rw [h1] at h; rw [iE _ _ _ h1]; exact h
              · rw [if_neg c3] at h ⊢; exact h
    · intro d s r h
      rw [pSubs] at h ⊢
      cases h1 : pExpr l f d s with
      | none => rw [h1] at h; cases h
      | some x => rw [h1] at h; rw [iE _ _ _ h1]; exact iM _ _ _ _ h
    · intro d xs s r h
      rw [pMore] at h ⊢
      by_cases c : isSign l s [44] = true
      · rw [if_pos c] at h ⊢
        by_cases c4 : 4 ≤ xs.length
        · rw [if_pos c4] at h ⊢; exact h
        · rw [if_neg c4] at h ⊢
          cases h1 : pExpr l f d s.next with
          | none => rw [h1] at h; cases h
          | some x => rw [h1] at h; rw [iE _ _ _ h1]; exact iM _ _ _ _ h
      · rw [if_neg c] at h ⊢; exact h

/-! ### a reading, with rounds enough -/
def RExpr (l : List T) (d : Nat) (s : St) (r : E × St) : Prop := ∃ f, pExpr l f d s = some r
def RSums (l : List T) (d : Nat) (e : E) (s : St) (r : E × St) : Prop := ∃ f, pSums l f d e s = some r
def RTerm (l : List T) (d : Nat) (s : St) (r : E × St) : Prop := ∃ f, pTerm l f d s = some r
def RProds (l : List T) (d : Nat) (e : E) (s : St) (r : E × St) : Prop := ∃ f, pProds l f d e s = some r
def RFactor (l : List T) (d : Nat) (s : St) (r : E × St) : Prop := ∃ f, pFactor l f d s = some r
def RSubs (l : List T) (d : Nat) (s : St) (r : List E × St) : Prop := ∃ f, pSubs l f d s = some r
def RMore (l : List T) (d : Nat) (xs : List E) (s : St) (r : List E × St) : Prop := ∃ f, pMore l f d xs s = some r
theorem up {l : List T} {α : Type} (p : Nat → Option α) (hp : ∀ f r, p f = some r → p (f + 1) = some r) {f g : Nat} {r : α} (h : p f = some r) (hg : f ≤ g) : p g = some r := by
  induction g with
  | zero => obtain rfl : f = 0 := by omega
            exact h
  | succ g ih =>
    by_cases e : f = g + 1
    · subst e; exact h
    · exact hp _ _ (ih (by omega))
theorem upE {l : List T} {d : Nat} {s : St} {r : E × St} {f g : Nat} (h : pExpr l f d s = some r) (hg : f ≤ g) : pExpr l g d s = some r := up (l := l) (fun f => pExpr l f d s) (fun f r => (mono l f).1 d s r) h hg
theorem upS {l : List T} {d : Nat} {e : E} {s : St} {r : E × St} {f g : Nat} (h : pSums l f d e s = some r) (hg : f ≤ g) : pSums l g d e s = some r := up (l := l) (fun f => pSums l f d e s) (fun f r => (mono l f).2.1 d e s r) h hg
theorem upT {l : List T} {d : Nat} {s : St} {r : E × St} {f g : Nat} (h : pTerm l f d s = some r) (hg : f ≤ g) : pTerm l g d s = some r := up (l := l) (fun f => pTerm l f d s) (fun f r => (mono l f).2.2.1 d s r) h hg
theorem upP {l : List T} {d : Nat} {e : E} {s : St} {r : E × St} {f g : Nat} (h : pProds l f d e s = some r) (hg : f ≤ g) : pProds l g d e s = some r := up (l := l) (fun f => pProds l f d e s) (fun f r => (mono l f).2.2.2.1 d e s r) h hg
theorem upF {l : List T} {d : Nat} {s : St} {r : E × St} {f g : Nat} (h : pFactor l f d s = some r) (hg : f ≤ g) : pFactor l g d s = some r := up (l := l) (fun f => pFactor l f d s) (fun f r => (mono l f).2.2.2.2.1 d s r) h hg
theorem upU {l : List T} {d : Nat} {s : St} {r : List E × St} {f g : Nat} (h : pSubs l f d s = some r) (hg : f ≤ g) : pSubs l g d s = some r := up (l := l) (fun f => pSubs l f d s) (fun f r => (mono l f).2.2.2.2.2.1 d s r) h hg
theorem upM {l : List T} {d : Nat} {xs : List E} {s : St} {r : List E × St} {f g : Nat} (h : pMore l f d xs s = some r) (hg : f ≤ g) : pMore l g d xs s = some r := up (l := l) (fun f => pMore l f d xs s) (fun f r => (mono l f).2.2.2.2.2.2 d xs s r) h hg
theorem RExpr.det {l : List T} {d : Nat} {s : St} {r r' : E × St} (h : RExpr l d s r) (h' : RExpr l d s r') : r = r' := by
  obtain ⟨f, h⟩ := h
  obtain ⟨g, h'⟩ := h'
  have h1 := upE h (Nat.le_max_left f g)
  have h2 := upE h' (Nat.le_max_right f g)
  rw [h1] at h2
  exact Option.some.inj h2
theorem rExpr {l : List T} {d : Nat} {s s1 : St} {e : E} {r : E × St} (h1 : RTerm l d s (e, s1)) (h2 : RSums l d e s1 r) : RExpr l d s r := by
  obtain ⟨f, h1⟩ := h1
  obtain ⟨g, h2⟩ := h2
  refine ⟨max f g + 1, ?_⟩
  rw [pExpr, upT h1 (Nat.le_max_left f g)]
  exact upS h2 (Nat.le_max_right f g)
theorem rSums_add {l : List T} {d : Nat} {e x : E} {s s1 : St} {r : E × St} (c : isSign l s [43] = true) (h1 : RTerm l d s.next (x, s1)) (h2 : RSums l d (.mk 5 0 [] [e, x]) s1 r) : RSums l d e s r := by
  obtain ⟨f, h1⟩ := h1
  obtain ⟨g, h2⟩ := h2
  refine ⟨max f g + 1, ?_⟩
  rw [pSums, if_pos c, upT h1 (Nat.le_max_left f g)]
  exact upS h2 (Nat.le_max_right f g)
theorem rSums_sub {l : List T} {d : Nat} {e x : E} {s s1 : St} {r : E × St} (c : isSign l s [43] = false) (c2 : isSign l s [45] = true) (h1 : RTerm l d s.next (x, s1)) (h2 : RSums l d (.mk 6 0 [] [e, x]) s1 r) : RSums l d e s r := by
  obtain ⟨f, h1⟩ := h1
  obtain ⟨g, h2⟩ := h2
  refine ⟨max f g + 1, ?_⟩
  rw [pSums, if_neg (by rw [c]; decide), if_pos c2, upT h1 (Nat.le_max_left f g)]
  exact upS h2 (Nat.le_max_right f g)
theorem rSums_end {l : List T} {d : Nat} {e : E} {s : St} (c : isSign l s [43] = false) (c2 : isSign l s [45] = false) : RSums l d e s (e, s) := by
  refine ⟨1, ?_⟩
  rw [pSums, if_neg (by rw [c]; decide), if_neg (by rw [c2]; decide)]
theorem rTerm {l : List T} {d : Nat} {s s1 : St} {e : E} {r : E × St} (h1 : RFactor l d s (e, s1)) (h2 : RProds l d e s1 r) : RTerm l d s r := by
  obtain ⟨f, h1⟩ := h1
  obtain ⟨g, h2⟩ := h2
  refine ⟨max f g + 1, ?_⟩
  rw [pTerm, upF h1 (Nat.le_max_left f g)]
  exact upP h2 (Nat.le_max_right f g)
theorem rProds_mul {l : List T} {d : Nat} {e x : E} {s s1 : St} {r : E × St} (c : isSign l s [42] = true) (h1 : RFactor l d s.next (x, s1)) (h2 : RProds l d (.mk 7 0 [] [e, x]) s1 r) : RProds l d e s r := by
  obtain ⟨f, h1⟩ := h1
  obtain ⟨g, h2⟩ := h2
  refine ⟨max f g + 1, ?_⟩
  rw [pProds, if_pos c, upF h1 (Nat.le_max_left f g)]
  exact upP h2 (Nat.le_max_right f g)
theorem rProds_div {l : List T} {d : Nat} {e x : E} {s s1 : St} {r : E × St} (c : isSign l s [42] = false) (c2 : isSign l s [47] = true) (h1 : RFactor l d s.next (x, s1)) (h2 : RProds l d (.mk 8 0 [] [e, x]) s1 r) : RProds l d e s r := by
  obtain ⟨f, h1⟩ := h1
  obtain ⟨g, h2⟩ := h2
  refine ⟨max f g + 1, ?_⟩
  rw [pProds, if_neg (by rw [c]; decide), if_pos c2, upF h1 (Nat.le_max_left f g)]
  exact upP h2 (Nat.le_max_right f g)
theorem rProds_end {l : List T} {d : Nat} {e : E} {s : St} (c : isSign l s [42] = false) (c2 : isSign l s [47] = false) : RProds l d e s (e, s) := by
  refine ⟨1, ?_⟩
  rw [pProds, if_neg (by rw [c]; decide), if_neg (by rw [c2]; decide)]
theorem rFactor_bad {l : List T} {d : Nat} {s : St} (c : s.err ≠ 0) : RFactor l d s (E.none, s) := ⟨1, by rw [pFactor, if_pos c]⟩
theorem rFactor_out {l : List T} {d : Nat} {s : St} (c : s.err = 0) (h : l.length ≤ s.pos) : RFactor l d s (E.none, s.fail s.pos 2) := ⟨1, by rw [pFactor, if_neg (by simp [c]), List.getElem?_eq_none h]⟩
theorem rFactor_num {l : List T} {d : Nat} {s : St} (c : s.err = 0) (h : s.pos < l.length) (k : l[s.pos].kind = 2) : RFactor l d s (.mk 1 l[s.pos].n [] [], s.next) := ⟨1, by rw [pFactor, if_neg (by simp [c]), List.getElem?_eq_getElem h]; simp only; rw [if_pos k]⟩
theorem rFactor_var {l : List T} {d : Nat} {s : St} (c : s.err = 0) (h : s.pos < l.length) (k : l[s.pos].kind = 1) (c2 : isSign l s.next [40] = false) : RFactor l d s (.mk 2 0 l[s.pos].text [], s.next) := ⟨1, by rw [pFactor, if_neg (by simp [c]), List.getElem?_eq_getElem h]; simp only; rw [if_neg (by omega), if_pos k, if_neg (by rw [c2]; decide)]⟩
theorem rFactor_elem {l : List T} {d : Nat} {s s1 : St} {xs : List E} (c : s.err = 0) (h : s.pos < l.length) (k : l[s.pos].kind = 1) (c2 : isSign l s.next [40] = true) (h1 : RSubs l d s.next.next (xs, s1)) : RFactor l d s (.mk 3 0 l[s.pos].text xs, s1) := by
  obtain ⟨f, h1⟩ := h1
  refine ⟨f + 1, ?_⟩
  rw [pFactor, if_neg (by simp [c]), List.getElem?_eq_getElem h]
  simp only
  rw [if_neg (by omega), if_pos k, if_pos c2, h1]
theorem rFactor_long {l : List T} {d : Nat} {s : St} (c : s.err = 0) (h : s.pos < l.length) (k1 : l[s.pos].kind ≠ 1) (k2 : l[s.pos].kind ≠ 2) (c2 : isSign l s [45] = true ∨ isSign l s [40] = true) (hd : 20 ≤ d) : RFactor l d s (E.none, s.fail s.pos 4) := by
  refine ⟨1, ?_⟩
  rw [pFactor, if_neg (by simp [c]), List.getElem?_eq_getElem h]
  simp only
  rw [if_neg k2, if_neg k1, if_pos (by rcases c2 with c2 | c2 <;> simp [c2]), if_pos hd]
theorem rFactor_neg {l : List T} {d : Nat} {s s1 : St} {x : E} (c : s.err = 0) (h : s.pos < l.length) (k1 : l[s.pos].kind ≠ 1) (k2 : l[s.pos].kind ≠ 2) (c2 : isSign l s [45] = true) (hd : ¬ 20 ≤ d) (h1 : RFactor l (d + 1) s.next (x, s1)) : RFactor l d s (.mk 4 0 [] [x], s1) := by
  obtain ⟨f, h1⟩ := h1
  refine ⟨f + 1, ?_⟩
  rw [pFactor, if_neg (by simp [c]), List.getElem?_eq_getElem h]
  simp only
  rw [if_neg k2, if_neg k1, if_pos (by simp [c2]), if_neg hd, if_pos c2, h1]
theorem rFactor_round {l : List T} {d : Nat} {s s1 : St} {x : E} (c : s.err = 0) (h : s.pos < l.length) (k1 : l[s.pos].kind ≠ 1) (k2 : l[s.pos].kind ≠ 2) (c2 : isSign l s [45] = false) (c3 : isSign l s [40] = true) (hd : ¬ 20 ≤ d) (h1 : RExpr l (d + 1) s.next (x, s1)) : RFactor l d s (x, if isSign l s1 [41] then s1.next else s1.fail s1.pos 2) := by
  obtain ⟨f, h1⟩ := h1
  refine ⟨f + 1, ?_⟩
  rw [pFactor, if_neg (by simp [c]), List.getElem?_eq_getElem h]
  simp only
  rw [if_neg k2, if_neg k1, if_pos (by simp [c3]), if_neg hd, if_neg (by rw [c2]; decide), h1]
theorem rFactor_none {l : List T} {d : Nat} {s : St} (c : s.err = 0) (h : s.pos < l.length) (k1 : l[s.pos].kind ≠ 1) (k2 : l[s.pos].kind ≠ 2) (c2 : isSign l s [45] = false) (c3 : isSign l s [40] = false) : RFactor l d s (E.none, s.fail s.pos 2) := by
  refine ⟨1, ?_⟩
  rw [pFactor, if_neg (by simp [c]), List.getElem?_eq_getElem h]
  simp only
  rw [if_neg k2, if_neg k1, if_neg (by simp [c2, c3])]
theorem rSubs {l : List T} {d : Nat} {s s1 : St} {e : E} {r : List E × St} (h1 : RExpr l d s (e, s1)) (h2 : RMore l d [e] s1 r) : RSubs l d s r := by
  obtain ⟨f, h1⟩ := h1
  obtain ⟨g, h2⟩ := h2
  refine ⟨max f g + 1, ?_⟩
  rw [pSubs, upE h1 (Nat.le_max_left f g)]
  exact upM h2 (Nat.le_max_right f g)
theorem rMore_more {l : List T} {d : Nat} {xs : List E} {x : E} {s s1 : St} {r : List E × St} (c : isSign l s [44] = true) (h4 : ¬ 4 ≤ xs.length) (h1 : RExpr l d s.next (x, s1)) (h2 : RMore l d (xs ++ [x]) s1 r) : RMore l d xs s r := by
  obtain ⟨f, h1⟩ := h1
  obtain ⟨g, h2⟩ := h2
  refine ⟨max f g + 1, ?_⟩
  rw [pMore, if_pos c, if_neg h4, upE h1 (Nat.le_max_left f g)]
  exact upM h2 (Nat.le_max_right f g)
theorem rMore_long {l : List T} {d : Nat} {xs : List E} {s : St} (c : isSign l s [44] = true) (h4 : 4 ≤ xs.length) : RMore l d xs s (xs, s.fail s.pos 4) := ⟨1, by rw [pMore, if_pos c, if_pos h4]⟩
theorem rMore_end {l : List T} {d : Nat} {xs : List E} {s : St} (c : isSign l s [44] = false) : RMore l d xs s (xs, if isSign l s [41] then s.next else s.fail s.pos 2) := ⟨1, by rw [pMore, if_neg (by rw [c]; decide)]⟩
end Go.Proofs.YtepnafnljfjeoaaGreatDoor.Ex

namespace Go.Proofs.YtepnafnljfjeoaaGreatDoor.Ex
set_option linter.unusedVariables false
open Words (T)

/-- the sign at a place; empty: none stands there -/
def sg (l : List T) (p : Nat) : List UInt8 := match l[p]? with
  | some t => if t.kind = 3 then t.text else []
  | none => []
def opOf (c : List UInt8) : Int := if c = [43] then 5 else if c = [45] then 6 else if c = [42] then 7 else if c = [47] then 8 else 0
def bindOf (k : Int) : Nat := if k = 4 then 3 else if k = 7 ∨ k = 8 then 2 else if k = 5 ∨ k = 6 then 1 else 0
inductive Cfg
  | B (pos : Nat) (K : List E) (d : Nat)
  | F (pos : Nat) (K : List E) (d : Nat) (e : E)
inductive Res
  | ok (e : E) (pos : Nat)
  | bad (err pos : Nat)
def E.plus (k x : E) : E := .mk k.kind k.n k.name (k.a ++ [x])
def whole (k e : E) : E := if k.kind = 0 then e else k.plus e
def deepOf (k : E) (d : Nat) : Nat := if k.kind = 0 ∨ k.kind = 4 then d - 1 else d
def step (l : List T) : Cfg → Cfg ⊕ Res
  | .B p K d => match l[p]? with
    | none => .inr (.bad 2 p)
    | some t =>
      if t.kind = 2 then .inl (.F (p + 1) K d (.mk 1 t.n [] []))
      else if t.kind = 1 then (if sg l (p + 1) = [40] then .inl (.B (p + 2) (.mk 3 0 t.text [] :: K) d) else .inl (.F (p + 1) K d (.mk 2 0 t.text [])))
      else if sg l p = [45] then (if d = 20 then .inr (.bad 4 p) else .inl (.B (p + 1) (.mk 4 0 [] [] :: K) (d + 1)))
      else if sg l p = [40] then (if d = 20 then .inr (.bad 4 p) else .inl (.B (p + 1) (.mk 0 0 [] [] :: K) (d + 1)))
      else .inr (.bad 2 p)
  | .F p [] d e => if opOf (sg l p) ≠ 0 then .inl (.B (p + 1) [.mk (opOf (sg l p)) 0 [] [e]] d) else .inr (.ok e p)
  | .F p (k :: K) d e =>
    if 0 < bindOf k.kind ∧ bindOf (opOf (sg l p)) ≤ bindOf k.kind then .inl (.F p K (deepOf k d) (whole k e))
    else if opOf (sg l p) ≠ 0 then .inl (.B (p + 1) (.mk (opOf (sg l p)) 0 [] [e] :: k :: K) d)
    else if sg l p = [41] then .inl (.F (p + 1) K (deepOf k d) (whole k e))
    else if sg l p = [44] then (if k.kind ≠ 3 then .inr (.bad 2 p) else if k.a.length + 1 = 4 then .inr (.bad 4 p) else .inl (.B (p + 1) (k.plus e :: K) d))
    else .inr (.bad 2 p)
def runM (l : List T) : Nat → Cfg → Option Res
  | 0, _ => none
  | n + 1, c => match step l c with
    | .inl c' => runM l n c'
    | .inr r => some r
def M (l : List T) (c : Cfg) (r : Res) : Prop := ∃ n, runM l n c = some r
theorem m_step {l : List T} {c c' : Cfg} {r : Res} (h : step l c = .inl c') (k : M l c' r) : M l c r := by
  obtain ⟨n, k⟩ := k
  exact ⟨n + 1, by rw [runM, h]; exact k⟩
theorem m_stop {l : List T} {c : Cfg} {r : Res} (h : step l c = .inr r) : M l c r := ⟨1, by rw [runM, h]⟩
theorem runM_det {l : List T} : ∀ (n m : Nat) (c : Cfg) (r r' : Res), runM l n c = some r → runM l m c = some r' → r = r' := by
  intro n
  induction n with
  | zero => intro m c r r' h; simp [runM] at h
  | succ n ih =>
    intro m c r r' h k
    cases m with
    | zero => simp [runM] at k
    | succ m =>
      rw [runM] at h k
      cases hs : step l c with
      | inl c' => rw [hs] at h k; exact ih m c' r r' h k
      | inr q => rw [hs] at h k; exact (Option.some.inj h).symm.trans (Option.some.inj k)
theorem M.det {l : List T} {c : Cfg} {r r' : Res} (h : M l c r) (k : M l c r') : r = r' := by
  obtain ⟨n, h⟩ := h
  obtain ⟨m, k⟩ := k
  exact runM_det n m c r r' h k
theorem isSign_sg {l : List T} {s : St} {c : List UInt8} (h0 : s.err = 0) (hc : c ≠ []) : isSign l s c = decide (sg l s.pos = c) := by
  unfold isSign sg
  rw [decide_eq_true h0]
  cases h : l[s.pos]? with
  | none => simp [Ne.symm hc]
  | some t =>
    by_cases k : t.kind = 3
    · simp [k]
    · simp [k, Ne.symm hc]
theorem isSign_bad {l : List T} {s : St} {c : List UInt8} (h : s.err ≠ 0) : isSign l s c = false := by unfold isSign; rw [decide_eq_false h]; rfl
theorem isSign_lt {l : List T} {s : St} {c : List UInt8} (h : isSign l s c = true) : s.err = 0 ∧ s.pos < l.length := by
  unfold isSign at h
  constructor
  · by_cases h0 : s.err = 0
    · exact h0
    · rw [decide_eq_false h0] at h; simp at h
  · rcases Nat.lt_or_ge s.pos l.length with h1 | h1
    · exact h1
    · rw [List.getElem?_eq_none h1] at h; simp at h
/-- how a reading goes on in the list -/
def Then (l : List T) (K : List E) (d : Nat) (x : E) (s : St) (r : Res) : Prop := (s.err = 0 → M l (.F s.pos K d x) r) ∧ (s.err ≠ 0 → r = .bad s.err s.bad)
def Low2 (K : List E) : Prop := ∀ k K', K = k :: K' → bindOf k.kind < 2
def Low1 (K : List E) : Prop := ∀ k K', K = k :: K' → bindOf k.kind = 0
theorem Low1.low2 {K : List E} (h : Low1 K) : Low2 K := fun k K' e => by rw [h k K' e]; decide
theorem opOf_bind (c : List UInt8) : bindOf (opOf c) ≤ 2 := by unfold opOf; split; · decide
                                                               split; · decide
                                                               split; · decide
                                                               split <;> decide
theorem f_push {l : List T} {p d : Nat} {K : List E} {e : E} {r : Res} {o : Int} (ho : opOf (sg l p) = o) (h0 : o ≠ 0) (hK : ∀ k K', K = k :: K' → ¬ (0 < bindOf k.kind ∧ bindOf o ≤ bindOf k.kind)) (h : M l (.B (p + 1) (.mk o 0 [] [e] :: K) d) r) : M l (.F p K d e) r := by
  subst ho
  cases K with
  | nil => exact m_step (by simp only [step]; rw [if_pos h0]) h
  | cons k K => exact m_step (by simp only [step]; rw [if_neg (hK k K rfl), if_pos h0]) h
theorem f_end {l : List T} {p d : Nat} {k : E} {K : List E} {e : E} {r : Res} (hk : 0 < bindOf k.kind) (hb : bindOf (opOf (sg l p)) ≤ bindOf k.kind) (h : M l (.F p K (deepOf k d) (whole k e)) r) : M l (.F p (k :: K) d e) r :=
  m_step (by simp only [step]; rw [if_pos ⟨hk, hb⟩]) h

structure Go (l : List T) (f : Nat) : Prop where
  fac : ∀ d s x s1, pFactor l f d s = some (x, s1) → s.err = 0 → d ≤ 20 → ∀ K r, Then l K d x s1 r → M l (.B s.pos K d) r
  prods : ∀ d e s x s1, pProds l f d e s = some (x, s1) → d ≤ 20 → ∀ K r, Low2 K → Then l K d x s1 r → Then l K d e s r
  prodsE : ∀ d e s x s1, pProds l f d e s = some (x, s1) → s1.err = 0 → sg l s1.pos ≠ [42] ∧ sg l s1.pos ≠ [47]
  term : ∀ d s x s1, pTerm l f d s = some (x, s1) → s.err = 0 → d ≤ 20 → ∀ K r, Low2 K → Then l K d x s1 r → M l (.B s.pos K d) r
  termE : ∀ d s x s1, pTerm l f d s = some (x, s1) → s1.err = 0 → sg l s1.pos ≠ [42] ∧ sg l s1.pos ≠ [47]
  sums : ∀ d e s x s1, pSums l f d e s = some (x, s1) → d ≤ 20 → (s.err = 0 → sg l s.pos ≠ [42] ∧ sg l s.pos ≠ [47]) → ∀ K r, Low1 K → Then l K d x s1 r → Then l K d e s r
  sumsE : ∀ d e s x s1, pSums l f d e s = some (x, s1) → (s.err = 0 → sg l s.pos ≠ [42] ∧ sg l s.pos ≠ [47]) → s1.err = 0 → opOf (sg l s1.pos) = 0
  exp : ∀ d s x s1, pExpr l f d s = some (x, s1) → s.err = 0 → d ≤ 20 → ∀ K r, Low1 K → Then l K d x s1 r → M l (.B s.pos K d) r
  expE : ∀ d s x s1, pExpr l f d s = some (x, s1) → s1.err = 0 → opOf (sg l s1.pos) = 0
  subs : ∀ d s xs s1, pSubs l f d s = some (xs, s1) → s.err = 0 → d ≤ 20 → ∀ K nm r, Then l K d (.mk 3 0 nm xs) s1 r → M l (.B s.pos (.mk 3 0 nm [] :: K) d) r
  more : ∀ d xs s ys s1, pMore l f d xs s = some (ys, s1) → d ≤ 20 → (s.err = 0 → opOf (sg l s.pos) = 0) → xs.length ≤ 4 → ∀ K nm i x r, xs = i ++ [x] → Then l K d (.mk 3 0 nm ys) s1 r → Then l (.mk 3 0 nm i :: K) d x s r

theorem low1_zero (k : E) (K : List E) (h : bindOf k.kind = 0) : Low1 (k :: K) := fun a b e => by injection e with e1 e2; rw [← e1]; exact h
theorem op_none {l : List T} {p : Nat} (h1 : sg l p ≠ [42] ∧ sg l p ≠ [47]) (h2 : sg l p ≠ [43]) (h3 : sg l p ≠ [45]) : opOf (sg l p) = 0 := by unfold opOf; rw [if_neg h2, if_neg h3, if_neg h1.1, if_neg h1.2]
theorem go_all (l : List T) : ∀ f, Go l f := by
  intro f
  induction f with
  | zero => refine ⟨?_, ?_, ?_, ?_, ?_, ?_, ?_, ?_, ?_, ?_, ?_⟩ <;> intros <;> rename_i h <;> simp_all [pFactor, pProds, pTerm, pSums, pExpr, pSubs, pMore]
  | succ f ih =>
    refine ⟨?_, ?_, ?_, ?_, ?_, ?_, ?_, ?_, ?_, ?_, ?_⟩
    · intro d s x s1 h h0 hd K r hT
      rw [pFactor, if_neg (by simp [h0])] at h
      cases ht : l[s.pos]? with
      | none =>
        rw [ht] at h
        obtain ⟨rfl, rfl⟩ := Prod.mk.inj (Option.some.inj h)
        have hr := hT.2 (by simp [St.fail, h0])
        rw [hr]
        exact m_stop (by simp [step, ht, St.fail, h0])
      | some t =>
        rw [ht] at h
        simp only at h
        by_cases c1 : t.kind = 2
        · rw [if_pos c1] at h
          obtain ⟨rfl, rfl⟩ := Prod.mk.inj (Option.some.inj h)
          exact m_step (by simp [step, ht, c1]; rfl) (hT.1 h0)
        · rw [if_neg c1] at h
          by_cases c2 : t.kind = 1
          · rw [if_pos c2] at h
            rw [isSign_sg (s := s.next) h0 (by decide)] at h
            by_cases c3 : sg l (s.pos + 1) = [40]
            · rw [show s.next.pos = s.pos + 1 from rfl, if_pos (by simp [c3])] at h
              cases h1 : pSubs l f d s.next.next with
              | none => rw [h1] at h; cases h
              | some q =>
                obtain ⟨xs, s2⟩ := q
                rw [h1] at h
                obtain ⟨rfl, rfl⟩ := Prod.mk.inj (Option.some.inj h)
                exact m_step (by simp [step, ht, c2, c3]; rfl) (ih.subs d s.next.next xs s2 h1 h0 hd K t.text r hT)
            · rw [show s.next.pos = s.pos + 1 from rfl, if_neg (by simp [c3])] at h
              obtain ⟨rfl, rfl⟩ := Prod.mk.inj (Option.some.inj h)
              exact m_step (by simp [step, ht, c2, c3]; rfl) (hT.1 h0)
          · rw [if_neg c2] at h
            rw [isSign_sg h0 (by decide), isSign_sg h0 (by decide)] at h
            by_cases c4 : sg l s.pos = [45]
            · rw [if_pos (by simp [c4])] at h
              by_cases c5 : 20 ≤ d
              · rw [if_pos c5] at h
                obtain ⟨rfl, rfl⟩ := Prod.mk.inj (Option.some.inj h)
                have hr := hT.2 (by simp [St.fail, h0])
                rw [hr]
                exact m_stop (by simp [step, ht, c1, c2, c4, show d = 20 by omega, St.fail, h0])
              · rw [if_neg c5, if_pos (by simp [c4])] at h
                cases h1 : pFactor l f (d + 1) s.next with
                | none => rw [h1] at h; cases h
                | some q =>
                  obtain ⟨x2, s2⟩ := q
                  rw [h1] at h
                  obtain ⟨rfl, rfl⟩ := Prod.mk.inj (Option.some.inj h)
                  refine m_step (c' := .B (s.pos + 1) (.mk 4 0 [] [] :: K) (d + 1)) (by simp [step, ht, c1, c2, c4, show ¬ d = 20 by omega]) (ih.fac (d + 1) s.next x2 s2 h1 h0 (by omega) _ r ⟨fun e => ?_, hT.2⟩)
                  refine f_end (by decide) (Nat.le_trans (opOf_bind _) (by decide)) ?_
                  have := hT.1 e
                  simpa [deepOf, whole, E.plus, E.kind, E.n, E.name, E.a] using this
            · by_cases c6 : sg l s.pos = [40]
              · rw [if_pos (by simp [c6])] at h
                by_cases c5 : 20 ≤ d
                · rw [if_pos c5] at h
                  obtain ⟨rfl, rfl⟩ := Prod.mk.inj (Option.some.inj h)
                  have hr := hT.2 (by simp [St.fail, h0])
                  rw [hr]
                  exact m_stop (by simp [step, ht, c1, c2, c6, show d = 20 by omega, St.fail, h0])
                · rw [if_neg c5, if_neg (by simp [c4])] at h
                  cases h1 : pExpr l f (d + 1) s.next with
                  | none => rw [h1] at h; cases h
                  | some q =>
                    obtain ⟨x2, s2⟩ := q
                    rw [h1] at h
                    obtain ⟨rfl, rfl⟩ := Prod.mk.inj (Option.some.inj h)
                    refine m_step (c' := .B (s.pos + 1) (.mk 0 0 [] [] :: K) (d + 1)) (by simp [step, ht, c1, c2, c6, show ¬ d = 20 by omega]) (ih.exp (d + 1) s.next x2 s2 h1 h0 (by omega) _ r (low1_zero _ _ rfl) ⟨fun e => ?_, fun e => ?_⟩)
                    · have ho := ih.expE _ _ _ _ h1 e
                      rw [isSign_sg e (by decide)] at hT
                      by_cases c7 : sg l s2.pos = [41]
                      · rw [if_pos (by simp [c7])] at hT
                        refine m_step (c' := .F (s2.pos + 1) K d x2) ?_ (hT.1 e)
                        simp only [step]
                        rw [if_neg (by simp [bindOf, E.kind]), if_neg (by simp [ho]), if_pos c7]
                        simp [deepOf, whole, E.kind]
                      · rw [if_neg (by simp [c7])] at hT
                        have hr := hT.2 (by simp [St.fail, e])
                        rw [hr]
                        refine m_stop ?_
                        simp only [step]
                        rw [if_neg (by simp [bindOf, E.kind]), if_neg (by simp [ho]), if_neg c7]
                        split
                        · simp [E.kind, St.fail, e]
                        · simp [St.fail, e]
                    · rw [isSign_bad e] at hT
                      have hf : s2.fail s2.pos 2 = s2 := by unfold St.fail; rw [if_neg e]
                      rw [if_neg (by decide), hf] at hT
                      exact hT.2 e
              · rw [if_neg (by simp [c4, c6])] at h
                obtain ⟨rfl, rfl⟩ := Prod.mk.inj (Option.some.inj h)
                have hr := hT.2 (by simp [St.fail, h0])
                rw [hr]
                exact m_stop (by simp [step, ht, c1, c2, c4, c6, St.fail, h0])
    · intro d e s x s1 h hd K r hK hT
      rw [pProds] at h
      by_cases h0 : s.err = 0
      · refine ⟨fun _ => ?_, fun k => absurd h0 k⟩
        rw [isSign_sg h0 (by decide), isSign_sg h0 (by decide)] at h
        by_cases c1 : sg l s.pos = [42]
        · rw [if_pos (by simp [c1])] at h
          cases h1 : pFactor l f d s.next with
          | none => rw [h1] at h; cases h
          | some q =>
            obtain ⟨y, s2⟩ := q
            rw [h1] at h
            have hP := ih.prods d _ s2 x s1 h hd K r hK hT
            refine f_push (o := 7) (by rw [c1]; rfl) (by decide) (fun k K' hk hc => by have := hK k K' hk; have e2 : bindOf 7 = 2 := rfl; omega) ?_
            refine ih.fac d s.next y s2 h1 h0 hd _ r ⟨fun e2 => ?_, hP.2⟩
            exact f_end (by simp [bindOf, E.kind]) (opOf_bind _) (by have := hP.1 e2; simpa [deepOf, whole, E.plus, E.kind, E.n, E.name, E.a] using this)
        · rw [if_neg (by simp [c1])] at h
          by_cases c2 : sg l s.pos = [47]
          · rw [if_pos (by simp [c2])] at h
            cases h1 : pFactor l f d s.next with
            | none => rw [h1] at h; cases h
            | some q =>
              obtain ⟨y, s2⟩ := q
              rw [h1] at h
              have hP := ih.prods d _ s2 x s1 h hd K r hK hT
              refine f_push (o := 8) (by rw [c2]; rfl) (by decide) (fun k K' hk hc => by have := hK k K' hk; have e2 : bindOf 8 = 2 := rfl; omega) ?_
              refine ih.fac d s.next y s2 h1 h0 hd _ r ⟨fun e2 => ?_, hP.2⟩
              exact f_end (by simp [bindOf, E.kind]) (opOf_bind _) (by have := hP.1 e2; simpa [deepOf, whole, E.plus, E.kind, E.n, E.name, E.a] using this)
          · rw [if_neg (by simp [c2])] at h
            obtain ⟨rfl, rfl⟩ := Prod.mk.inj (Option.some.inj h)
            exact hT.1 h0
      · rw [isSign_bad h0, isSign_bad h0] at h
        obtain ⟨rfl, rfl⟩ := Prod.mk.inj (Option.some.inj h)
        exact hT
    · intro d e s x s1 h h1
      rw [pProds] at h
      split at h
      · cases h2 : pFactor l f d s.next with
        | none => rw [h2] at h; cases h
        | some q => rw [h2] at h; exact ih.prodsE _ _ _ _ _ h h1
      · split at h
        · cases h2 : pFactor l f d s.next with
          | none => rw [h2] at h; cases h
          | some q => rw [h2] at h; exact ih.prodsE _ _ _ _ _ h h1
        · rename_i c1 c2
          obtain ⟨rfl, rfl⟩ := Prod.mk.inj (Option.some.inj h)
          rw [isSign_sg h1 (by decide)] at c1 c2
          exact ⟨by simpa using c1, by simpa using c2⟩
    · intro d s x s1 h h0 hd K r hK hT
      rw [pTerm] at h
      cases h2 : pFactor l f d s with
      | none => rw [h2] at h; cases h
      | some q =>
        obtain ⟨y, s2⟩ := q
        rw [h2] at h
        exact ih.fac d s y s2 h2 h0 hd K r (ih.prods d y s2 x s1 h hd K r hK hT)
    · intro d s x s1 h h1
      rw [pTerm] at h
      cases h2 : pFactor l f d s with
      | none => rw [h2] at h; cases h
      | some q => rw [h2] at h; exact ih.prodsE _ _ _ _ _ h h1
    · intro d e s x s1 h hd hn K r hK hT
      rw [pSums] at h
      by_cases h0 : s.err = 0
      · refine ⟨fun _ => ?_, fun k => absurd h0 k⟩
        rw [isSign_sg h0 (by decide), isSign_sg h0 (by decide)] at h
        by_cases c1 : sg l s.pos = [43]
        · rw [if_pos (by simp [c1])] at h
          cases h1 : pTerm l f d s.next with
          | none => rw [h1] at h; cases h
          | some q =>
            obtain ⟨y, s2⟩ := q
            rw [h1] at h
            have hP := ih.sums d _ s2 x s1 h hd (fun e2 => ih.termE _ _ _ _ h1 e2) K r hK hT
            refine f_push (o := 5) (by rw [c1]; rfl) (by decide) (fun k K' hk hc => by have := hK k K' hk; omega) ?_
            refine ih.term d s.next y s2 h1 h0 hd _ r (fun k K' hk => by injection hk with hk _; subst hk; simp [bindOf, E.kind]) ⟨fun e2 => ?_, hP.2⟩
            refine f_end (by simp [bindOf, E.kind]) ?_ (by have := hP.1 e2; simpa [deepOf, whole, E.plus, E.kind, E.n, E.name, E.a] using this)
            have := ih.termE _ _ _ _ h1 e2
            unfold opOf
            rw [if_neg this.1, if_neg this.2]
            split
            · simp [bindOf, E.kind]
            · split <;> simp [bindOf, E.kind]
        · rw [if_neg (by simp [c1])] at h
          by_cases c2 : sg l s.pos = [45]
          · rw [if_pos (by simp [c2])] at h
            cases h1 : pTerm l f d s.next with
            | none => rw [h1] at h; cases h
            | some q =>
              obtain ⟨y, s2⟩ := q
              rw [h1] at h
              have hP := ih.sums d _ s2 x s1 h hd (fun e2 => ih.termE _ _ _ _ h1 e2) K r hK hT
              refine f_push (o := 6) (by rw [c2]; rfl) (by decide) (fun k K' hk hc => by have := hK k K' hk; omega) ?_
              refine ih.term d s.next y s2 h1 h0 hd _ r (fun k K' hk => by injection hk with hk _; subst hk; simp [bindOf, E.kind]) ⟨fun e2 => ?_, hP.2⟩
              refine f_end (by simp [bindOf, E.kind]) ?_ (by have := hP.1 e2; simpa [deepOf, whole, E.plus, E.kind, E.n, E.name, E.a] using this)
              have := ih.termE _ _ _ _ h1 e2
              unfold opOf
              rw [if_neg this.1, if_neg this.2]
              split
              · simp [bindOf, E.kind]
              · split <;> simp [bindOf, E.kind]
          · rw [if_neg (by simp [c2])] at h
            obtain ⟨rfl, rfl⟩ := Prod.mk.inj (Option.some.inj h)
            exact hT.1 h0
      · rw [isSign_bad h0, isSign_bad h0] at h
        obtain ⟨rfl, rfl⟩ := Prod.mk.inj (Option.some.inj h)
        exact hT
    · intro d e s x s1 h hn h1
      rw [pSums] at h
      split at h
      · cases h2 : pTerm l f d s.next with
        | none => rw [h2] at h; cases h
        | some q => rw [h2] at h; exact ih.sumsE _ _ _ _ _ h (fun e2 => ih.termE _ _ _ _ h2 e2) h1
      · split at h
        · cases h2 : pTerm l f d s.next with
          | none => rw [h2] at h; cases h
          | some q => rw [h2] at h; exact ih.sumsE _ _ _ _ _ h (fun e2 => ih.termE _ _ _ _ h2 e2) h1
        · rename_i c1 c2
          obtain ⟨rfl, rfl⟩ := Prod.mk.inj (Option.some.inj h)
          rw [isSign_sg h1 (by decide)] at c1 c2
          exact op_none (hn h1) (by simpa using c1) (by simpa using c2)
    · intro d s x s1 h h0 hd K r hK hT
      rw [pExpr] at h
      cases h2 : pTerm l f d s with
      | none => rw [h2] at h; cases h
      | some q =>
        obtain ⟨y, s2⟩ := q
        rw [h2] at h
        exact ih.term d s y s2 h2 h0 hd K r hK.low2 (ih.sums d y s2 x s1 h hd (fun e2 => ih.termE _ _ _ _ h2 e2) K r hK hT)
    · intro d s x s1 h h1
      rw [pExpr] at h
      cases h2 : pTerm l f d s with
      | none => rw [h2] at h; cases h
      | some q => rw [h2] at h; exact ih.sumsE _ _ _ _ _ h (fun e2 => ih.termE _ _ _ _ h2 e2) h1
    · intro d s xs s1 h h0 hd K nm r hT
      rw [pSubs] at h
      cases h2 : pExpr l f d s with
      | none => rw [h2] at h; cases h
      | some q =>
        obtain ⟨y, s2⟩ := q
        rw [h2] at h
        exact ih.exp d s y s2 h2 h0 hd _ r (low1_zero _ _ rfl) (ih.more d [y] s2 xs s1 h hd (fun e2 => ih.expE _ _ _ _ h2 e2) (by simp) K nm [] y r rfl hT)
    · intro d xs s ys s1 h hd ho h4 K nm i x r hx hT
      subst hx
      rw [pMore] at h
      by_cases h0 : s.err = 0
      · refine ⟨fun _ => ?_, fun k => absurd h0 k⟩
        have ho := ho h0
        rw [isSign_sg h0 (by decide), isSign_sg h0 (by decide)] at h
        by_cases c1 : sg l s.pos = [44]
        · rw [if_pos (by simp [c1])] at h
          by_cases c4 : 4 ≤ (i ++ [x]).length
          · rw [if_pos c4] at h
            obtain ⟨rfl, rfl⟩ := Prod.mk.inj (Option.some.inj h)
            have hr := hT.2 (by simp [St.fail, h0])
            rw [hr]
            refine m_stop ?_
            simp only [step]
            rw [if_neg (by simp [bindOf, E.kind]), if_neg (by simp [ho]), if_neg (by rw [c1]; decide), if_pos c1, if_neg (by simp [E.kind]), if_pos (by simp at c4 h4; simp [E.a]; omega)]
            simp [St.fail, h0]
          · rw [if_neg c4] at h
            cases h2 : pExpr l f d s.next with
            | none => rw [h2] at h; cases h
            | some q =>
              obtain ⟨y, s2⟩ := q
              rw [h2] at h
              refine m_step (c' := .B (s.pos + 1) (.mk 3 0 nm (i ++ [x]) :: K) d) ?_ (ih.exp d s.next y s2 h2 h0 hd _ r (low1_zero _ _ rfl) (ih.more d _ s2 ys s1 h hd (fun e2 => ih.expE _ _ _ _ h2 e2) (by simp at c4 ⊢; omega) K nm _ y r rfl hT))
              simp only [step]
              rw [if_neg (by simp [bindOf, E.kind]), if_neg (by simp [ho]), if_neg (by rw [c1]; decide), if_pos c1]
              rw [if_neg (by simp [E.kind]), if_neg (by simp at c4; simp [E.a]; omega)]
              rfl
        · rw [if_neg (by simp [c1])] at h
          obtain ⟨rfl, rfl⟩ := Prod.mk.inj (Option.some.inj h)
          by_cases c2 : sg l s.pos = [41]
          · rw [if_pos (by simp [c2])] at hT
            refine m_step (c' := .F (s.pos + 1) K d (.mk 3 0 nm (i ++ [x]))) ?_ (hT.1 h0)
            simp only [step]
            rw [if_neg (by simp [bindOf, E.kind]), if_neg (by simp [ho]), if_pos c2]
            simp [deepOf, whole, E.plus, E.kind, E.n, E.name, E.a]
          · rw [if_neg (by simp [c2])] at hT
            have hr := hT.2 (by simp [St.fail, h0])
            rw [hr]
            refine m_stop ?_
            simp only [step]
            rw [if_neg (by simp [bindOf, E.kind]), if_neg (by simp [ho]), if_neg c2, if_neg c1]
            simp [St.fail, h0]
      · rw [isSign_bad h0, isSign_bad h0] at h
        have hf : s.fail s.pos 2 = s := by unfold St.fail; rw [if_neg h0]
        rw [if_neg (by decide), if_neg (by decide), hf] at h
        obtain ⟨rfl, rfl⟩ := Prod.mk.inj (Option.some.inj h)
        exact ⟨fun k => absurd k h0, fun _ => hT.2 h0⟩
/-- every reading comes to an end -/
theorem total (l : List T) : ∀ n,
    (∀ d s, l.length - s.pos ≤ n → ∃ r, RFactor l d s r ∧ s.pos ≤ r.2.pos) ∧
    (∀ d e s, l.length - s.pos ≤ n → ∃ r, RProds l d e s r ∧ s.pos ≤ r.2.pos) ∧
    (∀ d s, l.length - s.pos ≤ n → ∃ r, RTerm l d s r ∧ s.pos ≤ r.2.pos) ∧
    (∀ d e s, l.length - s.pos ≤ n → ∃ r, RSums l d e s r ∧ s.pos ≤ r.2.pos) ∧
    (∀ d s, l.length - s.pos ≤ n → ∃ r, RExpr l d s r ∧ s.pos ≤ r.2.pos) ∧
    (∀ d xs s, l.length - s.pos ≤ n → ∃ r, RMore l d xs s r ∧ s.pos ≤ r.2.pos) := by
  intro n
  induction n using Nat.strongRecOn with
  | ind n ih =>
    have hnx : ∀ s : St, s.next.pos = s.pos + 1 := fun s => rfl
    have hfl : ∀ (s : St) k e, (s.fail k e).pos = s.pos := fun s k e => by unfold St.fail; split <;> rfl
    have hF : ∀ d s, l.length - s.pos ≤ n → ∃ r, RFactor l d s r ∧ s.pos ≤ r.2.pos := by
      intro d s hn
      by_cases h0 : s.err = 0
      · by_cases hp : s.pos < l.length
        · by_cases k2 : l[s.pos].kind = 2
          · exact ⟨_, rFactor_num h0 hp k2, by show s.pos ≤ s.pos + 1; omega⟩
          · by_cases k1 : l[s.pos].kind = 1
            · cases c : isSign l s.next [40]
              · exact ⟨_, rFactor_var h0 hp k1 c, by show s.pos ≤ s.pos + 1; omega⟩
              · have hlt := (isSign_lt c).2
                rw [hnx] at hlt
                obtain ⟨⟨x, s1⟩, h1, g1⟩ := (ih (l.length - (s.pos + 2)) (by omega)).2.2.2.2.1 d s.next.next (Nat.le_refl _)
                simp only [hnx] at g1
                obtain ⟨⟨xs, s2⟩, h2, g2⟩ := (ih (l.length - (s.pos + 2)) (by omega)).2.2.2.2.2 d [x] s1 (by omega)
                exact ⟨_, rFactor_elem h0 hp k1 c (rSubs h1 h2), by simp only at g2 ⊢; omega⟩
            · cases c4 : isSign l s [45]
              · cases c6 : isSign l s [40]
                · exact ⟨_, rFactor_none h0 hp k1 k2 c4 c6, by simp only [hfl]; exact Nat.le_refl _⟩
                · by_cases hd : 20 ≤ d
                  · exact ⟨_, rFactor_long h0 hp k1 k2 (.inr c6) hd, by simp only [hfl]; exact Nat.le_refl _⟩
                  · obtain ⟨⟨x, s1⟩, h1, g1⟩ := (ih (l.length - (s.pos + 1)) (by omega)).2.2.2.2.1 (d + 1) s.next (Nat.le_refl _)
                    rw [hnx] at g1
                    refine ⟨_, rFactor_round h0 hp k1 k2 c4 c6 hd h1, ?_⟩
                    simp only at g1 ⊢
                    split
                    · rw [hnx]; omega
                    · rw [hfl]; omega
              · by_cases hd : 20 ≤ d
                · exact ⟨_, rFactor_long h0 hp k1 k2 (.inl c4) hd, by simp only [hfl]; exact Nat.le_refl _⟩
                · obtain ⟨⟨x, s1⟩, h1, g1⟩ := (ih (l.length - (s.pos + 1)) (by omega)).1 (d + 1) s.next (Nat.le_refl _)
                  rw [hnx] at g1
                  exact ⟨_, rFactor_neg h0 hp k1 k2 c4 hd h1, by simp only at g1 ⊢; omega⟩
        · exact ⟨_, rFactor_out h0 (by omega), by simp only [hfl]; exact Nat.le_refl _⟩
      · exact ⟨_, rFactor_bad h0, Nat.le_refl _⟩
    have hP : ∀ d e s, l.length - s.pos ≤ n → ∃ r, RProds l d e s r ∧ s.pos ≤ r.2.pos := by
      intro d e s hn
      cases c1 : isSign l s [42]
      · cases c2 : isSign l s [47]
        · exact ⟨_, rProds_end c1 c2, Nat.le_refl _⟩
        · have hlt := (isSign_lt c2).2
          obtain ⟨⟨x, s1⟩, h1, g1⟩ := (ih (l.length - (s.pos + 1)) (by omega)).1 d s.next (Nat.le_refl _)
          rw [hnx] at g1
          obtain ⟨⟨y, s2⟩, h2, g2⟩ := (ih (l.length - (s.pos + 1)) (by omega)).2.1 d (.mk 8 0 [] [e, x]) s1 (by simp only at g1; omega)
          exact ⟨_, rProds_div c1 c2 h1 h2, by simp only at g1 g2 ⊢; omega⟩
      · have hlt := (isSign_lt c1).2
        obtain ⟨⟨x, s1⟩, h1, g1⟩ := (ih (l.length - (s.pos + 1)) (by omega)).1 d s.next (Nat.le_refl _)
        rw [hnx] at g1
        obtain ⟨⟨y, s2⟩, h2, g2⟩ := (ih (l.length - (s.pos + 1)) (by omega)).2.1 d (.mk 7 0 [] [e, x]) s1 (by simp only at g1; omega)
        exact ⟨_, rProds_mul c1 h1 h2, by simp only at g1 g2 ⊢; omega⟩
    have hT : ∀ d s, l.length - s.pos ≤ n → ∃ r, RTerm l d s r ∧ s.pos ≤ r.2.pos := by
      intro d s hn
      obtain ⟨⟨x, s1⟩, h1, g1⟩ := hF d s hn
      obtain ⟨⟨y, s2⟩, h2, g2⟩ := hP d x s1 (by simp only at g1; omega)
      exact ⟨_, rTerm h1 h2, by simp only at g1 g2 ⊢; omega⟩
    have hS : ∀ d e s, l.length - s.pos ≤ n → ∃ r, RSums l d e s r ∧ s.pos ≤ r.2.pos := by
      intro d e s hn
      cases c1 : isSign l s [43]
      · cases c2 : isSign l s [45]
        · exact ⟨_, rSums_end c1 c2, Nat.le_refl _⟩
        · have hlt := (isSign_lt c2).2
          obtain ⟨⟨x, s1⟩, h1, g1⟩ := (ih (l.length - (s.pos + 1)) (by omega)).2.2.1 d s.next (Nat.le_refl _)
          rw [hnx] at g1
          obtain ⟨⟨y, s2⟩, h2, g2⟩ := (ih (l.length - (s.pos + 1)) (by omega)).2.2.2.1 d (.mk 6 0 [] [e, x]) s1 (by simp only at g1; omega)
          exact ⟨_, rSums_sub c1 c2 h1 h2, by simp only at g1 g2 ⊢; omega⟩
      · have hlt := (isSign_lt c1).2
        obtain ⟨⟨x, s1⟩, h1, g1⟩ := (ih (l.length - (s.pos + 1)) (by omega)).2.2.1 d s.next (Nat.le_refl _)
        rw [hnx] at g1
        obtain ⟨⟨y, s2⟩, h2, g2⟩ := (ih (l.length - (s.pos + 1)) (by omega)).2.2.2.1 d (.mk 5 0 [] [e, x]) s1 (by simp only at g1; omega)
        exact ⟨_, rSums_add c1 h1 h2, by simp only at g1 g2 ⊢; omega⟩
    have hE : ∀ d s, l.length - s.pos ≤ n → ∃ r, RExpr l d s r ∧ s.pos ≤ r.2.pos := by
      intro d s hn
      obtain ⟨⟨x, s1⟩, h1, g1⟩ := hT d s hn
      obtain ⟨⟨y, s2⟩, h2, g2⟩ := hS d x s1 (by simp only at g1; omega)
      exact ⟨_, rExpr h1 h2, by simp only at g1 g2 ⊢; omega⟩
    refine ⟨hF, hP, hT, hS, hE, ?_⟩
    intro d xs s hn
    cases c : isSign l s [44]
    · refine ⟨_, rMore_end c, ?_⟩
      simp only
      split
      · rw [hnx]; omega
      · rw [hfl]; omega
    · by_cases h4 : 4 ≤ xs.length
      · exact ⟨_, rMore_long c h4, by simp only [hfl]; exact Nat.le_refl _⟩
      · have hlt := (isSign_lt c).2
        obtain ⟨⟨x, s1⟩, h1, g1⟩ := (ih (l.length - (s.pos + 1)) (by omega)).2.2.2.2.1 d s.next (Nat.le_refl _)
        rw [hnx] at g1
        obtain ⟨⟨y, s2⟩, h2, g2⟩ := (ih (l.length - (s.pos + 1)) (by omega)).2.2.2.2.2 d (xs ++ [x]) s1 (by simp only at g1; omega)
        exact ⟨_, rMore_more c h4 h1 h2, by simp only at g1 g2 ⊢; omega⟩
/-- what the list comes to is what the rules come to -/
theorem mach {l : List T} {p : Nat} {r : Res} (h : M l (.B p [] 0) r) : ∃ x s, RExpr l 0 ⟨p, 0, 0⟩ (x, s) ∧ ((s.err = 0 ∧ r = .ok x s.pos) ∨ (s.err ≠ 0 ∧ r = .bad s.err s.bad)) := by
  obtain ⟨⟨x, s⟩, hx, -⟩ := (total l (l.length - p)).2.2.2.2.1 0 ⟨p, 0, 0⟩ (Nat.le_refl _)
  refine ⟨x, s, hx, ?_⟩
  obtain ⟨f, hf⟩ := hx
  by_cases h0 : s.err = 0
  · refine .inl ⟨h0, h.det ((go_all l f).exp 0 ⟨p, 0, 0⟩ x s hf rfl (by decide) [] _ (fun k K' e => by cases e) ⟨fun _ => m_stop ?_, fun k => absurd h0 k⟩)⟩
    simp only [step]
    rw [if_neg (by simp [(go_all l f).expE _ _ _ _ hf h0])]
  · exact .inr ⟨h0, h.det ((go_all l f).exp 0 ⟨p, 0, 0⟩ x s hf rfl (by decide) [] _ (fun k K' e => by cases e) ⟨fun k => absurd k h0, fun _ => rfl⟩)⟩
end Go.Proofs.YtepnafnljfjeoaaGreatDoor.Ex

namespace Go.Proofs.YtepnafnljfjeoaaGreatDoor.Ex
set_option linter.unusedVariables false
open Words (T)

theorem sm_leaf (k n : Int) (s : List UInt8) : Sm (.mk k n s []) := .mk _ (by simp [E.a]) (fun y hy => by cases hy)
theorem sm_one {k n : Int} {s : List UInt8} {x : E} (h : Sm x) : Sm (.mk k n s [x]) := .mk _ (by simp [E.a]) (fun y hy => by rw [List.mem_singleton.1 hy]; exact h)
theorem sm_two {k n : Int} {s : List UInt8} {x y : E} (h : Sm x) (h2 : Sm y) : Sm (.mk k n s [x, y]) := .mk _ (by simp [E.a]) (fun z hz => by
  rcases List.mem_cons.1 hz with rfl | hz
  · exact h
  · rw [List.mem_singleton.1 hz]; exact h2)
def AllSm (l : List T) (f : Nat) : Prop :=
  (∀ d s r, pExpr l f d s = some r → Sm r.1) ∧ (∀ d e s r, Sm e → pSums l f d e s = some r → Sm r.1) ∧
  (∀ d s r, pTerm l f d s = some r → Sm r.1) ∧ (∀ d e s r, Sm e → pProds l f d e s = some r → Sm r.1) ∧
  (∀ d s r, pFactor l f d s = some r → Sm r.1) ∧ (∀ d s r, pSubs l f d s = some r → r.1.length ≤ 5 ∧ ∀ y ∈ r.1, Sm y) ∧
  (∀ d xs s r, xs.length ≤ 5 → (∀ y ∈ xs, Sm y) → pMore l f d xs s = some r → r.1.length ≤ 5 ∧ ∀ y ∈ r.1, Sm y)
theorem allSm (l : List T) : ∀ f, AllSm l f := by
  intro f
  induction f with
  | zero => exact ⟨fun _ _ _ h => by simp [pExpr] at h, fun _ _ _ _ _ h => by simp [pSums] at h, fun _ _ _ h => by simp [pTerm] at h, fun _ _ _ _ _ h => by simp [pProds] at h, fun _ _ _ h => by simp [pFactor] at h, fun _ _ _ h => by simp [pSubs] at h, fun _ _ _ _ _ _ h => by simp [pMore] at h⟩
  | succ f ih =>
    obtain ⟨iE, iS, iT, iP, iF, iU, iM⟩ := ih
    refine ⟨?_, ?_, ?_, ?_, ?_, ?_, ?_⟩
    · intro d s r h
      rw [pExpr] at h
      cases h1 : pTerm l f d s with
      | none => rw [h1] at h; cases h
      | some x => rw [h1] at h; exact iS _ _ _ _ (iT _ _ _ h1) h
    · intro d e s r he h
      rw [pSums] at h
      split at h
      · cases h1 : pTerm l f d s.next with
        | none => rw [h1] at h; cases h
        | some x => rw [h1] at h; exact iS _ _ _ _ (sm_two he (iT _ _ _ h1)) h
      · split at h
        · cases h1 : pTerm l f d s.next with
          | none => rw [h1] at h; cases h
          | some x => rw [h1] at h; exact iS _ _ _ _ (sm_two he (iT _ _ _ h1)) h
        · injection h with h; subst h; exact he
    · intro d s r h
      rw [pTerm] at h
      cases h1 : pFactor l f d s with
      | none => rw [h1] at h; cases h
      | some x => rw [h1] at h; exact iP _ _ _ _ (iF _ _ _ h1) h
    · intro d e s r he h
      rw [pProds] at h
      split at h
      · cases h1 : pFactor l f d s.next with
        | none => rw [h1] at h; cases h
        | some x => rw [h1] at h; exact iP _ _ _ _ (sm_two he (iF _ _ _ h1)) h
      · split at h
        · cases h1 : pFactor l f d s.next with
          | none => rw [h1] at h; cases h
          | some x => rw [h1] at h; exact iP _ _ _ _ (sm_two he (iF _ _ _ h1)) h
        · injection h with h; subst h; exact he
    · intro d s r h
      rw [pFactor] at h
      split at h
      · injection h with h; subst h; exact sm_leaf _ _ _
      · split at h
        · injection h with h; subst h; exact sm_leaf _ _ _
        · split at h
          · injection h with h; subst h; exact sm_leaf _ _ _
          · split at h
            · split at h
              · cases h1 : pSubs l f d s.next.next with
                | none => rw [h1] at h; cases h
                | some x =>
                  rw [h1] at h
                  injection h with h
                  subst h
                  obtain ⟨k1, k2⟩ := iU _ _ _ h1
                  exact .mk _ (by show x.1.length ≤ 1000; omega) k2
              · injection h with h; subst h; exact sm_leaf _ _ _
            · split at h
              · split at h
                · injection h with h; subst h; exact sm_leaf _ _ _
                · split at h
                  · cases h1 : pFactor l f (d + 1) s.next with
                    | none => rw [h1] at h; cases h
                    | some x => rw [h1] at h; injection h with h; subst h; exact sm_one (iF _ _ _ h1)
                  · cases h1 : pExpr l f (d + 1) s.next with
                    | none => rw [h1] at h; cases h
                    | some x => rw [h1] at h; injection h with h; subst h; show Sm x.1; exact iE _ _ _ h1
              · injection h with h; subst h; exact sm_leaf _ _ _
    · intro d s r h
      rw [pSubs] at h
      cases h1 : pExpr l f d s with
      | none => rw [h1] at h; cases h
      | some x => rw [h1] at h; exact iM _ _ _ _ (by simp) (fun y hy => by rw [List.mem_singleton.1 hy]; exact iE _ _ _ h1) h
    · intro d xs s r hl hx h
      rw [pMore] at h
      split at h
      · split at h
        · injection h with h; subst h; exact ⟨hl, hx⟩
        · rename_i h4
          cases h1 : pExpr l f d s.next with
          | none => rw [h1] at h; cases h
          | some x =>
            rw [h1] at h
            refine iM _ _ _ _ (by rw [List.length_append, List.length_singleton]; omega) (fun y hy => ?_) h
            rcases List.mem_append.1 hy with hy | hy
            · exact hx y hy
            · rw [List.mem_singleton.1 hy]; exact iE _ _ _ h1
      · injection h with h; subst h; exact ⟨hl, hx⟩
theorem RExpr.sm {l : List T} {d : Nat} {s : St} {r : E × St} (h : RExpr l d s r) : Sm r.1 := by
  obtain ⟨f, h⟩ := h
  exact (allSm l f).1 d s r h
end Go.Proofs.YtepnafnljfjeoaaGreatDoor.Ex

namespace Go.Proofs.YtepnafnljfjeoaaGreatDoor.Line
set_option linter.unusedVariables false

theorem toks_goodW (l : List UInt8) : Words.Good l 0 (Words.toks l).1 := by
  by_cases h : (Words.toks l).2.1 = 0
  · exact Words.scanAt_good l 0 h
  · rw [show (Words.toks l).1 = [] from (Words.scanAt_form l 0).2 h]; trivial
theorem toks_countW (l : List UInt8) : (Words.toks l).1.length ≤ l.length := by
  have key : ∀ (T : List Words.T) a, Words.Good l a T → (∀ t ∈ T, 0 < t.text.length) → a + T.length ≤ l.length ∨ T = [] := by
    intro T
    induction T with
    | nil => intro a _ _; exact .inr rfl
    | cons t T ih =>
      intro a h hp
      obtain ⟨h1, h2, _, _, h5⟩ := h
      have h6 := hp t (List.mem_cons_self ..)
      rcases ih _ h5 (fun x hx => hp x (List.mem_cons_of_mem _ hx)) with h7 | h7
      · left; rw [List.length_cons]; omega
      · left; subst h7; simp; omega
  have hpos : ∀ i, ∀ t ∈ (Words.scanAt l i).1, 0 < t.text.length := by
    refine Words.scanAt_ind l _ (fun i h => ?_) (fun i h hs ih => ?_) (fun i e o h hs => ?_) (fun i kd n k h hs ih => ?_)
    · rw [Words.scanAt_end l i h]; intro t ht; cases ht
    · rw [Words.scanAt_blank h hs]; exact ih
    · rw [Words.scanAt_bad h hs]; intro t ht; cases ht
    · rw [Words.scanAt_tok h hs]
      unfold Words.also
      split
      · intro t ht
        rcases List.mem_cons.1 ht with rfl | h2
        · have hk := Words.step_len hs
          show 0 < ((l.drop i).take k).length
          rw [List.length_take]; omega
        · exact ih t h2
      · intro t ht; cases ht
  rcases key _ 0 (toks_goodW l) (hpos 0) with h | h
  · omega
  · rw [h]; simp
end Go.Proofs.YtepnafnljfjeoaaGreatDoor.Line

namespace Go.Proofs.YtepnafnljfjeoaaGreatDoor.Ex
set_option linter.unusedVariables false
open Words (T)

theorem fail_bad {s : St} {k e : Nat} (he : e ≠ 0) : (s.fail k e).err ≠ 0 := by
  unfold St.fail
  split
  · exact he
  · assumption
theorem close_bad {l : List T} {s : St} (h : (if isSign l s [41] then s.next else s.fail s.pos 2).err = 0) : s.err = 0 ∧ (if isSign l s [41] then s.next else s.fail s.pos 2).bad = s.bad := by
  cases c : isSign l s [41]
  · rw [c] at h
    exact absurd h (fail_bad (by decide))
  · exact ⟨(isSign_lt c).1, rfl⟩
structure Bd (l : List T) (f : Nat) : Prop where
  fac : ∀ d s x s1, pFactor l f d s = some (x, s1) → s1.err = 0 → s.err = 0 ∧ s1.bad = s.bad
  prods : ∀ d e s x s1, pProds l f d e s = some (x, s1) → s1.err = 0 → s.err = 0 ∧ s1.bad = s.bad
  term : ∀ d s x s1, pTerm l f d s = some (x, s1) → s1.err = 0 → s.err = 0 ∧ s1.bad = s.bad
  sums : ∀ d e s x s1, pSums l f d e s = some (x, s1) → s1.err = 0 → s.err = 0 ∧ s1.bad = s.bad
  exp : ∀ d s x s1, pExpr l f d s = some (x, s1) → s1.err = 0 → s.err = 0 ∧ s1.bad = s.bad
  subs : ∀ d s xs s1, pSubs l f d s = some (xs, s1) → s1.err = 0 → s.err = 0 ∧ s1.bad = s.bad
  more : ∀ d xs s ys s1, pMore l f d xs s = some (ys, s1) → s1.err = 0 → s.err = 0 ∧ s1.bad = s.bad
theorem bd_next {s s1 : St} (h : s.next.err = 0 ∧ s1.bad = s.next.bad) : s.err = 0 ∧ s1.bad = s.bad := h
theorem bd_trans {a b c : St} (h : a.err = 0 ∧ b.bad = a.bad) (k : b.err = 0 ∧ c.bad = b.bad) : a.err = 0 ∧ c.bad = a.bad := ⟨h.1, k.2.trans h.2⟩
theorem bad_all (l : List T) : ∀ f, Bd l f := by
  intro f
  induction f with
  | zero => refine ⟨?_, ?_, ?_, ?_, ?_, ?_, ?_⟩ <;> intros <;> rename_i h <;> simp_all [pFactor, pProds, pTerm, pSums, pExpr, pSubs, pMore]
  | succ f ih =>
    refine ⟨?_, ?_, ?_, ?_, ?_, ?_, ?_⟩
    · intro d s x s1 h h1
      rw [pFactor] at h
      by_cases c0 : s.err ≠ 0
      · rw [if_pos c0] at h
        obtain ⟨rfl, rfl⟩ := Prod.mk.inj (Option.some.inj h)
        exact absurd h1 c0
      · rw [if_neg c0] at h
        have h0 : s.err = 0 := Decidable.byContradiction c0
        cases ht : l[s.pos]? with
        | none =>
          rw [ht] at h
          obtain ⟨rfl, rfl⟩ := Prod.mk.inj (Option.some.inj h)
          exact absurd h1 (fail_bad (by decide))
        | some t =>
          rw [ht] at h
          simp only at h
          split at h
          · obtain ⟨rfl, rfl⟩ := Prod.mk.inj (Option.some.inj h)
            exact ⟨h0, rfl⟩
          · split at h
            · split at h
              · cases h2 : pSubs l f d s.next.next with
                | none => rw [h2] at h; cases h
                | some q =>
                  rw [h2] at h
                  obtain ⟨rfl, rfl⟩ := Prod.mk.inj (Option.some.inj h)
                  exact bd_next (bd_next (ih.subs _ _ _ _ h2 h1))
              · obtain ⟨rfl, rfl⟩ := Prod.mk.inj (Option.some.inj h)
                exact ⟨h0, rfl⟩
            · split at h
              · split at h
                · obtain ⟨rfl, rfl⟩ := Prod.mk.inj (Option.some.inj h)
                  exact absurd h1 (fail_bad (by decide))
                · split at h
                  · cases h2 : pFactor l f (d + 1) s.next with
                    | none => rw [h2] at h; cases h
                    | some q =>
                      rw [h2] at h
                      obtain ⟨rfl, rfl⟩ := Prod.mk.inj (Option.some.inj h)
                      exact bd_next (ih.fac _ _ _ _ h2 h1)
                  · cases h2 : pExpr l f (d + 1) s.next with
                    | none => rw [h2] at h; cases h
                    | some q =>
                      rw [h2] at h
                      obtain ⟨rfl, rfl⟩ := Prod.mk.inj (Option.some.inj h)
                      have h3 := close_bad h1
                      exact bd_trans (bd_next (ih.exp _ _ _ _ h2 h3.1)) h3
              · obtain ⟨rfl, rfl⟩ := Prod.mk.inj (Option.some.inj h)
                exact absurd h1 (fail_bad (by decide))
    · intro d e s x s1 h h1
      rw [pProds] at h
      split at h
      · cases h2 : pFactor l f d s.next with
        | none => rw [h2] at h; cases h
        | some q => rw [h2] at h; have k := ih.prods _ _ _ _ _ h h1; exact bd_trans (bd_next (ih.fac _ _ _ _ h2 k.1)) k
      · split at h
        · cases h2 : pFactor l f d s.next with
          | none => rw [h2] at h; cases h
          | some q => rw [h2] at h; have k := ih.prods _ _ _ _ _ h h1; exact bd_trans (bd_next (ih.fac _ _ _ _ h2 k.1)) k
        · obtain ⟨rfl, rfl⟩ := Prod.mk.inj (Option.some.inj h)
          exact ⟨h1, rfl⟩
    · intro d s x s1 h h1
      rw [pTerm] at h
      cases h2 : pFactor l f d s with
      | none => rw [h2] at h; cases h
      | some q => rw [h2] at h; have k := ih.prods _ _ _ _ _ h h1; exact bd_trans (ih.fac _ _ _ _ h2 k.1) k
    · intro d e s x s1 h h1
      rw [pSums] at h
      split at h
      · cases h2 : pTerm l f d s.next with
        | none => rw [h2] at h; cases h
        | some q => rw [h2] at h; have k := ih.sums _ _ _ _ _ h h1; exact bd_trans (bd_next (ih.term _ _ _ _ h2 k.1)) k
      · split at h
        · cases h2 : pTerm l f d s.next with
          | none => rw [h2] at h; cases h
          | some q => rw [h2] at h; have k := ih.sums _ _ _ _ _ h h1; exact bd_trans (bd_next (ih.term _ _ _ _ h2 k.1)) k
        · obtain ⟨rfl, rfl⟩ := Prod.mk.inj (Option.some.inj h)
          exact ⟨h1, rfl⟩
    · intro d s x s1 h h1
      rw [pExpr] at h
      cases h2 : pTerm l f d s with
      | none => rw [h2] at h; cases h
      | some q => rw [h2] at h; have k := ih.sums _ _ _ _ _ h h1; exact bd_trans (ih.term _ _ _ _ h2 k.1) k
    · intro d s xs s1 h h1
      rw [pSubs] at h
      cases h2 : pExpr l f d s with
      | none => rw [h2] at h; cases h
      | some q => rw [h2] at h; have k := ih.more _ _ _ _ _ h h1; exact bd_trans (ih.exp _ _ _ _ h2 k.1) k
    · intro d xs s ys s1 h h1
      rw [pMore] at h
      split at h
      · split at h
        · obtain ⟨rfl, rfl⟩ := Prod.mk.inj (Option.some.inj h)
          exact absurd h1 (fail_bad (by decide))
        · cases h2 : pExpr l f d s.next with
          | none => rw [h2] at h; cases h
          | some q => rw [h2] at h; have k := ih.more _ _ _ _ _ h h1; exact bd_trans (bd_next (ih.exp _ _ _ _ h2 k.1)) k
      · obtain ⟨rfl, rfl⟩ := Prod.mk.inj (Option.some.inj h)
        exact close_bad h1
theorem RExpr.next0 {l : List T} {p : Nat} {x : E} {s1 : St} (h : RExpr l 0 ⟨p, 0, 0⟩ (x, s1)) (h1 : s1.err = 0) : s1.next = ⟨s1.pos + 1, 0, 0⟩ := by
  obtain ⟨f, hf⟩ := h
  have := (bad_all l f).exp _ _ _ _ hf h1
  show (⟨s1.pos + 1, s1.err, s1.bad⟩ : St) = _
  rw [h1, this.2]
end Go.Proofs.YtepnafnljfjeoaaGreatDoor.Ex
