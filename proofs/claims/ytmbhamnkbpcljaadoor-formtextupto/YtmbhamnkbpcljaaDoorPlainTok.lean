/- Plain facts on words of a line: bytes, one step, all words from a place on. Nothing of the program is named. -/
namespace Go.Proofs.YtmbhamnkbpcljaaDoor.Words

structure T where
  kind : Nat
  text : List UInt8
  pos : Nat
  n : Nat
deriving DecidableEq

def letterB (c : UInt8) : Bool := decide (97 ≤ c.toNat) && decide (c.toNat ≤ 122)
def digitB (c : UInt8) : Bool := decide (48 ≤ c.toNat) && decide (c.toNat ≤ 57)
def behindB (c : UInt8) : Bool := letterB c || digitB c || decide (c.toNat = 95)
def blankB (c : UInt8) : Bool := decide (c.toNat = 32) || decide (c.toNat = 9)
def keys : List (List UInt8) := [[105, 110, 116, 101, 103, 101, 114], [100, 111], [101, 110, 100], [105, 102], [116, 104, 101, 110], [101, 108, 115, 101], [114, 101, 97, 100], [112, 114, 105, 110, 116]]
def isKey (s : List UInt8) : Bool := keys.contains s
def num (s : List UInt8) : Nat := s.foldl (fun n c => 10 * n + (c.toNat - 48)) 0
def big : Nat := 9223372036854775807
/-- how long a sign that a text begins with is; 0: none -/
def signLen : List UInt8 → Nat
  | [] => 0
  | c :: r => if c.toNat = 60 ∨ c.toNat = 62 ∨ c.toNat = 61 ∨ c.toNat = 47 then (if r.head? = some 61 then 2 else 1) else if c.toNat = 43 ∨ c.toNat = 45 ∨ c.toNat = 42 ∨ c.toNat = 40 ∨ c.toNat = 41 ∨ c.toNat = 44 then 1 else 0
/-- what a text begins with: a blank; a word of that kind, number, length; something that is wrong there -/
inductive Step
  | blank
  | tok (kind n len : Nat)
  | bad (err off : Nat)
def headIs (p : UInt8 → Bool) : List UInt8 → Bool
  | [] => false
  | c :: _ => p c
def step (s : List UInt8) : Step :=
  if headIs blankB s then .blank
  else if headIs letterB s then
    (if 31 < (s.takeWhile behindB).length then .bad 4 0 else .tok (if isKey (s.takeWhile behindB) then 4 else 1) 0 (s.takeWhile behindB).length)
  else if headIs digitB s then
    (if big < num (s.takeWhile digitB) then .bad 5 0 else if headIs letterB (s.drop (s.takeWhile digitB).length) then .bad 3 (s.takeWhile digitB).length else .tok 2 (num (s.takeWhile digitB)) (s.takeWhile digitB).length)
  else if signLen s = 0 then .bad 3 0 else .tok 3 0 (signLen s)
/-- what comes of words ahead and of the rest -/
def also (l : List T) (x : List T × Nat × Nat) : List T × Nat × Nat := if x.2.1 = 0 then (l ++ x.1, 0, 0) else ([], x.2.1, x.2.2)
def scan : Nat → List UInt8 → Nat → List T × Nat × Nat
  | 0, _, _ => ([], 0, 0)
  | f + 1, s, p => if s = [] then ([], 0, 0) else match step s with
    | .blank => scan f (s.drop 1) (p + 1)
    | .bad e o => ([], e, p + o)
    | .tok kd n k => also [⟨kd, s.take k, p, n⟩] (scan f (s.drop k) (p + k))
/-- the words of a text from place i on: (words, 0, 0), or ([], what is wrong, where) -/
def scanAt (s : List UInt8) (i : Nat) : List T × Nat × Nat := scan (s.length - i) (s.drop i) i
def toks (s : List UInt8) : List T × Nat × Nat := scanAt s 0

theorem also_nil (x : List T × Nat × Nat) (h : x.2.1 = 0 → x.2.2 = 0) (h2 : x.2.1 ≠ 0 → x.1 = []) : also [] x = x := by
  obtain ⟨l, e, a⟩ := x
  unfold also
  by_cases he : e = 0
  · have := h he
    simp only at this
    simp [he, this]
  · have := h2 he
    simp only at this
    simp [he, this]
theorem also_also (l m : List T) (x : List T × Nat × Nat) : also l (also m x) = also (l ++ m) x := by
  obtain ⟨k, e, a⟩ := x
  unfold also
  by_cases he : e = 0
  · simp [he]
  · simp [he]
theorem takeWhile_pos {p : UInt8 → Bool} {s : List UInt8} (h : headIs p s = true) : 0 < (s.takeWhile p).length := by
  cases s with
  | nil => cases h
  | cons c r => rw [List.takeWhile_cons, if_pos (show p c = true from h)]; simp
theorem takeWhile_head {p q : UInt8 → Bool} {s : List UInt8} (hq : ∀ c, p c = true → q c = true) (h : headIs p s = true) : 0 < (s.takeWhile q).length := by
  cases s with
  | nil => cases h
  | cons c r => rw [List.takeWhile_cons, if_pos (hq c h)]; simp
theorem letter_behind (c : UInt8) (h : letterB c = true) : behindB c = true := by unfold behindB; rw [h]; rfl
theorem step_len {s : List UInt8} {kd n k : Nat} (h : step s = .tok kd n k) : 0 < k ∧ k ≤ s.length := by
  unfold step at h
  split at h
  · cases h
  · split at h
    · rename_i hl
      split at h
      · cases h
      · injection h with _ _ h
        subst h
        exact ⟨takeWhile_head letter_behind hl, (List.takeWhile_prefix _).length_le⟩
    · split at h
      · rename_i hd
        split at h
        · cases h
        · split at h
          · cases h
          · injection h with _ _ h
            subst h
            exact ⟨takeWhile_pos hd, (List.takeWhile_prefix _).length_le⟩
      · split at h
        · cases h
        · rename_i hs
          injection h with _ _ h
          subst h
          refine ⟨by omega, ?_⟩
          cases s with
          | nil => simp [signLen]
          | cons c r =>
            simp only [signLen]
            split
            · split
              · rename_i hr
                cases r with
                | nil => cases hr
                | cons _ _ => simp
              · simp
            · split <;> simp
theorem scan_nil (f p : Nat) : scan f [] p = ([], 0, 0) := by cases f <;> rfl
/-- more rounds than are wanted change nothing -/
theorem scan_any : ∀ (n f g : Nat) (s : List UInt8) (p : Nat), s.length ≤ n → s.length ≤ f → s.length ≤ g → scan f s p = scan g s p := by
  intro n
  induction n with
  | zero =>
    intro f g s p h _ _
    have : s = [] := List.length_eq_zero_iff.1 (by omega)
    subst this
    rw [scan_nil, scan_nil]
  | succ n ih =>
    intro f g s p h hf hg
    by_cases hs : s = []
    · subst hs; rw [scan_nil, scan_nil]
    · have h0 : s.length ≠ 0 := fun h => hs (List.length_eq_zero_iff.1 h)
      obtain ⟨f', rfl⟩ : ∃ m, f = m + 1 := ⟨f - 1, by omega⟩
      obtain ⟨g', rfl⟩ : ∃ m, g = m + 1 := ⟨g - 1, by omega⟩
      have hd : ∀ k q, 0 < k → scan f' (s.drop k) q = scan g' (s.drop k) q := fun k q hk => ih f' g' _ q (by rw [List.length_drop]; omega) (by rw [List.length_drop]; omega) (by rw [List.length_drop]; omega)
      unfold scan
      rw [if_neg hs, if_neg hs]
      split
      · exact hd 1 _ (by omega)
      · rfl
      · rename_i kd n' k hk
        rw [hd k _ (step_len hk).1]
theorem scanAt_end (s : List UInt8) (i : Nat) (h : s.length ≤ i) : scanAt s i = ([], 0, 0) := by
  unfold scanAt
  rw [List.drop_of_length_le h, scan_nil]
theorem scanAt_unfold (s : List UInt8) (i : Nat) (h : i < s.length) : scanAt s i = match step (s.drop i) with
    | .blank => scanAt s (i + 1)
    | .bad e o => ([], e, i + o)
    | .tok kd n k => also [⟨kd, (s.drop i).take k, i, n⟩] (scanAt s (i + k)) := by
  have hne : s.drop i ≠ [] := fun h0 => by have := congrArg List.length h0; rw [List.length_drop] at this; simp at this; omega
  obtain ⟨m, hm⟩ : ∃ m, s.length - i = m + 1 := ⟨s.length - i - 1, by omega⟩
  have e0 : scanAt s i = match step (s.drop i) with
      | .blank => scan m ((s.drop i).drop 1) (i + 1)
      | .bad e o => ([], e, i + o)
      | .tok kd n k => also [⟨kd, (s.drop i).take k, i, n⟩] (scan m ((s.drop i).drop k) (i + k)) := by
    unfold scanAt
    rw [hm]
    show (if s.drop i = [] then _ else _) = _
    rw [if_neg hne]
  rw [e0]
  cases hs : step (s.drop i) with
  | blank =>
    show scan m ((s.drop i).drop 1) (i + 1) = scanAt s (i + 1)
    unfold scanAt
    rw [List.drop_drop]
    exact scan_any m m (s.length - (i + 1)) _ _ (by rw [List.length_drop]; omega) (by rw [List.length_drop]; omega) (by rw [List.length_drop]; omega)
  | bad e o => rfl
  | tok kd n k =>
    have := step_len hs
    show also _ (scan m ((s.drop i).drop k) (i + k)) = also _ (scanAt s (i + k))
    unfold scanAt
    rw [List.drop_drop, scan_any m m (s.length - (i + k)) _ _ (by rw [List.length_drop]; omega) (by rw [List.length_drop]; omega) (by rw [List.length_drop]; omega)]
theorem scanAt_blank {s : List UInt8} {i : Nat} (h : i < s.length) (hs : step (s.drop i) = .blank) : scanAt s i = scanAt s (i + 1) := by rw [scanAt_unfold s i h, hs]
theorem scanAt_bad {s : List UInt8} {i e o : Nat} (h : i < s.length) (hs : step (s.drop i) = .bad e o) : scanAt s i = ([], e, i + o) := by rw [scanAt_unfold s i h, hs]
theorem scanAt_tok {s : List UInt8} {i kd n k : Nat} (h : i < s.length) (hs : step (s.drop i) = .tok kd n k) : scanAt s i = also [⟨kd, (s.drop i).take k, i, n⟩] (scanAt s (i + k)) := by rw [scanAt_unfold s i h, hs]
theorem step_err {s : List UInt8} {e o : Nat} (h : step s = .bad e o) : e = 3 ∨ e = 4 ∨ e = 5 := by
  unfold step at h
  split at h
  · cases h
  · split at h
    · split at h
      · injection h with h; omega
      · cases h
    · split at h
      · split at h
        · injection h with h; omega
        · split at h
          · injection h with h; omega
          · cases h
      · split at h
        · injection h with h; omega
        · cases h
/-- by going on from place to place -/
theorem scanAt_ind (s : List UInt8) (P : Nat → Prop) (hend : ∀ i, s.length ≤ i → P i) (hb : ∀ i, i < s.length → step (s.drop i) = .blank → P (i + 1) → P i) (hbad : ∀ i e o, i < s.length → step (s.drop i) = .bad e o → P i)
    (ht : ∀ i kd n k, i < s.length → step (s.drop i) = .tok kd n k → P (i + k) → P i) : ∀ i, P i := by
  have key : ∀ m i, s.length - i ≤ m → P i := by
    intro m
    induction m with
    | zero => intro i h; exact hend i (by omega)
    | succ m ih =>
      intro i h
      by_cases hi : i < s.length
      · cases hs : step (s.drop i) with
        | blank => exact hb i hi hs (ih _ (by omega))
        | bad e o => exact hbad i e o hi hs
        | tok kd n k => have := step_len hs; exact ht i kd n k hi hs (ih _ (by omega))
      · exact hend i (by omega)
  exact fun i => key _ i (Nat.le_refl _)
theorem scanAt_form (s : List UInt8) : ∀ i, ((scanAt s i).2.1 = 0 → (scanAt s i).2.2 = 0) ∧ ((scanAt s i).2.1 ≠ 0 → (scanAt s i).1 = []) := by
  refine scanAt_ind s _ (fun i h => ?_) (fun i h hs ih => ?_) (fun i e o h hs => ?_) (fun i kd n k h hs ih => ?_)
  · rw [scanAt_end s i h]; exact ⟨fun _ => rfl, fun h => absurd rfl h⟩
  · rw [scanAt_blank h hs]; exact ih
  · rw [scanAt_bad h hs]; have := step_err hs; exact ⟨fun h => by simp only at h; omega, fun _ => rfl⟩
  · rw [scanAt_tok h hs]
    unfold also
    split
    · exact ⟨fun _ => rfl, fun h => absurd rfl h⟩
    · rename_i h2; exact ⟨fun h => absurd h h2, fun _ => rfl⟩
/-- where words lie: behind each other, blanks alone between them -/
def Good (s : List UInt8) : Nat → List T → Prop
  | _, [] => True
  | a, t :: l => a ≤ t.pos ∧ t.pos + t.text.length ≤ s.length ∧ t.text = (s.drop t.pos).take t.text.length ∧ (∀ k (h : k < s.length), a ≤ k → k < t.pos → blankB s[k] = true) ∧ Good s (t.pos + t.text.length) l
theorem Good.from {s : List UInt8} {l : List T} {a b : Nat} (h : Good s b l) (hab : a ≤ b) (hbl : ∀ k (h : k < s.length), a ≤ k → k < b → blankB s[k] = true) : Good s a l := by
  cases l with
  | nil => trivial
  | cons t l =>
    obtain ⟨h1, h2, h3, h4, h5⟩ := h
    refine ⟨by omega, h2, h3, fun k hk ha hp => ?_, h5⟩
    by_cases hkb : k < b
    · exact hbl k hk ha hkb
    · exact h4 k hk (by omega) hp
theorem step_blank {s : List UInt8} (h : step s = .blank) : headIs blankB s = true := by
  unfold step at h
  split at h
  · assumption
  · split at h
    · split at h <;> cases h
    · split at h
      · split at h
        · cases h
        · split at h <;> cases h
      · split at h <;> cases h
theorem scanAt_good (s : List UInt8) : ∀ i, (scanAt s i).2.1 = 0 → Good s i (scanAt s i).1 := by
  refine scanAt_ind s _ (fun i h => ?_) (fun i h hs ih => ?_) (fun i e o h hs => ?_) (fun i kd n k h hs ih => ?_)
  · rw [scanAt_end s i h]; exact fun _ => trivial
  · rw [scanAt_blank h hs]
    intro he
    refine (ih he).from (by omega) (fun k hk h1 h2 => ?_)
    obtain rfl : k = i := by omega
    have := step_blank hs
    rw [List.drop_eq_getElem_cons hk] at this
    exact this
  · rw [scanAt_bad h hs]; have := step_err hs; intro h; simp only at h; omega
  · rw [scanAt_tok h hs]
    unfold also
    split
    · rename_i he
      intro _
      have hk := step_len hs
      rw [List.length_drop] at hk
      have hl : ((s.drop i).take k).length = k := by rw [List.length_take, List.length_drop]; omega
      refine ⟨Nat.le_refl _, ?_, ?_, fun k' _ h1 h2 => ?_, ?_⟩
      · show i + ((s.drop i).take k).length ≤ s.length
        rw [hl]; omega
      · show (s.drop i).take k = (s.drop i).take ((s.drop i).take k).length
        rw [hl]
      · simp only at h2; omega
      · show Good s (i + ((s.drop i).take k).length) _
        rw [hl]; exact ih he
    · rename_i h2; exact fun h => absurd h h2
/-- by in place of each name that is name, from place a on -/
def repl (body name by_ : List UInt8) : Nat → List T → List UInt8
  | a, [] => body.drop a
  | a, t :: l => if t.kind = 1 ∧ t.text = name then (body.drop a).take (t.pos - a) ++ by_ ++ repl body name by_ (t.pos + name.length) l else repl body name by_ a l
theorem repl_self (body name : List UInt8) (l : List T) : ∀ a b, a ≤ b → Good body b l → repl body name name a l = body.drop a := by
  induction l with
  | nil => intro a b _ _; rfl
  | cons t l ih =>
    intro a b hab hg
    obtain ⟨h1, h2, h3, h4, h5⟩ := hg
    show (if t.kind = 1 ∧ t.text = name then (body.drop a).take (t.pos - a) ++ name ++ repl body name name (t.pos + name.length) l else repl body name name a l) = _
    split
    · rename_i hn
      obtain ⟨_, rfl⟩ := hn
      rw [ih _ _ (Nat.le_refl _) h5]
      conv => lhs; lhs; rhs; rw [h3]
      have e1 : body.drop (t.pos + t.text.length) = (body.drop t.pos).drop t.text.length := by rw [List.drop_drop]
      have e2 : body.drop t.pos = (body.drop a).drop (t.pos - a) := by rw [List.drop_drop]; congr 1; omega
      rw [e1, List.append_assoc, List.take_append_drop, e2, List.take_append_drop]
    · exact ih a _ (by omega) h5
end Go.Proofs.YtmbhamnkbpcljaaDoor.Words
