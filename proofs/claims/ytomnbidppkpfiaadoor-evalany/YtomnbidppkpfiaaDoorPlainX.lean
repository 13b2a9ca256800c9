/- Plain facts on words of a line: bytes, one step, all words from a place on. Nothing of the program is named.
   Plain facts on expressions: trees, how words are read as one (with so many rounds at most), that more rounds change nothing, the rules by which a reading goes. Nothing of the program is named. -/
namespace Go.Proofs.YtomnbidppkpfiaaDoor.Words

structure T where
  kind : Nat
  text : List UInt8
  pos : Nat
  n : Nat
deriving DecidableEq

def letterB (c : UInt8) : Bool := decide (97 ≤ c.toNat) && decide (c.toNat ≤ 122)
def digitB (c : UInt8) : Bool := decide (48 ≤ c.toNat) && decide (c.toNat ≤ 57)
def behindB (c : UInt8) : Bool := letterB c || digitB c || decide (c.toNat = 95)
def blankB (c : UInt8) : Bool := decide (c.toNat = 32) || decide (c.toNat = 9)
def keys : List (List UInt8) := [[105, 110, 116, 101, 103, 101, 114], [100, 111], [101, 110, 100], [105, 102], [116, 104, 101, 110], [101, 108, 115, 101], [114, 101, 97, 100], [112, 114, 105, 110, 116]]
def isKey (s : List UInt8) : Bool := keys.contains s
def num (s : List UInt8) : Nat := s.foldl (fun n c => 10 * n + (c.toNat - 48)) 0
def big : Nat := 9223372036854775807
/-- how long a sign that a text begins with is; 0: none -/
def signLen : List UInt8 → Nat
  | [] => 0
  | c :: r => if c.toNat = 60 ∨ c.toNat = 62 ∨ c.toNat = 61 ∨ c.toNat = 47 then (if r.head? = some 61 then 2 else 1) else if c.toNat = 43 ∨ c.toNat = 45 ∨ c.toNat = 42 ∨ c.toNat = 40 ∨ c.toNat = 41 ∨ c.toNat = 44 then 1 else 0
/-- what a text begins with: a blank; a word of that kind, number, length; something that is wrong there -/
inductive Step
  | blank
  | tok (kind n len : Nat)
  | bad (err off : Nat)
def headIs (p : UInt8 → Bool) : List UInt8 → Bool
  | [] => false
  | c :: _ => p c
def step (s : List UInt8) : Step :=
  if headIs blankB s then .blank
  else if headIs letterB s then
    (if 31 < (s.takeWhile behindB).length then .bad 4 0 else .tok (if isKey (s.takeWhile behindB) then 4 else 1) 0 (s.takeWhile behindB).length)
  else if headIs digitB s then
    (if big < num (s.takeWhile digitB) then .bad 5 0 else if headIs letterB (s.drop (s.takeWhile digitB).length) then .bad 3 (s.takeWhile digitB).length else .tok 2 (num (s.takeWhile digitB)) (s.takeWhile digitB).length)
  else if signLen s = 0 then .bad 3 0 else .tok 3 0 (signLen s)
/-- what comes of words ahead and of the rest -/
def also (l : List T) (x : List T × Nat × Nat) : List T × Nat × Nat := if x.2.1 = 0 then (l ++ x.1, 0, 0) else ([], x.2.1, x.2.2)
def scan : Nat → List UInt8 → Nat → List T × Nat × Nat
  | 0, _, _ => ([], 0, 0)
  | f + 1, s, p => if s = [] then ([], 0, 0) else match step s with
    | .blank => scan f (s.drop 1) (p + 1)
    | .bad e o => ([], e, p + o)
    | .tok kd n k => also [⟨kd, s.take k, p, n⟩] (scan f (s.drop k) (p + k))
/-- the words of a text from place i on: (words, 0, 0), or ([], what is wrong, where) -/
def scanAt (s : List UInt8) (i : Nat) : List T × Nat × Nat := scan (s.length - i) (s.drop i) i
def toks (s : List UInt8) : List T × Nat × Nat := scanAt s 0

theorem also_nil (x : List T × Nat × Nat) (h : x.2.1 = 0 → x.2.2 = 0) (h2 : x.2.1 ≠ 0 → x.1 = []) : also [] x = x := by
  obtain ⟨l, e, a⟩ := x
  unfold also
  by_cases he : e = 0
  · have := h he
    simp only at this
    simp [he, this]
  · have := h2 he
    simp only at this
    simp [he, this]
theorem also_also (l m : List T) (x : List T × Nat × Nat) : also l (also m x) = also (l ++ m) x := by
  obtain ⟨k, e, a⟩ := x
  unfold also
  by_cases he : e = 0
  · simp [he]
  · simp [he]
theorem takeWhile_pos {p : UInt8 → Bool} {s : List UInt8} (h : headIs p s = true) : 0 < (s.takeWhile p).length := by
  cases s with
  | nil => cases h
  | cons c r => rw [List.takeWhile_cons, if_pos (show p c = true from h)]; simp
theorem takeWhile_head {p q : UInt8 → Bool} {s : List UInt8} (hq : ∀ c, p c = true → q c = true) (h : headIs p s = true) : 0 < (s.takeWhile q).length := by
  cases s with
  | nil => cases h
  | cons c r => rw [List.takeWhile_cons, if_pos (hq c h)]; simp
theorem letter_behind (c : UInt8) (h : letterB c = true) : behindB c = true := by unfold behindB; rw [h]; rfl
theorem step_len {s : List UInt8} {kd n k : Nat} (h : step s = .tok kd n k) : 0 < k ∧ k ≤ s.length := by
  unfold step at h
  split at h
  · cases h
  · split at h
    · rename_i hl
      split at h
      · cases h
      · injection h with _ _ h
        subst h
        exact ⟨takeWhile_head letter_behind hl, (List.takeWhile_prefix _).length_le⟩
    · split at h
      · rename_i hd
        split at h
        · cases h
        · split at h
          · cases h
          · injection h with _ _ h
            subst h
            exact ⟨takeWhile_pos hd, (List.takeWhile_prefix _).length_le⟩
      · split at h
        · cases h
        · rename_i hs
          injection h with _ _ h
          subst h
          refine ⟨by omega, ?_⟩
          cases s with
          | nil => simp [signLen]
          | cons c r =>
            simp only [signLen]
            split
            · split
              · rename_i hr
                cases r with
                | nil => cases hr
                | cons _ _ => simp
              · simp
            · split <;> simp
theorem scan_nil (f p : Nat) : scan f [] p = ([], 0, 0) := by cases f <;> rfl
/-- more rounds than are wanted change nothing -/
theorem scan_any : ∀ (n f g : Nat) (s : List UInt8) (p : Nat), s.length ≤ n → s.length ≤ f → s.length ≤ g → scan f s p = scan g s p := by
  intro n
  induction n with
  | zero =>
    intro f g s p h _ _
    have : s = [] := List.length_eq_zero_iff.1 (by omega)
    subst this
    rw [scan_nil, scan_nil]
  | succ n ih =>
    intro f g s p h hf hg
    by_cases hs : s = []
    · subst hs; rw [scan_nil, scan_nil]
    · have h0 : s.length ≠ 0 := fun h => hs (List.length_eq_zero_iff.1 h)
      obtain ⟨f', rfl⟩ : ∃ m, f = m + 1 := ⟨f - 1, by omega⟩
      obtain ⟨g', rfl⟩ : ∃ m, g = m + 1 := ⟨g - 1, by omega⟩
      have hd : ∀ k q, 0 < k → scan f' (s.drop k) q = scan g' (s.drop k) q := fun k q hk => ih f' g' _ q (by rw [List.length_drop]; omega) (by rw [List.length_drop]; omega) (by rw [List.length_drop]; omega)
      unfold scan
      rw [if_neg hs, if_neg hs]
      split
      · exact hd 1 _ (by omega)
      · rfl
      · rename_i kd n' k hk
        rw [hd k _ (step_len hk).1]
theorem scanAt_end (s : List UInt8) (i : Nat) (h : s.length ≤ i) : scanAt s i = ([], 0, 0) := by
  unfold scanAt
  rw [List.drop_of_length_le h, scan_nil]
theorem scanAt_unfold (s : List UInt8) (i : Nat) (h : i < s.length) : scanAt s i = match step (s.drop i) with
    | .blank => scanAt s (i + 1)
    | .bad e o => ([], e, i + o)
    | .tok kd n k => also [⟨kd, (s.drop i).take k, i, n⟩] (scanAt s (i + k)) := by
  have hne : s.drop i ≠ [] := fun h0 => by have := congrArg List.length h0; rw [List.length_drop] at this; simp at this; omega
  obtain ⟨m, hm⟩ : ∃ m, s.length - i = m + 1 := ⟨s.length - i - 1, by omega⟩
  have e0 : scanAt s i = match step (s.drop i) with
      | .blank => scan m ((s.drop i).drop 1) (i + 1)
      | .bad e o => ([], e, i + o)
      | .tok kd n k => also [⟨kd, (s.drop i).take k, i, n⟩] (scan m ((s.drop i).drop k) (i + k)) := by
    unfold scanAt
    rw [hm]
    show (if s.drop i = [] then _ else _) = _
    rw [if_neg hne]
  rw [e0]
  cases hs : step (s.drop i) with
  | blank =>
    show scan m ((s.drop i).drop 1) (i + 1) = scanAt s (i + 1)
    unfold scanAt
    rw [List.drop_drop]
    exact scan_any m m (s.length - (i + 1)) _ _ (by rw [List.length_drop]; omega) (by rw [List.length_drop]; omega) (by rw [List.length_drop]; omega)
  | bad e o => rfl
  | tok kd n k =>
    have := step_len hs
    show also _ (scan m ((s.drop i).drop k) (i + k)) = also _ (scanAt s (i + k))
    unfold scanAt
    rw [List.drop_drop, scan_any m m (s.length - (i + k)) _ _ (by rw [List.length_drop]; omega) (by rw [List.length_drop]; omega) (by rw [List.length_drop]; omega)]
theorem scanAt_blank {s : List UInt8} {i : Nat} (h : i < s.length) (hs : step (s.drop i) = .blank) : scanAt s i = scanAt s (i + 1) := by rw [scanAt_unfold s i h, hs]
theorem scanAt_bad {s : List UInt8} {i e o : Nat} (h : i < s.length) (hs : step (s.drop i) = .bad e o) : scanAt s i = ([], e, i + o) := by rw [scanAt_unfold s i h, hs]
theorem scanAt_tok {s : List UInt8} {i kd n k : Nat} (h : i < s.length) (hs : step (s.drop i) = .tok kd n k) : scanAt s i = also [⟨kd, (s.drop i).take k, i, n⟩] (scanAt s (i + k)) := by rw [scanAt_unfold s i h, hs]
theorem step_err {s : List UInt8} {e o : Nat} (h : step s = .bad e o) : e = 3 ∨ e = 4 ∨ e = 5 := by
  unfold step at h
  split at h
  · cases h
  · split at h
    · split at h
      · injection h with h; omega
      · cases h
    · split at h
      · split at h
        · injection h with h; omega
        · split at h
          · injection h with h; omega
          · cases h
      · split at h
        · injection h with h; omega
        · cases h
/-- by going on from place to place -/
theorem scanAt_ind (s : List UInt8) (P : Nat → Prop) (hend : ∀ i, s.length ≤ i → P i) (hb : ∀ i, i < s.length → step (s.drop i) = .blank → P (i + 1) → P i) (hbad : ∀ i e o, i < s.length → step (s.drop i) = .bad e o → P i)
    (ht : ∀ i kd n k, i < s.length → step (s.drop i) = .tok kd n k → P (i + k) → P i) : ∀ i, P i := by
  have key : ∀ m i, s.length - i ≤ m → P i := by
    intro m
    induction m with
    | zero => intro i h; exact hend i (by omega)
    | succ m ih =>
      intro i h
      by_cases hi : i < s.length
      · cases hs : step (s.drop i) with
        | blank => exact hb i hi hs (ih _ (by omega))
        | bad e o => exact hbad i e o hi hs
        | tok kd n k => have := step_len hs; exact ht i kd n k hi hs (ih _ (by omega))
      · exact hend i (by omega)
  exact fun i => key _ i (Nat.le_refl _)
theorem scanAt_form (s : List UInt8) : ∀ i, ((scanAt s i).2.1 = 0 → (scanAt s i).2.2 = 0) ∧ ((scanAt s i).2.1 ≠ 0 → (scanAt s i).1 = []) := by
  refine scanAt_ind s _ (fun i h => ?_) (fun i h hs ih => ?_) (fun i e o h hs => ?_) (fun i kd n k h hs ih => ?_)
  · rw [scanAt_end s i h]; exact ⟨fun _ => rfl, fun h => absurd rfl h⟩
  · rw [scanAt_blank h hs]; exact ih
  · rw [scanAt_bad h hs]; have := step_err hs; exact ⟨fun h => by simp only at h; omega, fun _ => rfl⟩
  · rw [scanAt_tok h hs]
    unfold also
    split
    · exact ⟨fun _ => rfl, fun h => absurd rfl h⟩
    · rename_i h2; exact ⟨fun h => absurd h h2, fun _ => rfl⟩
/-- where words lie: behind each other, blanks alone between them -/
def Good (s : List UInt8) : Nat → List T → Prop
  | _, [] => True
  | a, t :: l => a ≤ t.pos ∧ t.pos + t.text.length ≤ s.length ∧ t.text = (s.drop t.pos).take t.text.length ∧ (∀ k (h : k < s.length), a ≤ k → k < t.pos → blankB s[k] = true) ∧ Good s (t.pos + t.text.length) l
theorem Good.from {s : List UInt8} {l : List T} {a b : Nat} (h : Good s b l) (hab : a ≤ b) (hbl : ∀ k (h : k < s.length), a ≤ k → k < b → blankB s[k] = true) : Good s a l := by
  cases l with
  | nil => trivial
  | cons t l =>
    obtain ⟨h1, h2, h3, h4, h5⟩ := h
    refine ⟨by omega, h2, h3, fun k hk ha hp => ?_, h5⟩
    by_cases hkb : k < b
    · exact hbl k hk ha hkb
    · exact h4 k hk (by omega) hp
theorem step_blank {s : List UInt8} (h : step s = .blank) : headIs blankB s = true := by
  unfold step at h
  split at h
  · assumption
  · split at h
    · split at h <;> cases h
    · split at h
      · split at h
        · cases h
        · split at h <;> cases h
      · split at h <;> cases h
theorem scanAt_good (s : List UInt8) : ∀ i, (scanAt s i).2.1 = 0 → Good s i (scanAt s i).1 := by
  refine scanAt_ind s _ (fun i h => ?_) (fun i h hs ih => ?_) (fun i e o h hs => ?_) (fun i kd n k h hs ih => ?_)
  · rw [scanAt_end s i h]; exact fun _ => trivial
  · rw [scanAt_blank h hs]
    intro he
    refine (ih he).from (by omega) (fun k hk h1 h2 => ?_)
    obtain rfl : k = i := by omega
    have := step_blank hs
    rw [List.drop_eq_getElem_cons hk] at this
    exact this
  · rw [scanAt_bad h hs]; have := step_err hs; intro h; simp only at h; omega
  · rw [scanAt_tok h hs]
    unfold also
    split
    · rename_i he
      intro _
      have hk := step_len hs
      rw [List.length_drop] at hk
      have hl : ((s.drop i).take k).length = k := by rw [List.length_take, List.length_drop]; omega
      refine ⟨Nat.le_refl _, ?_, ?_, fun k' _ h1 h2 => ?_, ?_⟩
      · show i + ((s.drop i).take k).length ≤ s.length
        rw [hl]; omega
      · show (s.drop i).take k = (s.drop i).take ((s.drop i).take k).length
        rw [hl]
      · simp only at h2; omega
      · show Good s (i + ((s.drop i).take k).length) _
        rw [hl]; exact ih he
    · rename_i h2; exact fun h => absurd h h2
/-- by in place of each name that is name, from place a on -/
def repl (body name by_ : List UInt8) : Nat → List T → List UInt8
  | a, [] => body.drop a
  | a, t :: l => if t.kind = 1 ∧ t.text = name then (body.drop a).take (t.pos - a) ++ by_ ++ repl body name by_ (t.pos + name.length) l else repl body name by_ a l
theorem repl_self (body name : List UInt8) (l : List T) : ∀ a b, a ≤ b → Good body b l → repl body name name a l = body.drop a := by
  induction l with
  | nil => intro a b _ _; rfl
  | cons t l ih =>
    intro a b hab hg
    obtain ⟨h1, h2, h3, h4, h5⟩ := hg
    show (if t.kind = 1 ∧ t.text = name then (body.drop a).take (t.pos - a) ++ name ++ repl body name name (t.pos + name.length) l else repl body name name a l) = _
    split
    · rename_i hn
      obtain ⟨_, rfl⟩ := hn
      rw [ih _ _ (Nat.le_refl _) h5]
      conv => lhs; lhs; rhs; rw [h3]
      have e1 : body.drop (t.pos + t.text.length) = (body.drop t.pos).drop t.text.length := by rw [List.drop_drop]
      have e2 : body.drop t.pos = (body.drop a).drop (t.pos - a) := by rw [List.drop_drop]; congr 1; omega
      rw [e1, List.append_assoc, List.take_append_drop, e2, List.take_append_drop]
    · exact ih a _ (by omega) h5
end Go.Proofs.YtomnbidppkpfiaaDoor.Words

namespace Go.Proofs.YtomnbidppkpfiaaDoor.Ex
set_option linter.unusedVariables false
open Words (T)

inductive E
  | mk (kind : Int) (n : Int) (name : List UInt8) (a : List E)
def E.kind : E → Int | .mk k _ _ _ => k
def E.n : E → Int | .mk _ n _ _ => n
def E.name : E → List UInt8 | .mk _ _ s _ => s
def E.a : E → List E | .mk _ _ _ a => a
theorem E.eta (x : E) : E.mk x.kind x.n x.name x.a = x := by cases x; rfl
def E.none : E := .mk 0 0 [] []

theorem E.ind (P : E → Prop) (h : ∀ x : E, (∀ y ∈ x.a, P y) → P x) : ∀ x, P x := by
  have key : ∀ n, ∀ x : E, sizeOf x ≤ n → P x := by
    intro n
    induction n with
    | zero => intro x hx; cases x; simp at hx
    | succ n ih =>
      intro x hx
      refine h x (fun y hy => ih y ?_)
      cases x with
      | mk k m s a =>
        have h1 := List.sizeOf_lt_of_mem (show y ∈ a from hy)
        simp at hx
        omega
  exact fun x => key _ x (Nat.le_refl _)
/-- a tree that has few parts everywhere -/
inductive Sm : E → Prop
  | mk (x : E) (h : x.a.length ≤ 1000) (hs : ∀ y ∈ x.a, Sm y) : Sm x
theorem Sm.len {x : E} (h : Sm x) : x.a.length ≤ 1000 := by cases h; assumption
theorem Sm.part {x : E} (h : Sm x) : ∀ y ∈ x.a, Sm y := by cases h; assumption
/-- where a reading is; what is wrong (0: nothing), at which word -/
structure St where
  pos : Nat
  err : Nat
  bad : Nat
deriving DecidableEq
def St.fail (s : St) (k e : Nat) : St := if s.err = 0 then ⟨s.pos, e, k⟩ else s
def St.next (s : St) : St := ⟨s.pos + 1, s.err, s.bad⟩
/-- is that sign next? -/
def isSign (l : List T) (s : St) (c : List UInt8) : Bool := decide (s.err = 0) && (match l[s.pos]? with | some t => decide (t.kind = 3) && decide (t.text = c) | none => false)

mutual
def pExpr (l : List T) : Nat → Nat → St → Option (E × St)
  | 0, _, _ => none
  | f + 1, d, s => match pTerm l f d s with
    | some (e, s1) => pSums l f d e s1
    | none => none
def pSums (l : List T) : Nat → Nat → E → St → Option (E × St)
  | 0, _, _, _ => none
  | f + 1, d, e, s =>
    if isSign l s [43] then (match pTerm l f d s.next with
      | some (x, s1) => pSums l f d (.mk 5 0 [] [e, x]) s1
      | none => none)
    else if isSign l s [45] then (match pTerm l f d s.next with
      | some (x, s1) => pSums l f d (.mk 6 0 [] [e, x]) s1
      | none => none)
    else some (e, s)
def pTerm (l : List T) : Nat → Nat → St → Option (E × St)
  | 0, _, _ => none
  | f + 1, d, s => match pFactor l f d s with
    | some (e, s1) => pProds l f d e s1
    | none => none
def pProds (l : List T) : Nat → Nat → E → St → Option (E × St)
  | 0, _, _, _ => none
  | f + 1, d, e, s =>
    if isSign l s [42] then (match pFactor l f d s.next with
      | some (x, s1) => pProds l f d (.mk 7 0 [] [e, x]) s1
      | none => none)
    else if isSign l s [47] then (match pFactor l f d s.next with
      | some (x, s1) => pProds l f d (.mk 8 0 [] [e, x]) s1
      | none => none)
    else some (e, s)
def pFactor (l : List T) : Nat → Nat → St → Option (E × St)
  | 0, _, _ => none
  | f + 1, d, s =>
    if s.err ≠ 0 then some (E.none, s)
    else match l[s.pos]? with
    | none => some (E.none, s.fail s.pos 2)
    | some t =>
      if t.kind = 2 then some (.mk 1 t.n [] [], s.next)
      else if t.kind = 1 then
        (if isSign l s.next [40] then (match pSubs l f d s.next.next with
          | some (xs, s1) => some (.mk 3 0 t.text xs, s1)
          | none => none)
        else some (.mk 2 0 t.text [], s.next))
      else if isSign l s [45] || isSign l s [40] then
        (if 20 ≤ d then some (E.none, s.fail s.pos 4)
        else if isSign l s [45] then (match pFactor l f (d + 1) s.next with
          | some (x, s1) => some (.mk 4 0 [] [x], s1)
          | none => none)
        else (match pExpr l f (d + 1) s.next with
          | some (x, s1) => some (x, if isSign l s1 [41] then s1.next else s1.fail s1.pos 2)
          | none => none))
      else some (E.none, s.fail s.pos 2)
def pSubs (l : List T) : Nat → Nat → St → Option (List E × St)
  | 0, _, _ => none
  | f + 1, d, s => match pExpr l f d s with
    | some (x, s1) => pMore l f d [x] s1
    | none => none
def pMore (l : List T) : Nat → Nat → List E → St → Option (List E × St)
  | 0, _, _, _ => none
  | f + 1, d, xs, s =>
    if isSign l s [44] then
      (if 4 ≤ xs.length then some (xs, s.fail s.pos 4)
      else (match pExpr l f d s.next with
        | some (x, s1) => pMore l f d (xs ++ [x]) s1
        | none => none))
    else some (xs, if isSign l s [41] then s.next else s.fail s.pos 2)
end

def Mono (l : List T) (f : Nat) : Prop :=
  (∀ d s r, pExpr l f d s = some r → pExpr l (f + 1) d s = some r) ∧ (∀ d e s r, pSums l f d e s = some r → pSums l (f + 1) d e s = some r) ∧
  (∀ d s r, pTerm l f d s = some r → pTerm l (f + 1) d s = some r) ∧ (∀ d e s r, pProds l f d e s = some r → pProds l (f + 1) d e s = some r) ∧
  (∀ d s r, pFactor l f d s = some r → pFactor l (f + 1) d s = some r) ∧ (∀ d s r, pSubs l f d s = some r → pSubs l (f + 1) d s = some r) ∧
  (∀ d xs s r, pMore l f d xs s = some r → pMore l (f + 1) d xs s = some r)
theorem mono (l : List T) : ∀ f, Mono l f := by
  intro f
  induction f with
  | zero => exact ⟨fun _ _ _ h => by simp [pExpr] at h, fun _ _ _ _ h => by simp [pSums] at h, fun _ _ _ h => by simp [pTerm] at h, fun _ _ _ _ h => by simp [pProds] at h, fun _ _ _ h => by simp [pFactor] at h, fun _ _ _ h => by simp [pSubs] at h, fun _ _ _ _ h => by simp [pMore] at h⟩
  | succ f ih =>
    obtain ⟨iE, iS, iT, iP, iF, iU, iM⟩ := ih
    refine ⟨?_, ?_, ?_, ?_, ?_, ?_, ?_⟩
    · intro d s r h
      rw [pExpr] at h ⊢
      cases h1 : pTerm l f d s with
      | none => rw [h1] at h; cases h
      | some x => rw [h1] at h; rw [iT _ _ _ h1]; exact iS _ _ _ _ h
    · intro d e s r h
      rw [pSums] at h ⊢
      split
      · rename_i c
        rw [if_pos c] at h
        cases h1 : pTerm l f d s.next with
        | none => rw [h1] at h; cases h
        | some x => rw [h1] at h; rw [iT _ _ _ h1]; exact iS _ _ _ _ h
      · rename_i c
        rw [if_neg c] at h
        split
        · rename_i c2
          rw [if_pos c2] at h
          cases h1 : pTerm l f d s.next with
          | none => rw [h1] at h; cases h
          | some x => rw [h1] at h; rw [iT _ _ _ h1]; exact iS _ _ _ _ h
        · rename_i c2
          rw [if_neg c2] at h
          exact h
    · intro d s r h
      rw [pTerm] at h ⊢
      cases h1 : pFactor l f d s with
      | none => rw [h1] at h; cases h
      | some x => rw [h1] at h; rw [iF _ _ _ h1]; exact iP _ _ _ _ h
    · intro d e s r h
      rw [pProds] at h ⊢
      split
      · rename_i c
        rw [if_pos c] at h
        cases h1 : pFactor l f d s.next with
        | none => rw [h1] at h; cases h
        | some x => rw [h1] at h; rw [iF _ _ _ h1]; exact iP _ _ _ _ h
      · rename_i c
        rw [if_neg c] at h
        split
        · rename_i c2
          rw [if_pos c2] at h
          cases h1 : pFactor l f d s.next with
          | none => rw [h1] at h; cases h
          | some x => rw [h1] at h; rw [iF _ _ _ h1]; exact iP _ _ _ _ h
        · rename_i c2
          rw [if_neg c2] at h
          exact h
    · intro d s r h
      rw [pFactor] at h ⊢
      by_cases c0 : s.err ≠ 0
      · rw [if_pos c0] at h ⊢; exact h
      · rw [if_neg c0] at h ⊢
        cases ht : l[s.pos]? with
        | none => rw [ht] at h; exact h
        | some t =>
          rw [ht] at h
          simp only at h ⊢
          by_cases c1 : t.kind = 2
          · rw [if_pos c1] at h ⊢; exact h
          · rw [if_neg c1] at h ⊢
            by_cases c2 : t.kind = 1
            · rw [if_pos c2] at h ⊢
              by_cases c3 : isSign l s.next [40] = true
              · rw [if_pos c3] at h ⊢
                cases h1 : pSubs l f d s.next.next with
                | none => rw [h1] at h; cases h
                | some x => rw [h1] at h; rw [iU _ _ _ h1]; exact h
              · rw [if_neg c3] at h ⊢; exact h
            · rw [if_neg c2] at h ⊢
              by_cases c3 : (isSign l s [45] || isSign l s [40]) = true
              · rw [if_pos c3] at h ⊢
                by_cases c4 : 20 ≤ d
                · rw [if_pos c4] at h ⊢; exact h
                · rw [if_neg c4] at h ⊢
                  by_cases c5 : isSign l s [45] = true
                  · rw [if_pos c5] at h ⊢
                    cases h1 : pFactor l f (d + 1) s.next with
                    | none => rw [h1] at h; cases h
                    | some x => rw [h1] at h; rw [iF _ _ _ h1]; exact h
                  · rw [if_neg c5] at h ⊢
                    cases h1 : pExpr l f (d + 1) s.next with
                    | none => rw [h1] at h; cases h
                    | some x => rw [h1] at h; rw [iE _ _ _ h1]; exact h
              · rw [if_neg c3] at h ⊢; exact h
    · intro d s r h
      rw [pSubs] at h ⊢
      cases h1 : pExpr l f d s with
      | none => rw [h1] at h; cases h
      | some x => rw [h1] at h; rw [iE _ _ _ h1]; exact iM _ _ _ _ h
    · intro d xs s r h
      rw [pMore] at h ⊢
      by_cases c : isSign l s [44] = true
      · rw [if_pos c] at h ⊢
        by_cases c4 : 4 ≤ xs.length
        · rw [if_pos c4] at h ⊢; exact h
        · rw [if_neg c4] at h ⊢
          cases h1 : pExpr l f d s.next with
          | none => rw [h1] at h; cases h
          | some x => rw [h1] at h; rw [iE _ _ _ h1]; exact iM _ _ _ _ h
      · rw [if_neg c] at h ⊢; exact h

/-! ### a reading, with rounds enough -/
def RExpr (l : List T) (d : Nat) (s : St) (r : E × St) : Prop := ∃ f, pExpr l f d s = some r
def RSums (l : List T) (d : Nat) (e : E) (s : St) (r : E × St) : Prop := ∃ f, pSums l f d e s = some r
def RTerm (l : List T) (d : Nat) (s : St) (r : E × St) : Prop := ∃ f, pTerm l f d s = some r
def RProds (l : List T) (d : Nat) (e : E) (s : St) (r : E × St) : Prop := ∃ f, pProds l f d e s = some r
def RFactor (l : List T) (d : Nat) (s : St) (r : E × St) : Prop := ∃ f, pFactor l f d s = some r
def RSubs (l : List T) (d : Nat) (s : St) (r : List E × St) : Prop := ∃ f, pSubs l f d s = some r
def RMore (l : List T) (d : Nat) (xs : List E) (s : St) (r : List E × St) : Prop := ∃ f, pMore l f d xs s = some r
theorem up {l : List T} {α : Type} (p : Nat → Option α) (hp : ∀ f r, p f = some r → p (f + 1) = some r) {f g : Nat} {r : α} (h : p f = some r) (hg : f ≤ g) : p g = some r := by
  induction g with
  | zero => obtain rfl : f = 0 := by omega
            exact h
  | succ g ih =>
    by_cases e : f = g + 1
    · subst e; exact h
    · exact hp _ _ (ih (by omega))
theorem upE {l : List T} {d : Nat} {s : St} {r : E × St} {f g : Nat} (h : pExpr l f d s = some r) (hg : f ≤ g) : pExpr l g d s = some r := up (l := l) (fun f => pExpr l f d s) (fun f r => (mono l f).1 d s r) h hg
theorem upS {l : List T} {d : Nat} {e : E} {s : St} {r : E × St} {f g : Nat} (h : pSums l f d e s = some r) (hg : f ≤ g) : pSums l g d e s = some r := up (l := l) (fun f => pSums l f d e s) (fun f r => (mono l f).2.1 d e s r) h hg
theorem upT {l : List T} {d : Nat} {s : St} {r : E × St} {f g : Nat} (h : pTerm l f d s = some r) (hg : f ≤ g) : pTerm l g d s = some r := up (l := l) (fun f => pTerm l f d s) (fun f r => (mono l f).2.2.1 d s r) h hg
theorem upP {l : List T} {d : Nat} {e : E} {s : St} {r : E × St} {f g : Nat} (h : pProds l f d e s = some r) (hg : f ≤ g) : pProds l g d e s = some r := up (l := l) (fun f => pProds l f d e s) (fun f r => (mono l f).2.2.2.1 d e s r) h hg
theorem upF {l : List T} {d : Nat} {s : St} {r : E × St} {f g : Nat} (h : pFactor l f d s = some r) (hg : f ≤ g) : pFactor l g d s = some r := up (l := l) (fun f => pFactor l f d s) (fun f r => (mono l f).2.2.2.2.1 d s r) h hg
theorem upU {l : List T} {d : Nat} {s : St} {r : List E × St} {f g : Nat} (h : pSubs l f d s = some r) (hg : f ≤ g) : pSubs l g d s = some r := up (l := l) (fun f => pSubs l f d s) (fun f r => (mono l f).2.2.2.2.2.1 d s r) h hg
theorem upM {l : List T} {d : Nat} {xs : List E} {s : St} {r : List E × St} {f g : Nat} (h : pMore l f d xs s = some r) (hg : f ≤ g) : pMore l g d xs s = some r := up (l := l) (fun f => pMore l f d xs s) (fun f r => (mono l f).2.2.2.2.2.2 d xs s r) h hg
theorem RExpr.det {l : List T} {d : Nat} {s : St} {r r' : E × St} (h : RExpr l d s r) (h' : RExpr l d s r') : r = r' := by
  obtain ⟨f, h⟩ := h
  obtain ⟨g, h'⟩ := h'
  have h1 := upE h (Nat.le_max_left f g)
  have h2 := upE h' (Nat.le_max_right f g)
  rw [h1] at h2
  exact Option.some.inj h2
theorem rExpr {l : List T} {d : Nat} {s s1 : St} {e : E} {r : E × St} (h1 : RTerm l d s (e, s1)) (h2 : RSums l d e s1 r) : RExpr l d s r := by
  obtain ⟨f, h1⟩ := h1
  obtain ⟨g, h2⟩ := h2
  refine ⟨max f g + 1, ?_⟩
  rw [pExpr, upT h1 (Nat.le_max_left f g)]
  exact upS h2 (Nat.le_max_right f g)
theorem rSums_add {l : List T} {d : Nat} {e x : E} {s s1 : St} {r : E × St} (c : isSign l s [43] = true) (h1 : RTerm l d s.next (x, s1)) (h2 : RSums l d (.mk 5 0 [] [e, x]) s1 r) : RSums l d e s r := by
  obtain ⟨f, h1⟩ := h1
  obtain ⟨g, h2⟩ := h2
  refine ⟨max f g + 1, ?_⟩
  rw [pSums, if_pos c, upT h1 (Nat.le_max_left f g)]
  exact upS h2 (Nat.le_max_right f g)
theorem rSums_sub {l : List T} {d : Nat} {e x : E} {s s1 : St} {r : E × St} (c : isSign l s [43] = false) (c2 : isSign l s [45] = true) (h1 : RTerm l d s.next (x, s1)) (h2 : RSums l d (.mk 6 0 [] [e, x]) s1 r) : RSums l d e s r := by
  obtain ⟨f, h1⟩ := h1
  obtain ⟨g, h2⟩ := h2
  refine ⟨max f g + 1, ?_⟩
  rw [pSums, if_neg (by rw [c]; decide), if_pos c2, upT h1 (Nat.le_max_left f g)]
  exact upS h2 (Nat.le_max_right f g)
theorem rSums_end {l : List T} {d : Nat} {e : E} {s : St} (c : isSign l s [43] = false) (c2 : isSign l s [45] = false) : RSums l d e s (e, s) := by
  refine ⟨1, ?_⟩
  rw [pSums, if_neg (by rw [c]; decide), if_neg (by rw [c2]; decide)]
theorem rTerm {l : List T} {d : Nat} {s s1 : St} {e : E} {r : E × St} (h1 : RFactor l d s (e, s1)) (h2 : RProds l d e s1 r) : RTerm l d s r := by
  obtain ⟨f, h1⟩ := h1
  obtain ⟨g, h2⟩ := h2
  refine ⟨max f g + 1, ?_⟩
  rw [pTerm, upF h1 (Nat.le_max_left f g)]
  exact upP h2 (Nat.le_max_right f g)
theorem rProds_mul {l : List T} {d : Nat} {e x : E} {s s1 : St} {r : E × St} (c : isSign l s [42] = true) (h1 : RFactor l d s.next (x, s1)) (h2 : RProds l d (.mk 7 0 [] [e, x]) s1 r) : RProds l d e s r := by
  obtain ⟨f, h1⟩ := h1
  obtain ⟨g, h2⟩ := h2
  refine ⟨max f g + 1, ?_⟩
  rw [pProds, if_pos c, upF h1 (Nat.le_max_left f g)]
  exact upP h2 (Nat.le_max_right f g)
theorem rProds_div {l : List T} {d : Nat} {e x : E} {s s1 : St} {r : E × St} (c : isSign l s [42] = false) (c2 : isSign l s [47] = true) (h1 : RFactor l d s.next (x, s1)) (h2 : RProds l d (.mk 8 0 [] [e, x]) s1 r) : RProds l d e s r := by
  obtain ⟨f, h1⟩ := h1
  obtain ⟨g, h2⟩ := h2
  refine ⟨max f g + 1, ?_⟩
  rw [pProds, if_neg (by rw [c]; decide), if_pos c2, upF h1 (Nat.le_max_left f g)]
  exact upP h2 (Nat.le_max_right f g)
theorem rProds_end {l : List T} {d : Nat} {e : E} {s : St} (c : isSign l s [42] = false) (c2 : isSign l s [47] = false) : RProds l d e s (e, s) := by
  refine ⟨1, ?_⟩
  rw [pProds, if_neg (by rw [c]; decide), if_neg (by rw [c2]; decide)]
theorem rFactor_bad {l : List T} {d : Nat} {s : St} (c : s.err ≠ 0) : RFactor l d s (E.none, s) := ⟨1, by rw [pFactor, if_pos c]⟩
theorem rFactor_out {l : List T} {d : Nat} {s : St} (c : s.err = 0) (h : l.length ≤ s.pos) : RFactor l d s (E.none, s.fail s.pos 2) := ⟨1, by rw [pFactor, if_neg (by simp [c]), List.getElem?_eq_none h]⟩
theorem rFactor_num {l : List T} {d : Nat} {s : St} (c : s.err = 0) (h : s.pos < l.length) (k : l[s.pos].kind = 2) : RFactor l d s (.mk 1 l[s.pos].n [] [], s.next) := ⟨1, by rw [pFactor, if_neg (by simp [c]), List.getElem?_eq_getElem h]; simp only; rw [if_pos k]⟩
theorem rFactor_var {l : List T} {d : Nat} {s : St} (c : s.err = 0) (h : s.pos < l.length) (k : l[s.pos].kind = 1) (c2 : isSign l s.next [40] = false) : RFactor l d s (.mk 2 0 l[s.pos].text [], s.next) := ⟨1, by rw [pFactor, if_neg (by simp [c]), List.getElem?_eq_getElem h]; simp only; rw [if_neg (by omega), if_pos k, if_neg (by rw [c2]; decide)]⟩
theorem rFactor_elem {l : List T} {d : Nat} {s s1 : St} {xs : List E} (c : s.err = 0) (h : s.pos < l.length) (k : l[s.pos].kind = 1) (c2 : isSign l s.next [40] = true) (h1 : RSubs l d s.next.next (xs, s1)) : RFactor l d s (.mk 3 0 l[s.pos].text xs, s1) := by
  obtain ⟨f, h1⟩ := h1
  refine ⟨f + 1, ?_⟩
  rw [pFactor, if_neg (by simp [c]), List.getElem?_eq_getElem h]
  simp only
  rw [if_neg (by omega), if_pos k, if_pos c2, h1]
theorem rFactor_long {l : List T} {d : Nat} {s : St} (c : s.err = 0) (h : s.pos < l.length) (k1 : l[s.pos].kind ≠ 1) (k2 : l[s.pos].kind ≠ 2) (c2 : isSign l s [45] = true ∨ isSign l s [40] = true) (hd : 20 ≤ d) : RFactor l d s (E.none, s.fail s.pos 4) := by
  refine ⟨1, ?_⟩
  rw [pFactor, if_neg (by simp [c]), List.getElem?_eq_getElem h]
  simp only
  rw [if_neg k2, if_neg k1, if_pos (by rcases c2 with c2 | c2 <;> simp [c2]), if_pos hd]
theorem rFactor_neg {l : List T} {d : Nat} {s s1 : St} {x : E} (c : s.err = 0) (h : s.pos < l.length) (k1 : l[s.pos].kind ≠ 1) (k2 : l[s.pos].kind ≠ 2) (c2 : isSign l s [45] = true) (hd : ¬ 20 ≤ d) (h1 : RFactor l (d + 1) s.next (x, s1)) : RFactor l d s (.mk 4 0 [] [x], s1) := by
  obtain ⟨f, h1⟩ := h1
  refine ⟨f + 1, ?_⟩
  rw [pFactor, if_neg (by simp [c]), List.getElem?_eq_getElem h]
  simp only
  rw [if_neg k2, if_neg k1, if_pos (by simp [c2]), if_neg hd, if_pos c2, h1]
theorem rFactor_round {l : List T} {d : Nat} {s s1 : St} {x : E} (c : s.err = 0) (h : s.pos < l.length) (k1 : l[s.pos].kind ≠ 1) (k2 : l[s.pos].kind ≠ 2) (c2 : isSign l s [45] = false) (c3 : isSign l s [40] = true) (hd : ¬ 20 ≤ d) (h1 : RExpr l (d + 1) s.next (x, s1)) : RFactor l d s (x, if isSign l s1 [41] then s1.next else s1.fail s1.pos 2) := by
  obtain ⟨f, h1⟩ := h1
  refine ⟨f + 1, ?_⟩
  rw [pFactor, if_neg (by simp [c]), List.getElem?_eq_getElem h]
  simp only
  rw [if_neg k2, if_neg k1, if_pos (by simp [c3]), if_neg hd, if_neg (by rw [c2]; decide), h1]
theorem rFactor_none {l : List T} {d : Nat} {s : St} (c : s.err = 0) (h : s.pos < l.length) (k1 : l[s.pos].kind ≠ 1) (k2 : l[s.pos].kind ≠ 2) (c2 : isSign l s [45] = false) (c3 : isSign l s [40] = false) : RFactor l d s (E.none, s.fail s.pos 2) := by
  refine ⟨1, ?_⟩
  rw [pFactor, if_neg (by simp [c]), List.getElem?_eq_getElem h]
  simp only
  rw [if_neg k2, if_neg k1, if_neg (by simp [c2, c3])]
theorem rSubs {l : List T} {d : Nat} {s s1 : St} {e : E} {r : List E × St} (h1 : RExpr l d s (e, s1)) (h2 : RMore l d [e] s1 r) : RSubs l d s r := by
  obtain ⟨f, h1⟩ := h1
  obtain ⟨g, h2⟩ := h2
  refine ⟨max f g + 1, ?_⟩
  rw [pSubs, upE h1 (Nat.le_max_left f g)]
  exact upM h2 (Nat.le_max_right f g)
theorem rMore_more {l : List T} {d : Nat} {xs : List E} {x : E} {s s1 : St} {r : List E × St} (c : isSign l s [44] = true) (h4 : ¬ 4 ≤ xs.length) (h1 : RExpr l d s.next (x, s1)) (h2 : RMore l d (xs ++ [x]) s1 r) : RMore l d xs s r := by
  obtain ⟨f, h1⟩ := h1
  obtain ⟨g, h2⟩ := h2
  refine ⟨max f g + 1, ?_⟩
  rw [pMore, if_pos c, if_neg h4, upE h1 (Nat.le_max_left f g)]
  exact upM h2 (Nat.le_max_right f g)
theorem rMore_long {l : List T} {d : Nat} {xs : List E} {s : St} (c : isSign l s [44] = true) (h4 : 4 ≤ xs.length) : RMore l d xs s (xs, s.fail s.pos 4) := ⟨1, by rw [pMore, if_pos c, if_pos h4]⟩
theorem rMore_end {l : List T} {d : Nat} {xs : List E} {s : St} (c : isSign l s [44] = false) : RMore l d xs s (xs, if isSign l s [41] then s.next else s.fail s.pos 2) := ⟨1, by rw [pMore, if_neg (by rw [c]; decide)]⟩
end Go.Proofs.YtomnbidppkpfiaaDoor.Ex
