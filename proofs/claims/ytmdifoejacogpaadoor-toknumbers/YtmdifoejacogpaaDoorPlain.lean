/- Plain facts on texts as lists of bytes: lines, which line may not be, a line's parts, its indent. Nothing of the program is named. -/
import Derived.Lib.Strings
import Derived.Lib.Bytealg
namespace Go.Proofs.YtmdifoejacogpaaDoor.Plain
open Go

/-- the length of the first line, its end counted -/
def fl : List UInt8 → Nat
  | [] => 0
  | c :: r => if c = 10 then 1 else fl r + 1
/-- a text in lines, each with its end -/
def lines : List UInt8 → List (List UInt8)
  | [] => []
  | c :: r => if c = 10 then [c] :: lines r else match lines r with
    | [] => [[c]]
    | l :: ls => (c :: l) :: ls
/-- may the byte stand in a text? -/
def okB (c : UInt8) : Bool := (decide (32 ≤ c.toNat) && decide (c.toNat ≤ 126)) || (c.toNat == 9) || (c.toNat == 10)
/-- a line's error: 4: too long; 3: a byte that may not be; 0: none -/
def bad (l : List UInt8) : Nat := if 200 < l.length then 4 else if l.all okB then 0 else 3
def errOf : List (List UInt8) → Nat
  | [] => 0
  | l :: ls => if bad l = 0 then errOf ls else bad l
def atOf : List (List UInt8) → Nat
  | [] => 0
  | l :: ls => if bad l = 0 then atOf ls + 1 else 0
/-- a text's error, its place, its word, its lines -/
def errS (s : List UInt8) : Nat := if 65536 < s.length then 4 else errOf (lines s)
def atS (s : List UInt8) : Nat := if 65536 < s.length then 0 else if errOf (lines s) = 0 then 0 else atOf (lines s)
def wordS (s : List UInt8) : List UInt8 := if 65536 < s.length then [116, 101, 120, 116] else [108, 105, 110, 101]
def rowS (s : List UInt8) : List (List UInt8) := if errS s = 0 then lines s else []

theorem fl_le (l : List UInt8) : fl l ≤ l.length := by
  induction l with
  | nil => simp [fl]
  | cons c r ih => unfold fl; split <;> simp <;> omega
theorem fl_pos (l : List UInt8) (h : l ≠ []) : 0 < fl l := by
  cases l with
  | nil => exact absurd rfl h
  | cons c r => unfold fl; split <;> omega
theorem fl_idx (l : List UInt8) : (0 ≤ Lib.indexByte l 10 → (fl l : Int) = Lib.indexByte l 10 + 1) ∧ (¬ 0 ≤ Lib.indexByte l 10 → fl l = l.length) := by
  induction l with
  | nil => simp [fl, Lib.indexByte]
  | cons c r ih =>
    have hg := Lib.indexByte_ge r 10
    unfold fl Lib.indexByte
    by_cases hc : c = 10
    · simp [hc]
    · have hc' : (c == 10) = false := by simpa using hc
      simp only [hc', if_neg hc, Bool.false_eq_true, if_false]
      by_cases h : Lib.indexByte r 10 = -1
      · simp [h]; have := ih.2 (by omega); omega
      · have h' : (Lib.indexByte r 10 == -1) = false := by simpa using h
        simp only [h', Bool.false_eq_true, if_false, List.length_cons]
        have := ih.1 (by omega)
        constructor <;> intro _ <;> omega
theorem fl_at (l : List UInt8) (k : Nat) (hk : k < l.length) (h : l[k] = 10) (hno : ∀ j (hj : j < k), l[j]'(by omega) ≠ 10) : fl l = k + 1 := by
  induction l generalizing k with
  | nil => simp at hk
  | cons c r ih =>
    unfold fl
    cases k with
    | zero => simp at h; simp [h]
    | succ k =>
      have h0 : c ≠ 10 := hno 0 (by omega)
      rw [if_neg h0, ih k (by simpa using hk) (by simpa using h) (fun j hj => by simpa using hno (j + 1) (by omega))]
theorem fl_all (l : List UInt8) (hno : ∀ j (hj : j < l.length), l[j] ≠ 10) : fl l = l.length := by
  induction l with
  | nil => rfl
  | cons c r ih =>
    unfold fl
    have h0 : c ≠ 10 := hno 0 (by simp)
    rw [if_neg h0, ih (fun j hj => hno (j + 1) (by simpa using hj))]
    rfl
theorem lines_step (l : List UInt8) (h : l ≠ []) : lines l = l.take (fl l) :: lines (l.drop (fl l)) := by
  induction l with
  | nil => exact absurd rfl h
  | cons c r ih =>
    by_cases hc : c = 10
    · simp [lines, fl, hc]
    · have e1 : fl (c :: r) = fl r + 1 := by simp [fl, hc]
      rw [e1, List.take_succ_cons, List.drop_succ_cons]
      conv => lhs; unfold lines
      rw [if_neg hc]
      by_cases hr : r = []
      · subst hr; simp [lines, fl]
      · rw [ih hr]
theorem lines_nil : lines [] = [] := rfl
theorem lines_ne (l : List UInt8) (h : l ≠ []) : lines l ≠ [] := by rw [lines_step l h]; simp
theorem flatten_lines (l : List UInt8) : (lines l).flatten = l := by
  induction l with
  | nil => rfl
  | cons c r ih =>
    unfold lines
    by_cases hc : c = 10
    · simp [hc, ih]
    · rw [if_neg hc]
      cases hl : lines r with
      | nil => rw [hl] at ih; simp at ih; simp [← ih]
      | cons a b => rw [hl] at ih; simp at ih; simp [ih]
theorem lines_append (a b : List UInt8) (h : a = [] ∨ a.getLast? = some 10) : lines (a ++ b) = lines a ++ lines b := by
  induction a with
  | nil => rfl
  | cons c r ih =>
    rw [List.cons_append]
    conv => lhs; unfold lines
    conv => rhs; lhs; unfold lines
    by_cases hc : c = 10
    · rw [if_pos hc, if_pos hc]
      have : r = [] ∨ r.getLast? = some 10 := by
        rcases h with h | h
        · cases h
        · by_cases hr : r = []
          · exact .inl hr
          · right; rwa [List.getLast?_cons_of_ne_nil hr] at h
      rw [ih this]; rfl
    · rw [if_neg hc, if_neg hc]
      have hr : r ≠ [] := by
        intro hr; subst hr
        rcases h with h | h
        · cases h
        · simp at h; exact hc h
      have h2 : r.getLast? = some 10 := by
        rcases h with h | h
        · cases h
        · rwa [List.getLast?_cons_of_ne_nil hr] at h
      rw [ih (.inr h2)]
      have := lines_ne r hr
      cases hl : lines r with
      | nil => exact absurd hl this
      | cons x y => simp
theorem lines_length_le (l : List UInt8) : (lines l).length ≤ l.length := by
  induction l with
  | nil => simp [lines]
  | cons c r ih =>
    unfold lines
    split
    · simp; omega
    · split <;> simp_all <;> omega
theorem lines_mem_le (l : List UInt8) : ∀ x ∈ lines l, x.length ≤ l.length := by
  intro x hx
  have h := flatten_lines l
  have : x.length ≤ (lines l).flatten.length := by
    exact (List.sublist_flatten_of_mem hx).length_le
  rwa [h] at this

theorem bad_range (l : List UInt8) : bad l = 0 ∨ bad l = 3 ∨ bad l = 4 := by
  unfold bad
  split
  · exact .inr (.inr rfl)
  · split
    · exact .inl rfl
    · exact .inr (.inl rfl)
theorem bad_long (l : List UInt8) (h : 200 < l.length) : bad l = 4 := by simp [bad, h]
theorem bad_word (l : List UInt8) (h : ¬ 200 < l.length) (k : Nat) (hk : k < l.length) (hb : okB l[k] = false) : bad l = 3 := by
  unfold bad
  rw [if_neg h, if_neg]
  intro hall
  have := List.all_eq_true.1 hall _ (List.getElem_mem hk)
  rw [hb] at this; cases this
theorem bad_none (l : List UInt8) (h : ¬ 200 < l.length) (hb : ∀ k (hk : k < l.length), okB l[k] = true) : bad l = 0 := by
  unfold bad
  rw [if_neg h, if_pos]
  rw [List.all_eq_true]
  intro x hx
  obtain ⟨k, hk, rfl⟩ := List.getElem_of_mem hx
  exact hb k hk

theorem errOf_append (ds ls : List (List UInt8)) (h : ∀ d ∈ ds, bad d = 0) : errOf (ds ++ ls) = errOf ls := by
  induction ds with
  | nil => rfl
  | cons d ds ih => simp [errOf, h d (by simp), ih (fun x hx => h x (by simp [hx]))]
theorem atOf_append (ds ls : List (List UInt8)) (h : ∀ d ∈ ds, bad d = 0) : atOf (ds ++ ls) = ds.length + atOf ls := by
  induction ds with
  | nil => simp
  | cons d ds ih => simp [atOf, h d (by simp), ih (fun x hx => h x (by simp [hx]))]; omega
theorem errOf_hit (d : List UInt8) (ls : List (List UInt8)) (h : bad d ≠ 0) : errOf (d :: ls) = bad d ∧ atOf (d :: ls) = 0 := by simp [errOf, atOf, h]
theorem errOf_zero (ds : List (List UInt8)) : errOf ds = 0 ↔ ∀ d ∈ ds, bad d = 0 := by
  induction ds with
  | nil => simp [errOf]
  | cons d ds ih =>
    by_cases hd : bad d = 0
    · simp [errOf, hd, ih]
    · simp [errOf, hd]
theorem errOf_range (ls : List (List UInt8)) : errOf ls = 0 ∨ errOf ls = 3 ∨ errOf ls = 4 := by
  induction ls with
  | nil => simp [errOf]
  | cons d ds ih => unfold errOf; split; exact ih; exact bad_range d
theorem err_at (ls : List (List UInt8)) (i : Nat) (hi : i < ls.length) (hno : ∀ j (hj : j < i), bad (ls[j]'(by omega)) = 0) (hb : bad ls[i] ≠ 0) : errOf ls = bad ls[i] ∧ atOf ls = i := by
  have e : ls = ls.take i ++ (ls[i] :: ls.drop (i + 1)) := by rw [List.getElem_cons_drop]; simp
  have h : ∀ d ∈ ls.take i, bad d = 0 := by
    intro d hd
    obtain ⟨j, hj, rfl⟩ := List.getElem_of_mem hd
    rw [List.getElem_take]
    exact hno j (by simp at hj; omega)
  have h2 := errOf_hit ls[i] (ls.drop (i + 1)) hb
  have h3 : errOf ls = errOf (ls.take i ++ (ls[i] :: ls.drop (i + 1))) := congrArg errOf e
  have h4 : atOf ls = atOf (ls.take i ++ (ls[i] :: ls.drop (i + 1))) := congrArg atOf e
  rw [h3, h4, errOf_append _ _ h, atOf_append _ _ h, h2.1, h2.2]
  simp
  omega
theorem errS_range (s : List UInt8) : errS s = 0 ∨ errS s = 3 ∨ errS s = 4 := by unfold errS; split; simp; exact errOf_range _
theorem errS_long (s : List UInt8) (h : 65536 < s.length) : errS s = 4 ∧ atS s = 0 ∧ wordS s = [116, 101, 120, 116] ∧ rowS s = [] := by simp [errS, atS, wordS, rowS, h]
theorem errS_ok (s : List UInt8) (h : ¬ 65536 < s.length) (h2 : ∀ d ∈ lines s, bad d = 0) : errS s = 0 ∧ rowS s = lines s := by
  have := (errOf_zero (lines s)).2 h2
  simp [errS, rowS, h, this]
theorem errS_bad (s : List UInt8) (h : ¬ 65536 < s.length) (k e : Nat) (h1 : errOf (lines s) = e) (h2 : atOf (lines s) = k) (h0 : e ≠ 0) : errS s = e ∧ atS s = k ∧ wordS s = [108, 105, 110, 101] ∧ rowS s = [] := by
  simp [errS, atS, wordS, rowS, h, h1, h2, h0]
theorem rowS_le (s : List UInt8) : (rowS s).length ≤ s.length := by
  unfold rowS; split; exact lines_length_le s; simp

/-! ### parts -/
def core (s : List UInt8) : List UInt8 := if s.getLast? = some 10 then s.dropLast else s
def endOf (s : List UInt8) : List UInt8 := if s.getLast? = some 10 then [10] else []
def bodyOf (s : List UInt8) : List UInt8 := (core s).takeWhile (fun c => decide (c ≠ 33))
def noteOf (s : List UInt8) : List UInt8 := (core s).dropWhile (fun c => decide (c ≠ 33))
def blankB (c : UInt8) : Bool := c == 32 || c == 9
def indentOf (s : List UInt8) : List UInt8 := s.takeWhile blankB

theorem core_end (s : List UInt8) : core s ++ endOf s = s := by
  unfold core endOf
  by_cases h : s.getLast? = some 10
  · rw [if_pos h, if_pos h]
    obtain ⟨r, rfl⟩ := List.getLast?_eq_some_iff.1 h
    simp
  · simp [h]
theorem parts_join (s : List UInt8) : bodyOf s ++ noteOf s ++ endOf s = s := by
  unfold bodyOf noteOf; rw [List.takeWhile_append_dropWhile]; exact core_end s
theorem while_mem (p : UInt8 → Bool) (l : List UInt8) : ∀ x ∈ l.takeWhile p, p x = true := by
  induction l with
  | nil => simp
  | cons c r ih =>
    intro x hx
    rw [List.takeWhile_cons] at hx
    by_cases hc : p c = true
    · rw [if_pos hc] at hx
      rcases List.mem_cons.1 hx with rfl | h
      · exact hc
      · exact ih x h
    · rw [if_neg hc] at hx; cases hx
theorem body_no (s : List UInt8) : ∀ (j : Nat) (h : j < (bodyOf s).length), (bodyOf s)[j] ≠ 33 := by
  intro j h
  have := while_mem _ _ _ (List.getElem_mem h)
  simpa using this
/-- where a byte stands: what stands ahead of it -/
theorem idx_while (l : List UInt8) (c : UInt8) : (0 ≤ Lib.indexByte l c → ((l.takeWhile (fun x => decide (x ≠ c))).length : Int) = Lib.indexByte l c ∧ (Lib.indexByte l c : Int) < l.length) ∧ (¬ 0 ≤ Lib.indexByte l c → l.takeWhile (fun x => decide (x ≠ c)) = l ∧ l.dropWhile (fun x => decide (x ≠ c)) = []) := by
  induction l with
  | nil => simp [Lib.indexByte]
  | cons b r ih =>
    have hg := Lib.indexByte_ge r c
    unfold Lib.indexByte
    by_cases hc : b = c
    · simp [hc]
    · have hc' : (b == c) = false := by simpa using hc
      have hd : decide (b ≠ c) = true := by simpa using hc
      simp only [hc', Bool.false_eq_true, if_false, List.takeWhile_cons, hd, List.dropWhile_cons]
      by_cases h : Lib.indexByte r c = -1
      · have := ih.2 (by omega)
        simp only [h, this.1, this.2]
        simp
      · have h' : (Lib.indexByte r c == -1) = false := by simpa using h
        simp only [h', Bool.false_eq_true, if_false, if_true, List.length_cons]
        have := ih.1 (by omega)
        constructor
        · intro _; constructor <;> omega
        · intro _; omega
theorem take_while (l : List UInt8) (p : UInt8 → Bool) : l.take (l.takeWhile p).length = l.takeWhile p ∧ l.drop (l.takeWhile p).length = l.dropWhile p := by
  have h := List.takeWhile_append_dropWhile (p := p) (l := l)
  constructor
  · have := List.take_left (l₁ := l.takeWhile p) (l₂ := l.dropWhile p); rwa [h] at this
  · have := List.drop_left (l₁ := l.takeWhile p) (l₂ := l.dropWhile p); rwa [h] at this
theorem while_at (l : List UInt8) (p : UInt8 → Bool) (i : Nat) (hi : i ≤ l.length) (h1 : ∀ j (hj : j < i), p (l[j]'(by omega)) = true) (h2 : ∀ (h : i < l.length), p l[i] = false) : (l.takeWhile p).length = i := by
  induction l generalizing i with
  | nil => simp at hi; simp [hi]
  | cons c r ih =>
    cases i with
    | zero => have := h2 (by simp); simp at this; simp [this]
    | succ i =>
      have h0 : p c = true := h1 0 (by omega)
      simp only [List.takeWhile_cons, h0, if_true, List.length_cons]
      rw [ih i (by simpa using hi) (fun j hj => h1 (j + 1) (by omega)) (fun h => h2 (by simpa using h))]
end Go.Proofs.YtmdifoejacogpaaDoor.Plain
