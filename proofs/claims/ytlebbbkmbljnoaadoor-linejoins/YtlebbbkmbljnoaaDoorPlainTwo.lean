/- Plain facts on the texts that LineBytes, LineLong and LineJoins make. -/
import Derived.Test.YtlebbbkmbljnoaaDoorPlain
namespace Go.Proofs.YtlebbbkmbljnoaaDoor.Plain
open Go

theorem mem_lines {l x : List UInt8} (hx : x ∈ lines l) {c : UInt8} (hc : c ∈ x) : c ∈ l := by
  have h := flatten_lines l
  rw [← h]
  exact List.mem_flatten.2 ⟨x, hx, hc⟩
theorem bad_small (x : List UInt8) (h : x.length ≤ 200) (hok : ∀ c ∈ x, okB c = true) : bad x = 0 :=
  bad_none x (by omega) (fun k hk => hok _ (List.getElem_mem hk))
theorem errOf_small (l : List UInt8) (h : l.length ≤ 200) (hok : ∀ c ∈ l, okB c = true) : errOf (lines l) = 0 :=
  (errOf_zero _).2 (fun x hx => bad_small x (Nat.le_trans (lines_mem_le l x hx) h) (fun c hc => hok c (mem_lines hx hc)))
theorem errS_small (l : List UInt8) (h : l.length ≤ 200) (hok : ∀ c ∈ l, okB c = true) : errS l = 0 := by
  unfold errS; rw [if_neg (by omega)]; exact errOf_small l h hok

/-! ### LineBytes -/
def X : List UInt8 := [120, 32, 61, 32, 49, 10]
def rep (a : Nat) : List UInt8 := (List.replicate a X).flatten
theorem rep_succ (a : Nat) : rep (a + 1) = rep a ++ X := by
  unfold rep
  rw [List.replicate_succ', List.flatten_append]
  simp
theorem rep_len (a : Nat) : (rep a).length = 6 * a := by
  induction a with
  | zero => rfl
  | succ a ih => rw [rep_succ, List.length_append, ih]; show 6 * a + 6 = _; omega
theorem rep_ok (a : Nat) : ∀ c ∈ rep a, okB c = true := by
  induction a with
  | zero => simp [rep]
  | succ a ih =>
    intro c hc
    rw [rep_succ] at hc
    rcases List.mem_append.1 hc with h | h
    · exact ih c h
    · have : ∀ c ∈ X, okB c = true := by decide
      exact this c h
theorem rep_last (a : Nat) : rep a = [] ∨ (rep a).getLast? = some 10 := by
  cases a with
  | zero => exact .inl rfl
  | succ a => right; rw [rep_succ]; simp [X]
theorem lines_rep (a : Nat) : lines (rep a) = List.replicate a X := by
  induction a with
  | zero => rfl
  | succ a ih =>
    rw [rep_succ, lines_append _ _ (rep_last a), ih, List.replicate_succ']
    rfl
/-- the text that LineBytes makes -/
def bytesText (a k : Nat) (b : UInt8) : List UInt8 := rep a ++ (List.replicate k 121 ++ [b] ++ [122, 10])
theorem bytes_len (a k : Nat) (b : UInt8) : (bytesText a k b).length = 6 * a + k + 3 := by
  unfold bytesText; simp [rep_len]; omega
theorem bytes_ok (a k : Nat) (b : UInt8) (ha : a < 10) (hk : k < 30) (hb : okB b = true) : errS (bytesText a k b) = 0 := by
  refine errS_small _ (by rw [bytes_len]; omega) ?_
  intro c hc
  unfold bytesText at hc
  rcases List.mem_append.1 hc with h | h
  · exact rep_ok a c h
  · simp at h
    rcases h with h | h | h | h
    · rw [h.2]; decide
    · rw [h]; exact hb
    · rw [h]; decide
    · rw [h]; decide
theorem lines_one (l : List UInt8) (h : ∀ c ∈ l, c ≠ 10) : lines (l ++ [10]) = [l ++ [10]] := by
  induction l with
  | nil => rfl
  | cons c r ih =>
    rw [List.cons_append]
    unfold lines
    rw [if_neg (h c (by simp)), ih (fun x hx => h x (by simp [hx]))]
theorem bytes_bad (a k : Nat) (b : UInt8) (ha : a < 10) (hk : k < 30) (hb : okB b = false) : errS (bytesText a k b) = 3 ∧ atS (bytesText a k b) = a ∧ wordS (bytesText a k b) = [108, 105, 110, 101] := by
  have hb10 : b ≠ 10 := by intro h; rw [h] at hb; cases hb
  have hm : lines (List.replicate k 121 ++ [b] ++ [122, 10]) = [List.replicate k 121 ++ [b] ++ [122, 10]] := by
    have := lines_one (List.replicate k 121 ++ [b] ++ [122]) (by
      intro c hc
      simp at hc
      rcases hc with h | h | h
      · rw [h.2]; decide
      · rw [h]; exact hb10
      · rw [h]; decide)
    simpa using this
  have hl : lines (bytesText a k b) = List.replicate a X ++ [List.replicate k 121 ++ [b] ++ [122, 10]] := by
    unfold bytesText
    rw [lines_append _ _ (rep_last a), lines_rep, hm]
  have h0 : ∀ d ∈ List.replicate a X, bad d = 0 := by
    intro d hd
    rw [(List.mem_replicate.1 hd).2]
    decide
  have h3 : bad (List.replicate k 121 ++ [b] ++ [122, 10]) = 3 := by
    refine bad_word _ (by simp; omega) k (by simp) ?_
    have : (List.replicate k 121 ++ [b] ++ [122, 10])[k]'(by simp) = b := by
      simp
    rw [this]; exact hb
  have h1 := errOf_append (List.replicate a X) [List.replicate k 121 ++ [b] ++ [122, 10]] h0
  have h2 := atOf_append (List.replicate a X) [List.replicate k 121 ++ [b] ++ [122, 10]] h0
  have h4 := errOf_hit (List.replicate k 121 ++ [b] ++ [122, 10]) [] (by rw [h3]; decide)
  rw [← hl] at h1 h2
  have := errS_bad (bytesText a k b) (by rw [bytes_len]; omega) a 3 (by rw [h1, h4.1, h3]) (by rw [h2, h4.2]; simp) (by decide)
  exact ⟨this.1, this.2.1, this.2.2.1⟩

/-! ### LineLong -/
theorem blanks_err (n : Nat) (h : n ≤ 255) : (n + 1 ≤ 200 → errS (List.replicate n 32 ++ [10]) = 0) ∧ (200 < n + 1 → errS (List.replicate n 32 ++ [10]) = 4 ∧ atS (List.replicate n 32 ++ [10]) = 0 ∧ wordS (List.replicate n 32 ++ [10]) = [108, 105, 110, 101]) := by
  have hl : lines (List.replicate n 32 ++ [10]) = [List.replicate n 32 ++ [10]] := lines_one _ (fun c hc => by rw [(List.mem_replicate.1 hc).2]; decide)
  constructor
  · intro h1
    refine errS_small _ (by simp; omega) ?_
    intro c hc
    rcases List.mem_append.1 hc with h | h
    · rw [(List.mem_replicate.1 h).2]; decide
    · rw [List.mem_singleton.1 h]; decide
  · intro h1
    have h4 : bad (List.replicate n 32 ++ [10]) = 4 := bad_long _ (by simp; omega)
    have h5 := errOf_hit (List.replicate n 32 ++ [10]) [] (by rw [h4]; decide)
    rw [← hl] at h5
    have := errS_bad (List.replicate n 32 ++ [10]) (by simp; omega) 0 4 (by rw [h5.1, h4]) h5.2 (by decide)
    exact ⟨this.1, this.2.1, this.2.2.1⟩
theorem lines_nl (m : Nat) : lines (List.replicate m 10) = List.replicate m [10] := by
  induction m with
  | zero => rfl
  | succ m ih => rw [List.replicate_succ]; unfold lines; rw [if_pos rfl, ih, List.replicate_succ]
theorem nl_err (m : Nat) : (m ≤ 65536 → errS (List.replicate m 10) = 0 ∧ rowS (List.replicate m 10) = List.replicate m [10]) ∧ (65536 < m → errS (List.replicate m 10) = 4 ∧ atS (List.replicate m 10) = 0 ∧ wordS (List.replicate m 10) = [116, 101, 120, 116] ∧ rowS (List.replicate m 10) = []) := by
  constructor
  · intro h
    have := errS_ok (List.replicate m 10) (by simp; omega) (by
      rw [lines_nl]
      intro d hd
      rw [(List.mem_replicate.1 hd).2]
      decide)
    rw [lines_nl] at this
    exact this
  · intro h
    exact errS_long _ (by simp; omega)

/-! ### LineJoins -/
def ends (a : List (List UInt8)) : List UInt8 := (a.map (· ++ [10])).flatten
theorem ends_last (a : List (List UInt8)) : ends a = [] ∨ (ends a).getLast? = some 10 := by
  rcases List.eq_nil_or_concat a with rfl | ⟨r, x, rfl⟩
  · exact .inl rfl
  · right; unfold ends; simp
theorem join_lines (a : List (List UInt8)) (t : List UInt8) : lines (ends a ++ t) = lines (ends a) ++ lines t := lines_append _ _ (ends_last a)
theorem errOf_two (x y : List (List UInt8)) : errOf (x ++ y) = 0 ↔ errOf x = 0 ∧ errOf y = 0 := by
  rw [errOf_zero, errOf_zero, errOf_zero]
  constructor
  · intro h; exact ⟨fun d hd => h d (by simp [hd]), fun d hd => h d (by simp [hd])⟩
  · rintro ⟨h1, h2⟩ d hd
    rcases List.mem_append.1 hd with h | h
    · exact h1 d h
    · exact h2 d h
theorem errS_short (s : List UInt8) (h : s.length ≤ 65536) : errS s = errOf (lines s) := by unfold errS; rw [if_neg (by omega)]
theorem join_err (a : List (List UInt8)) (t : List UInt8) (h : (ends a).length + t.length ≤ 65536) : errS (ends a ++ t) = 0 ↔ errS (ends a) = 0 ∧ errS t = 0 := by
  rw [errS_short _ (by simp; omega), errS_short _ (by omega), errS_short _ (by omega), join_lines, errOf_two]
end Go.Proofs.YtlebbbkmbljnoaaDoor.Plain
