/- Plain facts on edits of a list: which may be, what they make, what leads back, one by one, the edit between two lists. Nothing of the program is named. -/
namespace Go.Proofs.YtcfbigkmhboepaaDoor.Edits

/-- an edit: new elements in the place of those from f to, not with, t -/
structure Ed (α : Type) where
  f : Nat
  t : Nat
  n : List α

/-- may the edits be, over N elements, the first one from lo on? -/
def Vld {α : Type} (N : Nat) : Nat → List (Ed α) → Prop
  | _, [] => True
  | lo, e :: es => lo ≤ e.f ∧ e.f ≤ e.t ∧ e.t ≤ N ∧ Vld N (e.t + 1) es
/-- what they make of L from place a on -/
def ap {α : Type} (L : List α) : Nat → List (Ed α) → List α
  | a, [] => L.drop a
  | a, e :: es => (L.drop a).take (e.f - a) ++ e.n ++ ap L e.t es
/-- those that lead back, place a of L being place p of what is made -/
def bk {α : Type} (L : List α) : Nat → Nat → List (Ed α) → List (Ed α)
  | _, _, [] => []
  | a, p, e :: es => ⟨p + (e.f - a), p + (e.f - a) + e.n.length, (L.drop e.f).take (e.t - e.f)⟩ :: bk L e.t (p + (e.f - a) + e.n.length) es

theorem Vld.mono {α : Type} {N lo lo' : Nat} {E : List (Ed α)} (h : Vld N lo E) (hl : lo' ≤ lo) : Vld N lo' E := by
  cases E with
  | nil => trivial
  | cons e es => exact ⟨Nat.le_trans hl h.1, h.2⟩
theorem drop_parts {α : Type} (L : List α) (a f t : Nat) (h1 : a ≤ f) (h2 : f ≤ t) : (L.drop a).take (f - a) ++ (L.drop f).take (t - f) ++ L.drop t = L.drop a := by
  have e1 : L.drop f = (L.drop a).drop (f - a) := by rw [List.drop_drop]; congr 1; omega
  have e2 : L.drop t = (L.drop f).drop (t - f) := by rw [List.drop_drop]; congr 1; omega
  rw [List.append_assoc, e2, List.take_append_drop, e1, List.take_append_drop]
/-- led back: whatever stands ahead of what was made -/
theorem back_at {α : Type} (L : List α) (E : List (Ed α)) : ∀ (a p : Nat) (P : List α), P.length = p → Vld L.length a E → ap (P ++ ap L a E) p (bk L a p E) = L.drop a := by
  induction E with
  | nil => intro a p P hp _; simp [ap, bk, ← hp]
  | cons e es ih =>
    intro a p P hp hv
    obtain ⟨h1, h2, h3, h4⟩ := hv
    have hl : ((L.drop a).take (e.f - a)).length = e.f - a := by simp; omega
    have ih' := ih e.t (p + (e.f - a) + e.n.length) (P ++ (L.drop a).take (e.f - a) ++ e.n) (by simp; omega) (h4.mono (by omega))
    have e0 : P ++ ap L a (e :: es) = P ++ (L.drop a).take (e.f - a) ++ e.n ++ ap L e.t es := by
      show P ++ ((L.drop a).take (e.f - a) ++ e.n ++ ap L e.t es) = _
      simp [List.append_assoc]
    rw [e0]
    show ((P ++ (L.drop a).take (e.f - a) ++ e.n ++ ap L e.t es).drop p).take (p + (e.f - a) - p) ++ (L.drop e.f).take (e.t - e.f) ++ ap (P ++ (L.drop a).take (e.f - a) ++ e.n ++ ap L e.t es) (p + (e.f - a) + e.n.length) (bk L e.t (p + (e.f - a) + e.n.length) es) = _
    rw [ih']
    have e1 : ((P ++ (L.drop a).take (e.f - a) ++ e.n ++ ap L e.t es).drop p).take (p + (e.f - a) - p) = (L.drop a).take (e.f - a) := by
      rw [List.append_assoc, List.append_assoc, ← hp, List.drop_left]
      have : P.length + (e.f - a) - P.length = ((L.drop a).take (e.f - a)).length := by omega
      rw [this, List.take_left]
    rw [e1]
    exact drop_parts L a e.f e.t h1 h2
theorem back_leads {α : Type} (L : List α) (E : List (Ed α)) (h : Vld L.length 0 E) : ap (ap L 0 E) 0 (bk L 0 0 E) = L := by
  have := back_at L E 0 0 [] rfl h
  simpa using this
theorem back_vld_at {α : Type} (L : List α) (E : List (Ed α)) : ∀ (a p lo : Nat) (P : List α), P.length = p → (lo = p ∨ (lo = p + 1 ∧ ∀ e es, E = e :: es → a + 1 ≤ e.f)) → Vld L.length a E → Vld (P ++ ap L a E).length lo (bk L a p E) := by
  induction E with
  | nil => intro a p lo P _ _ _; trivial
  | cons e es ih =>
    intro a p lo P hp hlo hv
    obtain ⟨h1, h2, h3, h4⟩ := hv
    have hl : ((L.drop a).take (e.f - a)).length = e.f - a := by simp; omega
    have e0 : P ++ ap L a (e :: es) = (P ++ (L.drop a).take (e.f - a) ++ e.n) ++ ap L e.t es := by
      show P ++ ((L.drop a).take (e.f - a) ++ e.n ++ ap L e.t es) = _
      simp [List.append_assoc]
    have hP : (P ++ (L.drop a).take (e.f - a) ++ e.n).length = p + (e.f - a) + e.n.length := by simp; omega
    refine ⟨?_, by simp, ?_, ?_⟩
    · show lo ≤ p + (e.f - a)
      rcases hlo with h | ⟨h, h'⟩
      · omega
      · have := h' e es rfl; omega
    · show p + (e.f - a) + e.n.length ≤ _
      rw [e0, List.length_append, hP]
      omega
    · show Vld (P ++ ap L a (e :: es)).length (p + (e.f - a) + e.n.length + 1) (bk L e.t (p + (e.f - a) + e.n.length) es)
      rw [e0]
      refine ih e.t (p + (e.f - a) + e.n.length) _ _ hP (.inr ⟨rfl, fun e' es' he => ?_⟩) (h4.mono (by omega))
      subst he
      exact h4.1
theorem back_vld {α : Type} (L : List α) (E : List (Ed α)) (h : Vld L.length 0 E) : Vld (ap L 0 E).length 0 (bk L 0 0 E) := by
  have := back_vld_at L E 0 0 0 [] rfl (.inl rfl) h
  simpa using this
/-- and forth again -/
theorem forth_again {α : Type} (L : List α) (E : List (Ed α)) (h : Vld L.length 0 E) : ap L 0 (bk (ap L 0 E) 0 0 (bk L 0 0 E)) = ap L 0 E := by
  have := back_leads (ap L 0 E) (bk L 0 0 E) (back_vld L E h)
  rwa [back_leads L E h] at this

/-! ### one by one, from the last to the first -/
def one {α : Type} (b : List α) (e : Ed α) : List α := b.take e.f ++ e.n ++ b.drop e.t
def many {α : Type} (b : List α) : List (Ed α) → List α
  | [] => b
  | e :: es => one (many b es) e
theorem ap_one {α : Type} (b : List α) (e : Ed α) : ap b 0 [e] = one b e := by simp [ap, one]
theorem ap_from {α : Type} (L : List α) (E : List (Ed α)) : ∀ (a lo : Nat), a ≤ lo → lo ≤ L.length → Vld L.length (a + 1) E ∨ E = [] → (∀ e es, E = e :: es → lo ≤ e.f) → (ap L a E).drop (lo - a) = ap L lo E ∧ (ap L a E).take (lo - a) = (L.drop a).take (lo - a) := by
  intro a lo h1 hN hv hlo
  cases E with
  | nil =>
    constructor
    · show (L.drop a).drop (lo - a) = L.drop lo
      rw [List.drop_drop]; congr 1; omega
    · rfl
  | cons e es =>
    have hf := hlo e es rfl
    have hv' : Vld L.length (a + 1) (e :: es) := by
      rcases hv with h | h
      · exact h
      · cases h
    obtain ⟨g1, g2, g3, g4⟩ := hv'
    have hlen : ((L.drop a).take (e.f - a)).length = e.f - a := by simp; omega
    constructor
    · show ((L.drop a).take (e.f - a) ++ e.n ++ ap L e.t es).drop (lo - a) = (L.drop lo).take (e.f - lo) ++ e.n ++ ap L e.t es
      rw [List.append_assoc, List.append_assoc, List.drop_append_of_le_length (by omega), List.drop_take, List.drop_drop]
      congr 2
      · omega
      · congr 1; omega
    · show ((L.drop a).take (e.f - a) ++ e.n ++ ap L e.t es).take (lo - a) = _
      rw [List.append_assoc, List.take_append_of_le_length (by omega), List.take_take]
      congr 1
      omega
theorem many_eq {α : Type} (L : List α) (E : List (Ed α)) : ∀ lo, Vld L.length lo E → many L E = ap L 0 E ∧ (∀ e es, E = e :: es → e.f ≤ (many L es).length ∧ e.t ≤ (many L es).length) := by
  induction E with
  | nil => intro lo _; exact ⟨by simp [many, ap], fun e es h => by cases h⟩
  | cons e es ih =>
    intro lo hv
    obtain ⟨h1, h2, h3, h4⟩ := hv
    obtain ⟨i1, _⟩ := ih (e.t + 1) h4
    have hes : Vld L.length (0 + 1) es ∨ es = [] := by
      cases es with
      | nil => exact .inr rfl
      | cons e' es' => exact .inl (h4.mono (by omega))
    have h5 := ap_from L es 0 e.t (by omega) h3 hes (fun e' es' he => by subst he; have := h4.1; omega)
    simp only [Nat.sub_zero, List.drop_zero] at h5
    have h6 : (ap L 0 es).take e.f = L.take e.f := by
      have := congrArg (List.take e.f) h5.2
      rwa [List.take_take, List.take_take, Nat.min_eq_left h2] at this
    have hl : e.t ≤ (ap L 0 es).length := by
      have := congrArg List.length h5.2
      simp at this
      omega
    constructor
    · show one (many L es) e = (L.drop 0).take (e.f - 0) ++ e.n ++ ap L e.t es
      rw [i1]
      unfold one
      rw [h6, h5.1]
      simp
    · intro e' es' he
      cases he
      rw [i1]
      exact ⟨by omega, hl⟩

/-! ### the edit between two lists -/
/-- as many as both begin alike -/
def IsHead {α : Type} (a b : List α) (p : Nat) : Prop := p ≤ a.length ∧ p ≤ b.length ∧ (∀ j, j < p → a[j]? = b[j]?) ∧ (p < a.length → p < b.length → a[p]? ≠ b[p]?)
/-- as many as both end alike, of what is left behind the first p -/
def IsTail {α : Type} (a b : List α) (p q : Nat) : Prop := p + q ≤ a.length ∧ p + q ≤ b.length ∧ (∀ j, j < q → a[a.length - 1 - j]? = b[b.length - 1 - j]?) ∧ (p + q < a.length → p + q < b.length → a[a.length - 1 - q]? ≠ b[b.length - 1 - q]?)
theorem IsHead.unique {α : Type} {a b : List α} {p p' : Nat} (h : IsHead a b p) (h' : IsHead a b p') : p = p' := by
  obtain ⟨h1, h2, h3, h4⟩ := h
  obtain ⟨g1, g2, g3, g4⟩ := h'
  rcases Nat.lt_trichotomy p p' with h | h | h
  · exact absurd (g3 p h) (h4 (by omega) (by omega))
  · exact h
  · exact absurd (h3 p' h) (g4 (by omega) (by omega))
theorem IsTail.unique {α : Type} {a b : List α} {p q q' : Nat} (h : IsTail a b p q) (h' : IsTail a b p q') : q = q' := by
  obtain ⟨h1, h2, h3, h4⟩ := h
  obtain ⟨g1, g2, g3, g4⟩ := h'
  rcases Nat.lt_trichotomy q q' with h | h | h
  · exact absurd (g3 q h) (h4 (by omega) (by omega))
  · exact h
  · exact absurd (h3 q' h) (g4 (by omega) (by omega))
theorem head_take {α : Type} {a b : List α} {p : Nat} (h : IsHead a b p) : a.take p = b.take p := by
  apply List.ext_getElem?
  intro j
  by_cases hj : j < p
  · rw [List.getElem?_take_of_lt hj, List.getElem?_take_of_lt hj]; exact h.2.2.1 j hj
  · rw [List.getElem?_eq_none (by simp; omega), List.getElem?_eq_none (by simp; omega)]
theorem tail_drop {α : Type} {a b : List α} {p q : Nat} (h : IsTail a b p q) : a.drop (a.length - q) = b.drop (b.length - q) := by
  obtain ⟨h1, h2, h3, _⟩ := h
  apply List.ext_getElem?
  intro j
  rw [List.getElem?_drop, List.getElem?_drop]
  by_cases hj : j < q
  · have := h3 (q - 1 - j) (by omega)
    rw [show a.length - 1 - (q - 1 - j) = a.length - q + j by omega, show b.length - 1 - (q - 1 - j) = b.length - q + j by omega] at this
    exact this
  · rw [List.getElem?_eq_none (by omega), List.getElem?_eq_none (by omega)]
/-- it leads there -/
theorem diff_leads {α : Type} {a b : List α} {p q : Nat} (h : IsHead a b p) (k : IsTail a b p q) : one a ⟨p, a.length - q, (b.drop p).take (b.length - q - p)⟩ = b := by
  unfold one
  simp only
  rw [head_take h, tail_drop k]
  have h2 := k.2.1
  have e1 : b.drop (b.length - q) = (b.drop p).drop (b.length - q - p) := by rw [List.drop_drop]; congr 1; omega
  rw [e1, List.append_assoc, List.take_append_drop, List.take_append_drop]
theorem head_same {α : Type} {a : List α} {p : Nat} (h : IsHead a a p) : p = a.length := by
  rcases Nat.lt_or_ge p a.length with hl | hl
  · exact absurd rfl (h.2.2.2 hl hl)
  · exact Nat.le_antisymm h.1 hl
theorem head_full {α : Type} {a b : List α} {p : Nat} (h : IsHead a b p) (h1 : p = a.length) (h2 : p = b.length) : a = b := by
  have := head_take h
  rwa [List.take_of_length_le (by omega), List.take_of_length_le (by omega)] at this

/-! ### why edits may not be: (what, where); numbers as they come -/
structure Raw (α : Type) where
  f : Int
  t : Int
  n : List α
/-- what is wrong with the edit at place i: 1: its numbers; 7: it touches the one ahead -/
def badI {α : Type} (N : Int) (E : List (Raw α)) (i : Nat) : Nat :=
  match E[i]? with
  | none => 0
  | some e => if e.f < 0 ∨ e.t < e.f ∨ N < e.t then 1 else if i = 0 then 0 else match E[i - 1]? with
    | none => 0
    | some d => if e.f ≤ d.t then 7 else 0
/-- the first place at which something is wrong, and what; (0, 0): nowhere -/
def errE {α : Type} (N : Int) (E : List (Raw α)) : Nat × Nat :=
  if N < 0 then (1, 0) else match (List.range E.length).find? (fun i => badI N E i != 0) with
    | some i => (badI N E i, i)
    | none => (0, 0)
theorem errE_neg {α : Type} (N : Int) (E : List (Raw α)) (h : N < 0) : errE N E = (1, 0) := by unfold errE; rw [if_pos h]
theorem errE_none {α : Type} (N : Int) (E : List (Raw α)) (h : ¬ N < 0) (hno : ∀ j, j < E.length → badI N E j = 0) : errE N E = (0, 0) := by
  unfold errE
  rw [if_neg h]
  have : (List.range E.length).find? (fun i => badI N E i != 0) = none := by
    rw [List.find?_eq_none]
    intro x hx
    have := hno x (List.mem_range.1 hx)
    simp [this]
  rw [this]
theorem errE_at {α : Type} (N : Int) (E : List (Raw α)) (h : ¬ N < 0) (i : Nat) (hi : i < E.length) (hno : ∀ j, j < i → badI N E j = 0) (hb : badI N E i ≠ 0) : errE N E = (badI N E i, i) := by
  unfold errE
  rw [if_neg h]
  have : (List.range E.length).find? (fun i => badI N E i != 0) = some i := by
    rw [List.find?_range_eq_some]
    refine ⟨by simpa using hb, List.mem_range.2 hi, fun j hj => by simp [hno j hj]⟩
  rw [this]
theorem badI_arg {α : Type} (N : Int) (E : List (Raw α)) (i : Nat) (hi : i < E.length) (h : E[i].f < 0 ∨ E[i].t < E[i].f ∨ N < E[i].t) : badI N E i = 1 := by
  unfold badI
  rw [List.getElem?_eq_getElem hi]
  simp only
  rw [if_pos h]
theorem badI_first {α : Type} (N : Int) (E : List (Raw α)) (hi : 0 < E.length) (h : ¬ (E[0].f < 0 ∨ E[0].t < E[0].f ∨ N < E[0].t)) : badI N E 0 = 0 := by
  unfold badI
  rw [List.getElem?_eq_getElem hi]
  simp only
  rw [if_neg h, if_pos trivial]
theorem badI_next {α : Type} (N : Int) (E : List (Raw α)) (i : Nat) (hi : i + 1 < E.length) (h : ¬ (E[i + 1].f < 0 ∨ E[i + 1].t < E[i + 1].f ∨ N < E[i + 1].t)) : badI N E (i + 1) = if E[i + 1].f ≤ (E[i]'(by omega)).t then 7 else 0 := by
  unfold badI
  rw [List.getElem?_eq_getElem hi]
  simp only
  rw [if_neg h, if_neg (by omega), Nat.add_sub_cancel, List.getElem?_eq_getElem (by omega)]
theorem badI_range {α : Type} (N : Int) (E : List (Raw α)) (i : Nat) : badI N E i = 0 ∨ badI N E i = 1 ∨ badI N E i = 7 := by
  unfold badI
  split
  · exact .inl rfl
  · split
    · exact .inr (.inl rfl)
    · split
      · exact .inl rfl
      · split
        · exact .inl rfl
        · split
          · exact .inr (.inr rfl)
          · exact .inl rfl
/-- edits that may be, their numbers as counts -/
def nat {α : Type} (e : Raw α) : Ed α := ⟨e.f.toNat, e.t.toNat, e.n⟩
theorem vld_of {α : Type} (N : Nat) (E : List (Raw α)) (hno : ∀ j, j < E.length → badI N E j = 0) : Vld N 0 (E.map nat) ∧ ∀ j (h : j < E.length), 0 ≤ E[j].f ∧ E[j].f ≤ E[j].t ∧ E[j].t ≤ N ∧ (∀ (h1 : j + 1 < E.length), E[j].t < E[j + 1].f) := by
  have each : ∀ j (h : j < E.length), 0 ≤ E[j].f ∧ E[j].f ≤ E[j].t ∧ E[j].t ≤ (N : Int) := fun j h => by
    have := hno j h
    by_cases hc : E[j].f < 0 ∨ E[j].t < E[j].f ∨ (N : Int) < E[j].t
    · rw [badI_arg N E j h hc] at this; cases this
    · omega
  have next : ∀ j (h : j + 1 < E.length), (E[j]'(by omega)).t < E[j + 1].f := fun j h => by
    have h0 := hno (j + 1) h
    have h1 := each (j + 1) h
    rw [badI_next N E j h (by omega)] at h0
    split at h0
    · cases h0
    · omega
  refine ⟨?_, fun j h => ⟨(each j h).1, (each j h).2.1, (each j h).2.2, fun h1 => next j h1⟩⟩
  have gen : ∀ (F : List (Raw α)) (lo : Nat), (∀ j (h : j < F.length), 0 ≤ F[j].f ∧ F[j].f ≤ F[j].t ∧ F[j].t ≤ (N : Int)) → (∀ j (h : j + 1 < F.length), (F[j]'(by omega)).t < F[j + 1].f) → (∀ (h : 0 < F.length), (lo : Int) ≤ F[0].f) → Vld N lo (F.map nat) := by
    intro F
    induction F with
    | nil => intro lo _ _ _; trivial
    | cons e es ih =>
      intro lo h1 h2 h3
      have g1 := h1 0 (by simp)
      have g3 := h3 (by simp)
      simp only [List.getElem_cons_zero] at g1 g3
      refine ⟨by show lo ≤ e.f.toNat; omega, by show e.f.toNat ≤ e.t.toNat; omega, by show e.t.toNat ≤ N; omega, ?_⟩
      refine ih (e.t.toNat + 1) (fun j h => h1 (j + 1) (by simpa using h)) (fun j h => h2 (j + 1) (by simpa using h)) (fun h => ?_)
      have := h2 0 (by simpa using h)
      simp only [List.getElem_cons_zero, List.getElem_cons_succ] at this
      omega
  exact gen E 0 each next (fun h => by have := (each 0 h).1; omega)
end Go.Proofs.YtcfbigkmhboepaaDoor.Edits
