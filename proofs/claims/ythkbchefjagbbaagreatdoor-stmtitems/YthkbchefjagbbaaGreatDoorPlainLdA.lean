/- Words behind one another (plain): a text made of words, of which some have a blank ahead, is read as just these words.
   Declarations with any sizes (plain): their words, what they are read as.
   Declarations with any sizes (plain): their words are read as they were.
   Declarations with any sizes (plain): an item behind them that is wrong is found.
   Declarations with any sizes (plain): what is known of their lines. -/
import Derived.Test.YthkbchefjagbbaaGreatDoorPlainAll
import Derived.Test.YthkbchefjagbbaaGreatDoorPlainSp
namespace Go.Proofs.YthkbchefjagbbaaGreatDoor.Words
set_option linter.unusedVariables false

/-- what may stand right behind a word: nothing that goes on with it -/
def Soft (r : List UInt8) : Prop := headIs behindB r = false ∧ r.head? ≠ some 61
theorem soft_no {r : List UInt8} (h : Soft r) : headIs behindB r = false ∧ headIs letterB r = false ∧ headIs digitB r = false ∧ r.head? ≠ some 61 := by
  obtain ⟨h1, h2⟩ := h
  refine ⟨h1, ?_, ?_, h2⟩
  · cases r with
    | nil => rfl
    | cons c r =>
      have h1 : behindB c = false := h1
      show letterB c = false
      unfold behindB at h1
      simp only [Bool.or_eq_false_iff] at h1
      exact h1.1.1
  · cases r with
    | nil => rfl
    | cons c r =>
      have h1 : behindB c = false := h1
      show digitB c = false
      unfold behindB at h1
      simp only [Bool.or_eq_false_iff] at h1
      exact h1.1.2
theorem soft_app {s r : List UInt8} {kd n : Nat} (h : step s = .tok kd n s.length) (hr : Soft r) : step (s ++ r) = .tok kd n s.length := by
  obtain ⟨r1, r2, r3, r4⟩ := soft_no hr
  cases s with
  | nil => have := (step_len h).1; simp at this
  | cons c t =>
    have hp : ∀ p : UInt8 → Bool, headIs p (c :: t ++ r) = headIs p (c :: t) := fun p => rfl
    unfold step at h ⊢
    rw [hp, hp, hp]
    split at h
    · cases h
    · rename_i hb
      rw [if_neg hb]
      split at h
      · rename_i hl
        rw [if_pos hl]
        split at h
        · cases h
        · injection h with h1 h2 h3
          have hf := takeWhile_full h3
          rw [takeWhile_stop hf r1]
          rename_i h31
          rw [hf] at h31 h1
          rw [if_neg h31, h1, h2]
      · rename_i hl
        rw [if_neg hl]
        split at h
        · rename_i hd
          rw [if_pos hd]
          split at h
          · cases h
          · rename_i hov
            split at h
            · cases h
            · injection h with h1 h2 h3
              have hf := takeWhile_full h3
              rw [takeWhile_stop hf r3]
              rw [hf] at hov h2
              rw [if_neg hov, List.drop_left, if_neg (by rw [r2]; decide), h1, h2]
        · rename_i hd
          rw [if_neg hd]
          split at h
          · cases h
          · injection h with h1 h2 h3
            have h4 : signLen (c :: t ++ r) = (c :: t).length := by
              rw [← h3]
              cases t with
              | nil =>
                simp only [signLen, List.cons_append, List.nil_append]
                split
                · first | (rw [if_neg r4, if_neg (by simp)]) | simp
                · rfl
              | cons d t => rfl
            rw [h4, if_neg (by simp), h1, h2]
/-- a sign of one byte that no other goes on with -/
theorem sign_app (c : UInt8) (hc : c = 43 ∨ c = 45 ∨ c = 42 ∨ c = 40 ∨ c = 41 ∨ c = 44) (r : List UInt8) : step ([c] ++ r) = .tok 3 0 [c].length := by
  rcases hc with rfl | rfl | rfl | rfl | rfl | rfl <;> rfl
/-- a word of a text: whether a blank stands ahead; its kind, text, number -/
abbrev Wd : Type := Bool × Nat × List UInt8 × Nat
def textW : List Wd → List UInt8
  | [] => []
  | x :: L => (if x.1 then [32] else []) ++ (x.2.2.1 ++ textW L)
def FitsW : List Wd → Prop
  | [] => True
  | x :: L => step (x.2.2.1 ++ textW L) = .tok x.2.1 x.2.2.2 x.2.2.1.length ∧ FitsW L
abbrev keyT (t : T) : Nat × List UInt8 × Nat := (t.kind, t.text, t.n)
theorem scan_text (L : List Wd) : ∀ p, FitsW L → ∃ l, scan (textW L).length (textW L) p = (l, 0, 0) ∧ l.map keyT = L.map (·.2) := by
  induction L with
  | nil => intro p _; exact ⟨[], rfl, rfl⟩
  | cons x L ih =>
    intro p h
    obtain ⟨h1, h2⟩ := h
    obtain ⟨b, kd, tx, n⟩ := x
    cases b with
    | true =>
      obtain ⟨l, e1, e2⟩ := ih (p + 1 + tx.length) h2
      refine ⟨⟨kd, tx, p + 1, n⟩ :: l, ?_, by rw [List.map_cons, List.map_cons, e2]⟩
      show scan ([32] ++ (tx ++ textW L)).length ([32] ++ (tx ++ textW L)) p = _
      rw [scan_blanks [32] _ (by decide), scan_step h1, List.drop_left, List.take_left, show p + [(32 : UInt8)].length = p + 1 from rfl, e1]
      rfl
    | false =>
      obtain ⟨l, e1, e2⟩ := ih (p + tx.length) h2
      refine ⟨⟨kd, tx, p, n⟩ :: l, ?_, by rw [List.map_cons, List.map_cons, e2]⟩
      show scan (tx ++ textW L).length (tx ++ textW L) p = _
      rw [scan_step h1, List.drop_left, List.take_left, e1]
      rfl
theorem toks_text (L : List Wd) (h : FitsW L) : ∃ l, toks (textW L) = (l, 0, 0) ∧ l.map keyT = L.map (·.2) := by
  obtain ⟨l, e1, e2⟩ := scan_text L 0 h
  refine ⟨l, ?_, e2⟩
  unfold toks scanAt
  rw [List.drop_zero, Nat.sub_zero]
  exact e1
theorem textW_app (L M : List Wd) : textW (L ++ M) = textW L ++ textW M := by
  induction L with
  | nil => rfl
  | cons x L ih => simp only [List.cons_append, textW, ih, List.append_assoc]
/-- words that fit, with r behind them -/
def FitsTo : List Wd → List UInt8 → Prop
  | [], _ => True
  | x :: L, r => step (x.2.2.1 ++ (textW L ++ r)) = .tok x.2.1 x.2.2.2 x.2.2.1.length ∧ FitsTo L r
theorem fits_of : ∀ {L : List Wd}, FitsTo L [] → FitsW L := by
  intro L
  induction L with
  | nil => intro h; trivial
  | cons x L ih =>
    intro h
    refine ⟨?_, ih h.2⟩
    have h1 := h.1
    rw [List.append_nil] at h1
    exact h1
theorem fits_app {L M : List Wd} {r : List UInt8} (h1 : FitsTo L (textW M ++ r)) (h2 : FitsTo M r) : FitsTo (L ++ M) r := by
  induction L with
  | nil => exact h2
  | cons x L ih =>
    refine ⟨?_, ih h1.2⟩
    have h := h1.1
    show step (x.2.2.1 ++ (textW (L ++ M) ++ r)) = _
    rw [textW_app, List.append_assoc]
    exact h
theorem soft_nil : Soft [] := ⟨rfl, by simp⟩
theorem soft_cons (c : UInt8) (r : List UInt8) (h : behindB c = false) (h2 : c ≠ 61) : Soft (c :: r) := ⟨h, by simpa using h2⟩
end Go.Proofs.YthkbchefjagbbaaGreatDoor.Words

namespace Go.Proofs.YthkbchefjagbbaaGreatDoor.Line
open Words (Wd textW FitsTo FitsW Soft keyT)
set_option linter.unusedVariables false

abbrev wdS (b : Bool) (c : UInt8) : Wd := (b, 3, [c], 0)
abbrev wdN (b : Bool) (n : Nat) : Wd := (b, 2, Words.dec n, n)
def moreW : List Nat → List Wd
  | [] => [wdS false 41]
  | d :: D => wdS false 44 :: wdN true d :: moreW D
def dimsW : List Nat → List Wd
  | [] => []
  | d :: D => wdS false 40 :: wdN false d :: moreW D
def itemW (x : List UInt8 × List Nat) : List Wd := (true, 1, x.1, 0) :: dimsW x.2
def restW : List (List UInt8 × List Nat) → List Wd
  | [] => []
  | x :: m => wdS false 44 :: (itemW x ++ restW m)
def declW (x : List UInt8 × List Nat) (m : List (List UInt8 × List Nat)) : List Wd := (false, 4, [105, 110, 116, 101, 103, 101, 114], 0) :: (itemW x ++ restW m)
/-- a name that may be declared -/
def NameOk (s : List UInt8) : Prop := Words.step s = .tok 1 0 s.length ∧ s ≠ []
def ItemOk (x : List UInt8 × List Nat) : Prop := NameOk x.1 ∧ ∀ d ∈ x.2, d ≤ 65536
theorem fit_sign {b : Bool} {c : UInt8} (hc : c = 43 ∨ c = 45 ∨ c = 42 ∨ c = 40 ∨ c = 41 ∨ c = 44) (r : List UInt8) : Words.step ((wdS b c).2.2.1 ++ r) = .tok 3 0 [c].length := Words.sign_app c hc r
theorem fit_num {b : Bool} {d : Nat} (hd : d ≤ 65536) {r : List UInt8} (hr : Soft r) : Words.step ((wdN b d).2.2.1 ++ r) = .tok 2 d (Words.dec d).length := Words.soft_app (dec_step d (by unfold Words.big; omega)) hr
theorem soft_more (D : List Nat) (r : List UInt8) : Soft (textW (moreW D) ++ r) := by
  cases D with
  | nil => exact Words.soft_cons 41 _ (by decide) (by decide)
  | cons d D => exact Words.soft_cons 44 _ (by decide) (by decide)
theorem fits_more (r : List UInt8) : ∀ (D : List Nat), (∀ d ∈ D, d ≤ 65536) → FitsTo (moreW D) r := by
  intro D
  induction D with
  | nil => intro _; exact ⟨fit_sign (by decide) _, trivial⟩
  | cons d D ih => intro h; exact ⟨fit_sign (by decide) _, fit_num (h d (List.mem_cons_self ..)) (soft_more D r), ih (fun e he => h e (List.mem_cons_of_mem _ he))⟩
theorem fits_dims (r : List UInt8) (D : List Nat) (h : ∀ d ∈ D, d ≤ 65536) : FitsTo (dimsW D) r := by
  cases D with
  | nil => trivial
  | cons d D => exact ⟨fit_sign (by decide) _, fit_num (h d (List.mem_cons_self ..)) (soft_more D r), fits_more r D (fun e he => h e (List.mem_cons_of_mem _ he))⟩
theorem soft_dims (D : List Nat) {r : List UInt8} (hr : Soft r) : Soft (textW (dimsW D) ++ r) := by
  cases D with
  | nil => exact hr
  | cons d D => exact Words.soft_cons 40 _ (by decide) (by decide)
theorem fits_item {x : List UInt8 × List Nat} (h : ItemOk x) {r : List UInt8} (hr : Soft r) : FitsTo (itemW x) r := ⟨Words.soft_app h.1.1 (soft_dims x.2 hr), fits_dims r x.2 h.2⟩
theorem soft_rest (m : List (List UInt8 × List Nat)) {r : List UInt8} (hr : Soft r) : Soft (textW (restW m) ++ r) := by
  cases m with
  | nil => exact hr
  | cons x m => exact Words.soft_cons 44 _ (by decide) (by decide)
theorem fits_rest {r : List UInt8} (hr : Soft r) : ∀ (m : List (List UInt8 × List Nat)), (∀ x ∈ m, ItemOk x) → FitsTo (restW m) r := by
  intro m
  induction m with
  | nil => intro _; trivial
  | cons x m ih => intro h; exact ⟨fit_sign (by decide) _, Words.fits_app (fits_item (h x (List.mem_cons_self ..)) (soft_rest m hr)) (ih (fun y hy => h y (List.mem_cons_of_mem _ hy)))⟩
theorem fits_decl (x : List UInt8 × List Nat) (m : List (List UInt8 × List Nat)) (hx : ItemOk x) (hm : ∀ y ∈ m, ItemOk y) : FitsW (declW x m) := by
  refine Words.fits_of ⟨?_, Words.fits_app (fits_item hx (soft_rest m Words.soft_nil)) (fits_rest Words.soft_nil m hm)⟩
  exact Words.soft_app (s := [105, 110, 116, 101, 103, 101, 114]) (by kernel_rfl) (Words.soft_cons 32 _ (by decide) (by decide))
theorem join_two (x y : List UInt8) (l : List (List UInt8)) (sep : List UInt8) : Lib.join (x :: y :: l) sep = x ++ (sep ++ Lib.join (y :: l) sep) := by
  simp [Lib.join, List.intercalate]
/-- a declaration's text is made of its words -/
theorem more_text (D : List Nat) : ∀ d : Nat, Words.dec d ++ textW (moreW D) = joinT (intsI (d :: D)) ++ [41] := by
  induction D with
  | nil =>
    intro d
    show Words.dec d ++ ([41] ++ []) = _
    unfold joinT intsI
    simp only [List.map_cons, List.map_nil, Lib.join_one, Lib.itoa_nonneg, dec_digits, List.append_nil]
  | cons e D ih =>
    intro d
    have h := ih e
    show Words.dec d ++ ([] ++ ([44] ++ ([32] ++ (Words.dec e ++ textW (moreW D))))) = _
    rw [h]
    unfold joinT intsI
    simp only [List.map_cons, join_two, Lib.itoa_nonneg, dec_digits, List.append_assoc, List.nil_append]
    rfl
theorem dims_text (D : List Nat) : textW (dimsW D) = dimsT (intsI D) := by
  cases D with
  | nil => rfl
  | cons d D =>
    show [] ++ ([40] ++ ([] ++ (Words.dec d ++ textW (moreW D)))) = _
    rw [List.nil_append, List.nil_append, more_text]
    rfl
theorem item_text (x : List UInt8 × List Nat) : textW (itemW x) = [32] ++ itemP x := by
  show [32] ++ (x.1 ++ textW (dimsW x.2)) = _
  rw [dims_text]
  rfl
theorem rest_text (m : List (List UInt8 × List Nat)) : ∀ x : List UInt8 × List Nat, itemP x ++ textW (restW m) = Lib.join ((x :: m).map itemP) [44, 32] := by
  induction m with
  | nil => intro x; show itemP x ++ [] = Lib.join [itemP x] _; rw [Lib.join_one, List.append_nil]
  | cons y m ih =>
    intro x
    show itemP x ++ ([] ++ ([44] ++ textW (itemW y ++ restW m))) = _
    rw [Words.textW_app, item_text, List.map_cons, List.map_cons, join_two, ← List.map_cons, ← ih y]
    simp only [List.nil_append, List.append_assoc]
    rfl
theorem decl_text (x : List UInt8 × List Nat) (m : List (List UInt8 × List Nat)) : textW (declW x m) = stText (.decl (x :: m)) := by
  show [] ++ ([105, 110, 116, 101, 103, 101, 114] ++ textW (itemW x ++ restW m)) = headT 1 ++ Lib.join ((x :: m).map itemP) [44, 32]
  rw [Words.textW_app, item_text, ← rest_text]
  simp only [List.nil_append, List.append_assoc]
  rfl
/-- the words of a declaration's text -/
theorem decl_toks (x : List UInt8 × List Nat) (m : List (List UInt8 × List Nat)) (hx : ItemOk x) (hm : ∀ y ∈ m, ItemOk y) : ∃ T, Words.toks (stText (.decl (x :: m))) = (T, 0, 0) ∧ T.map keyT = (declW x m).map (·.2) := by
  rw [← decl_text]
  exact Words.toks_text _ (fits_decl x m hx hm)
end Go.Proofs.YthkbchefjagbbaaGreatDoor.Line

namespace Go.Proofs.YthkbchefjagbbaaGreatDoor.Line
open Words (Wd textW keyT)
set_option linter.unusedVariables false

abbrev Key : Type := Nat × List UInt8 × Nat
/-- from place p on the words are those, and then others -/
def From (T : List Words.T) (p : Nat) (L post : List Key) : Prop := (T.map keyT).drop p = L ++ post
theorem from_at {T : List Words.T} {p : Nat} {k : Key} {L : List Key} (h : (T.map keyT).drop p = k :: L) : ∃ t, T[p]? = some t ∧ keyT t = k ∧ (T.map keyT).drop (p + 1) = L := by
  have h1 : (T.map keyT)[p]? = some k := by
    have := congrArg List.head? h
    rwa [List.head?_drop] at this
  rw [List.getElem?_map] at h1
  cases ht : T[p]? with
  | none => rw [ht] at h1; cases h1
  | some t =>
    rw [ht] at h1
    refine ⟨t, rfl, Option.some.inj h1, ?_⟩
    rw [← List.tail_drop, h]
    rfl
theorem next_key {T : List Words.T} {p : Nat} {k : Key} {L : List Key} (h : (T.map keyT).drop p = k :: L) (c : List UInt8) : isNext T p .ok c = (k.2.1 == c) := by
  obtain ⟨t, ht, rfl, _⟩ := from_at h
  unfold isNext
  rw [ht]
  simp
theorem kind_key {T : List Words.T} {p : Nat} {k : Key} {L : List Key} (h : (T.map keyT).drop p = k :: L) (c : Nat) : isKind T p .ok c = (k.1 == c) := by
  obtain ⟨t, ht, rfl, _⟩ := from_at h
  unfold isKind
  rw [ht]
  simp
theorem next_end {T : List Words.T} {p : Nat} (h : (T.map keyT).drop p = []) (c : List UInt8) : isNext T p .ok c = false := by
  have h1 : T[p]? = none := by
    have := List.drop_eq_nil_iff.1 h
    rw [List.length_map] at this
    exact List.getElem?_eq_none this
  unfold isNext
  rw [h1]
  simp
theorem name_key {T : List Words.T} {p : Nat} {k : Key} {L : List Key} (h : (T.map keyT).drop p = k :: L) : nameAt T p true = k.2.1 := by
  obtain ⟨t, ht, rfl, _⟩ := from_at h
  unfold nameAt
  rw [ht]
  rfl
theorem num_key {T : List Words.T} {p : Nat} {k : Key} {L : List Key} (h : (T.map keyT).drop p = k :: L) : numAt T p true = k.2.2 := by
  obtain ⟨t, ht, rfl, _⟩ := from_at h
  unfold numAt
  rw [ht]
  rfl
abbrev keys (L : List Wd) : List Key := L.map (·.2)
theorem dim_key {T : List Words.T} {p d : Nat} {L : List Key} (h : (T.map keyT).drop p = (2, Words.dec d, d) :: L) (hd : d ≠ 0) : dimR T p .ok = (d, p + 1, .ok) := by
  unfold dimR
  rw [if_pos (by rw [kind_key h]; rfl), num_key h, if_neg hd]
/-- the numbers behind the first -/
theorem more_read {T : List Words.T} {post : List Key} : ∀ (D : List Nat) (f : Nat) (l : List Nat) (p : Nat), D.length < f → l.length + D.length ≤ 4 → (∀ d ∈ D, d ≠ 0) → (T.map keyT).drop p = keys (moreW D) ++ post → moreR T f l p .ok = (l ++ D, p + (moreW D).length, .ok) := by
  intro D
  induction D with
  | nil =>
    intro f l p hf hl hd h
    obtain ⟨f, rfl⟩ : ∃ g, f = g + 1 := ⟨f - 1, by simp at hf; omega⟩
    have h : (T.map keyT).drop p = (3, [41], 0) :: post := h
    show (if isNext T p .ok [44] then _ else _ : List Nat × Nat × SE) = _
    rw [if_neg (by rw [next_key h]; decide), next_key h, List.append_nil]
    rfl
  | cons d D ih =>
    intro f l p hf hl hd h
    obtain ⟨f, rfl⟩ : ∃ g, f = g + 1 := ⟨f - 1, by simp at hf; omega⟩
    have h : (T.map keyT).drop p = (3, [44], 0) :: (2, Words.dec d, d) :: (keys (moreW D) ++ post) := h
    have h1 := (from_at h).choose_spec.2.2
    have h2 := (from_at h1).choose_spec.2.2
    have hl2 : l.length + (D.length + 1) ≤ 4 := hl
    have hf2 : D.length + 1 < f + 1 := hf
    show (if isNext T p .ok [44] then (if l.length = 4 then _ else _) else _ : List Nat × Nat × SE) = _
    rw [if_pos (by rw [next_key h]; decide), if_neg (show ¬ l.length = 4 by omega), dim_key h1 (hd d (List.mem_cons_self ..))]
    have h3 := ih f (l ++ [d]) (p + 1 + 1) (by omega) (by simp; omega) (fun e he => hd e (List.mem_cons_of_mem _ he)) h2
    rw [h3]
    simp only [List.append_assoc, List.singleton_append, Prod.mk.injEq, true_and, and_true]
    show p + 1 + 1 + (moreW D).length = p + ((moreW D).length + 1 + 1)
    omega
/-- the sizes behind a name -/
theorem dims_read {T : List Words.T} {post : List Key} (D : List Nat) (p : Nat) (hl : D.length ≤ 4) (hd : ∀ d ∈ D, d ≠ 0) (hp : ∀ k L, post = k :: L → k.2.1 ≠ [40]) (h : (T.map keyT).drop p = keys (dimsW D) ++ post) : dimsR T p .ok = (D, p + (dimsW D).length, .ok) := by
  cases D with
  | nil =>
    have h : (T.map keyT).drop p = post := h
    unfold dimsR
    cases post with
    | nil => rw [if_neg (by rw [next_end h]; decide)]; rfl
    | cons k L => rw [if_neg (by rw [next_key h]; simpa using hp k L rfl)]; rfl
  | cons d D =>
    have h : (T.map keyT).drop p = (3, [40], 0) :: (2, Words.dec d, d) :: (keys (moreW D) ++ post) := h
    have h1 := (from_at h).choose_spec.2.2
    have h2 := (from_at h1).choose_spec.2.2
    have hl2 : D.length + 1 ≤ 4 := hl
    unfold dimsR
    rw [if_pos (by rw [next_key h]; decide), dim_key h1 (hd d (List.mem_cons_self ..))]
    have h3 := more_read (T := T) (post := post) D 5 [d] (p + 1 + 1) (by omega) (by simp; omega) (fun e he => hd e (List.mem_cons_of_mem _ he)) h2
    rw [h3]
    simp only [List.singleton_append, Prod.mk.injEq, true_and, and_true]
    show p + 1 + 1 + (moreW D).length = p + ((moreW D).length + 1 + 1)
    omega
/-- an item's name and sizes -/
def SizeOk (x : List UInt8 × List Nat) : Prop := x.2.length ≤ 4 ∧ ∀ d ∈ x.2, d ≠ 0
theorem items_read {T : List Words.T} {post : List Key} (hp : ∀ k L, post = k :: L → k.2.1 ≠ [40] ∧ k.2.1 ≠ [44]) : ∀ (m : List (List UInt8 × List Nat)) (x : List UInt8 × List Nat) (f : Nat) (acc : List (List UInt8 × List Nat)) (p : Nat), m.length < f → SizeOk x → (∀ y ∈ m, SizeOk y) → (T.map keyT).drop p = keys (itemW x ++ restW m) ++ post → itemsR T f acc p .ok = (acc ++ x :: m, p + (itemW x ++ restW m).length, .ok) := by
  intro m
  induction m with
  | nil =>
    intro x f acc p hf hx hm h
    obtain ⟨f, rfl⟩ : ∃ g, f = g + 1 := ⟨f - 1, by simp at hf; omega⟩
    have h : (T.map keyT).drop p = (1, x.1, 0) :: (keys (dimsW x.2) ++ post) := by rw [h]; simp [keys, itemW, restW]
    have h1 := (from_at h).choose_spec.2.2
    have hk : isKind T p .ok 1 = true := by rw [kind_key h]; rfl
    have hd := dims_read x.2 (p + 1) hx.1 hx.2 (fun k L e => (hp k L e).1) h1
    have hnx : isNext T (p + 1 + (dimsW x.2).length) .ok [44] = false := by
      have h2 : (T.map keyT).drop (p + 1 + (dimsW x.2).length) = post := by
        rw [← List.drop_drop, h1, show (dimsW x.2).length = (keys (dimsW x.2)).length from (List.length_map ..).symm, List.drop_left]
      cases post with
      | nil => exact next_end h2 _
      | cons k L => rw [next_key h2]; simpa using (hp k L rfl).2
    show (if isNext T (dimsR T (nextP (isKind T p .ok 1) p) (mustE (isKind T p .ok 1) .ok p)).2.1 (dimsR T (nextP (isKind T p .ok 1) p) (mustE (isKind T p .ok 1) .ok p)).2.2 [44] then _ else _ : List (List UInt8 × List Nat) × Nat × SE) = _
    rw [hk, show nextP true p = p + 1 from rfl, show mustE true .ok p = .ok from rfl, hd, if_neg (by rw [hnx]; decide), name_key h]
    simp only [Prod.mk.injEq, and_true]
    refine ⟨trivial, ?_⟩
    simp [itemW, restW]
    omega
  | cons y m ih =>
    intro x f acc p hf hx hm h
    obtain ⟨f, rfl⟩ : ∃ g, f = g + 1 := ⟨f - 1, by simp at hf; omega⟩
    have hf2 : m.length + 1 < f + 1 := hf
    have h : (T.map keyT).drop p = (1, x.1, 0) :: (keys (dimsW x.2) ++ ((3, [44], 0) :: (keys (itemW y ++ restW m) ++ post))) := by rw [h]; simp [keys, itemW, restW]
    have h1 := (from_at h).choose_spec.2.2
    have hk : isKind T p .ok 1 = true := by rw [kind_key h]; rfl
    have hd := dims_read x.2 (p + 1) hx.1 hx.2 (fun k L e => by injection e with e _; subst e; decide) h1
    have h2 : (T.map keyT).drop (p + 1 + (dimsW x.2).length) = (3, [44], 0) :: (keys (itemW y ++ restW m) ++ post) := by
      rw [← List.drop_drop, h1, show (dimsW x.2).length = (keys (dimsW x.2)).length from (List.length_map ..).symm, List.drop_left]
    have h3 := (from_at h2).choose_spec.2.2
    have h4 := ih y f (acc ++ [x]) (p + 1 + (dimsW x.2).length + 1) (by omega) (hm y (List.mem_cons_self ..)) (fun z hz => hm z (List.mem_cons_of_mem _ hz)) h3
    show (if isNext T (dimsR T (nextP (isKind T p .ok 1) p) (mustE (isKind T p .ok 1) .ok p)).2.1 (dimsR T (nextP (isKind T p .ok 1) p) (mustE (isKind T p .ok 1) .ok p)).2.2 [44] then _ else _ : List (List UInt8 × List Nat) × Nat × SE) = _
    rw [hk, show nextP true p = p + 1 from rfl, show mustE true .ok p = .ok from rfl, hd, if_pos (by rw [next_key h2]; decide), name_key h, h4]
    simp only [List.append_assoc, List.singleton_append, Prod.mk.injEq, true_and, and_true]
    simp [itemW, restW]
    omega
theorem rest_len (m : List (List UInt8 × List Nat)) : m.length ≤ (restW m).length := by
  induction m with
  | nil => exact Nat.le_refl _
  | cons y m ih => simp only [restW, List.length_cons, List.length_append]; omega
/-- what the words of a declaration are read as -/
theorem decl_reads {T : List Words.T} (x : List UInt8 × List Nat) (m : List (List UInt8 × List Nat)) (hx : SizeOk x) (hm : ∀ y ∈ m, SizeOk y) (h : T.map keyT = keys (declW x m)) : ReadsAs T (.decl (x :: m)) T.length .ok := by
  have hlen : T.length = (declW x m).length := by rw [← List.length_map (f := keyT), h, List.length_map]
  have h0 : (T.map keyT).drop 0 = (4, [105, 110, 116, 101, 103, 101, 114], 0) :: (keys (itemW x ++ restW m) ++ []) := by rw [List.drop_zero, h, List.append_nil]; rfl
  have h1 := (from_at h0).choose_spec.2.2
  have hk : kindR T = (1, 1, .ok) := by
    unfold kindR
    rw [if_neg (by rw [hlen]; simp [declW]), if_pos (by rw [next_key h0]; decide)]
  have hi := items_read (T := T) (post := []) (fun k L e => by cases e) m x (T.length + 1) [] 1 (by rw [hlen]; have := rest_len m; simp only [declW, itemW, List.length_cons, List.length_append]; omega) hx hm h1
  refine ⟨by rw [hk], ?_⟩
  rw [hk]
  show itemsR T (T.length + 1) [] 1 .ok = _
  rw [hi, hlen]
  simp [declW]
  omega
end Go.Proofs.YthkbchefjagbbaaGreatDoor.Line

namespace Go.Proofs.YthkbchefjagbbaaGreatDoor.Line
open Words (Wd textW keyT)
set_option linter.unusedVariables false

/-- items, and then one more behind a comma -/
theorem items_go {T : List Words.T} {post : List Key} : ∀ (m : List (List UInt8 × List Nat)) (x : List UInt8 × List Nat) (f : Nat) (acc : List (List UInt8 × List Nat)) (p : Nat), SizeOk x → (∀ y ∈ m, SizeOk y) → (T.map keyT).drop p = keys (itemW x ++ restW m) ++ ((3, [44], 0) :: post) → itemsR T (f + m.length + 1) acc p .ok = itemsR T f (acc ++ x :: m) (p + (itemW x ++ restW m).length + 1) .ok ∧ (T.map keyT).drop (p + (itemW x ++ restW m).length + 1) = post := by
  intro m
  induction m with
  | nil =>
    intro x f acc p hx hm h
    have h : (T.map keyT).drop p = (1, x.1, 0) :: (keys (dimsW x.2) ++ ((3, [44], 0) :: post)) := by rw [h]; simp [keys, itemW, restW]
    have h1 := (from_at h).choose_spec.2.2
    have hk : isKind T p .ok 1 = true := by rw [kind_key h]; rfl
    have hd := dims_read x.2 (p + 1) hx.1 hx.2 (fun k L e => by injection e with e _; subst e; decide) h1
    have h2 : (T.map keyT).drop (p + 1 + (dimsW x.2).length) = (3, [44], 0) :: post := by
      rw [← List.drop_drop, h1, show (dimsW x.2).length = (keys (dimsW x.2)).length from (List.length_map ..).symm, List.drop_left]
    have h3 := (from_at h2).choose_spec.2.2
    have hl : p + (itemW x ++ restW []).length + 1 = p + 1 + (dimsW x.2).length + 1 := by simp [itemW, restW]; omega
    rw [hl]
    refine ⟨?_, h3⟩
    show (if isNext T (dimsR T (nextP (isKind T p .ok 1) p) (mustE (isKind T p .ok 1) .ok p)).2.1 (dimsR T (nextP (isKind T p .ok 1) p) (mustE (isKind T p .ok 1) .ok p)).2.2 [44] then _ else _ : List (List UInt8 × List Nat) × Nat × SE) = _
    rw [hk, show nextP true p = p + 1 from rfl, show mustE true .ok p = .ok from rfl, hd, if_pos (by rw [next_key h2]; decide), name_key h]
    rfl
  | cons y m ih =>
    intro x f acc p hx hm h
    have h : (T.map keyT).drop p = (1, x.1, 0) :: (keys (dimsW x.2) ++ ((3, [44], 0) :: (keys (itemW y ++ restW m) ++ ((3, [44], 0) :: post)))) := by rw [h]; simp [keys, itemW, restW]
    have h1 := (from_at h).choose_spec.2.2
    have hk : isKind T p .ok 1 = true := by rw [kind_key h]; rfl
    have hd := dims_read x.2 (p + 1) hx.1 hx.2 (fun k L e => by injection e with e _; subst e; decide) h1
    have h2 : (T.map keyT).drop (p + 1 + (dimsW x.2).length) = (3, [44], 0) :: (keys (itemW y ++ restW m) ++ ((3, [44], 0) :: post)) := by
      rw [← List.drop_drop, h1, show (dimsW x.2).length = (keys (dimsW x.2)).length from (List.length_map ..).symm, List.drop_left]
    have h3 := (from_at h2).choose_spec.2.2
    have h4 := ih y f (acc ++ [x]) (p + 1 + (dimsW x.2).length + 1) (hm y (List.mem_cons_self ..)) (fun z hz => hm z (List.mem_cons_of_mem _ hz)) h3
    have hl : p + (itemW x ++ restW (y :: m)).length + 1 = p + 1 + (dimsW x.2).length + 1 + (itemW y ++ restW m).length + 1 := by simp [itemW, restW]; omega
    rw [hl]
    refine ⟨?_, h4.2⟩
    show (if isNext T (dimsR T (nextP (isKind T p .ok 1) p) (mustE (isKind T p .ok 1) .ok p)).2.1 (dimsR T (nextP (isKind T p .ok 1) p) (mustE (isKind T p .ok 1) .ok p)).2.2 [44] then _ else _ : List (List UInt8 × List Nat) × Nat × SE) = _
    rw [hk, show nextP true p = p + 1 from rfl, show mustE true .ok p = .ok from rfl, hd, if_pos (by rw [next_key h2]; decide), name_key h]
    have h5 := h4.1
    rw [List.append_assoc] at h5
    exact h5
theorem kind_decl {T : List Words.T} {L : List Key} (h : T.map keyT = (4, [105, 110, 116, 101, 103, 101, 114], 0) :: L) : kindR T = (1, 1, .ok) ∧ (T.map keyT).drop 1 = L := by
  have h0 : (T.map keyT).drop 0 = (4, [105, 110, 116, 101, 103, 101, 114], 0) :: L := by rw [List.drop_zero, h]
  refine ⟨?_, (from_at h0).choose_spec.2.2⟩
  unfold kindR
  have hlen : T.length = L.length + 1 := by rw [← List.length_map (f := keyT), h]; rfl
  rw [if_neg (by omega), if_pos (by rw [next_key h0]; decide)]
theorem rest_app (m : List (List UInt8 × List Nat)) (z : List UInt8 × List Nat) : restW (m ++ [z]) = restW m ++ (wdS false 44 :: itemW z) := by
  induction m with
  | nil => simp [restW]
  | cons y m ih => simp only [List.cons_append, restW, ih, List.append_assoc]
theorem next_bad (T : List Words.T) (p a b : Nat) (c : List UInt8) : isNext T p (.leaf a b) c = false := rfl
/-- items, and then one whose sizes are wrong: what is wrong is told, where it stands -/
theorem decl_bad {T : List Words.T} (x z : List UInt8 × List Nat) (m : List (List UInt8 × List Nat)) (o e : Nat) (D' : List Nat) (hx : SizeOk x) (hm : ∀ y ∈ m, SizeOk y) (h : T.map keyT = keys (declW x (m ++ [z])))
    (hz : ∀ q, (T.map keyT).drop q = keys (dimsW z.2) → dimsR T q .ok = (D', q + o, .leaf (q + o) e)) :
    ReadsAs T (.decl (x :: m ++ [(z.1, D')])) ((declW x m).length + 2 + o) (.leaf ((declW x m).length + 2 + o) e) := by
  have hk : keys (declW x (m ++ [z])) = (4, [105, 110, 116, 101, 103, 101, 114], 0) :: (keys (itemW x ++ restW m) ++ ((3, [44], 0) :: keys (itemW z))) := by
    unfold declW
    rw [rest_app]
    simp [keys]
  obtain ⟨h1, h2⟩ := kind_decl (h.trans hk)
  have hlen : T.length = (declW x m).length + 1 + (itemW z).length := by
    rw [← List.length_map (f := keyT), h, hk]
    simp [declW, keys]
    omega
  have hm2 := rest_len m
  have hdl : (declW x m).length = (itemW x ++ restW m).length + 1 := by simp [declW]
  have hml : m.length ≤ (declW x m).length := by rw [hdl, List.length_append]; omega
  obtain ⟨f, hf⟩ : ∃ f, T.length + 1 = (f + 1) + m.length + 1 := ⟨T.length - m.length - 1, by omega⟩
  have h3 := items_go m x (f + 1) [] 1 hx hm h2
  obtain ⟨h4, h5⟩ := h3
  have hq : 1 + (itemW x ++ restW m).length + 1 = (declW x m).length + 1 := by rw [hdl]; omega
  rw [hq] at h4 h5
  generalize hQ : (declW x m).length + 1 = q at h4 h5
  have h6 : (T.map keyT).drop q = (1, z.1, 0) :: keys (dimsW z.2) := h5
  have h7 := (from_at h6).choose_spec.2.2
  have hd := hz (q + 1) h7
  have hkk : isKind T q .ok 1 = true := by rw [kind_key h6]; rfl
  refine ⟨by rw [h1], ?_⟩
  rw [h1, hf]
  show itemsR T (f + 1 + m.length + 1) [] 1 .ok = _
  rw [h4]
  show (if isNext T (dimsR T (nextP (isKind T q .ok 1) q) (mustE (isKind T q .ok 1) .ok q)).2.1 (dimsR T (nextP (isKind T q .ok 1) q) (mustE (isKind T q .ok 1) .ok q)).2.2 [44] then _ else _ : List (List UInt8 × List Nat) × Nat × SE) = _
  rw [hkk, show nextP true q = q + 1 from rfl, show mustE true .ok q = .ok from rfl, hd, if_neg (by rw [next_bad]; decide), name_key h6]
  have hqq : q + 1 + o = (declW x m).length + 2 + o := by omega
  simp only [hqq]
  rfl
theorem end_bad (T : List Words.T) (p a b : Nat) : endE T p (.leaf a b) = .leaf a b := by
  unfold endE
  split
  · rfl
  · rfl
/-- a size of 0 -/
theorem dims_zero (T : List Words.T) (q : Nat) (h : (T.map keyT).drop q = keys (dimsW [0])) : dimsR T q .ok = ([0], q + 1, .leaf (q + 1) 1) := by
  have h : (T.map keyT).drop q = (3, [40], 0) :: (2, Words.dec 0, 0) :: [(3, [41], 0)] := h
  have h1 := (from_at h).choose_spec.2.2
  unfold dimsR
  rw [if_pos (by rw [next_key h]; decide)]
  have hd : dimR T (q + 1) .ok = (0, q + 1, .leaf (q + 1) 1) := by
    unfold dimR
    rw [if_pos (by rw [kind_key h1]; rfl), num_key h1, if_pos rfl]
    rfl
  rw [hd]
  rfl
/-- five sizes -/
theorem dims_five (T : List Words.T) (q : Nat) (h : (T.map keyT).drop q = keys (dimsW [1, 2, 3, 4, 5])) : dimsR T q .ok = ([], q + 8, .leaf (q + 8) 4) := by
  have h : (T.map keyT).drop q = (3, [40], 0) :: (2, Words.dec 1, 1) :: (3, [44], 0) :: (2, Words.dec 2, 2) :: (3, [44], 0) :: (2, Words.dec 3, 3) :: (3, [44], 0) :: (2, Words.dec 4, 4) :: (3, [44], 0) :: (2, Words.dec 5, 5) :: [(3, [41], 0)] := h
  have h1 := (from_at h).choose_spec.2.2
  have h2 := (from_at h1).choose_spec.2.2
  have h3 := (from_at h2).choose_spec.2.2
  have h4 := (from_at h3).choose_spec.2.2
  have h5 := (from_at h4).choose_spec.2.2
  have h6 := (from_at h5).choose_spec.2.2
  have h7 := (from_at h6).choose_spec.2.2
  have h8 := (from_at h7).choose_spec.2.2
  unfold dimsR
  rw [if_pos (by rw [next_key h]; decide), dim_key h1 (by decide)]
  simp only [moreR]
  rw [if_pos (by rw [next_key h2]; decide), if_neg (by decide), dim_key h3 (by decide)]
  simp only []
  rw [if_pos (by rw [next_key h4]; decide), if_neg (by decide), dim_key h5 (by decide)]
  simp only []
  rw [if_pos (by rw [next_key h6]; decide), if_neg (by decide), dim_key h7 (by decide)]
  simp only []
  rw [if_pos (by rw [next_key h8]; decide), if_pos (by decide)]
  rfl
end Go.Proofs.YthkbchefjagbbaaGreatDoor.Line

namespace Go.Proofs.YthkbchefjagbbaaGreatDoor.Line
open Words (Wd textW keyT)
set_option linter.unusedVariables false

def Clear (s : List UInt8) : Prop := ∀ c ∈ s, c ≠ 33 ∧ c ≠ 10
/-- a word that is short, clear, and no great number -/
def WdOk (x : Wd) : Prop := x.2.2.1.length ≤ 20 ∧ Clear x.2.2.1 ∧ x.2.2.2 ≤ 65536
def NmOk (s : List UInt8) : Prop := NameOk s ∧ Clear s ∧ s.length ≤ 10
def ItOk (x : List UInt8 × List Nat) : Prop := NmOk x.1 ∧ x.2.length ≤ 5 ∧ ∀ d ∈ x.2, d ≤ 65536
theorem ItOk.item {x : List UInt8 × List Nat} (h : ItOk x) : ItemOk x := ⟨h.1.1, h.2.2⟩
theorem text_clear : ∀ (L : List Wd), (∀ x ∈ L, WdOk x) → Clear (textW L) ∧ (textW L).length ≤ 21 * L.length := by
  intro L
  induction L with
  | nil => intro _; exact ⟨fun c hc => (by cases hc), Nat.le_refl _⟩
  | cons x L ih =>
    intro h
    obtain ⟨h1, h2⟩ := ih (fun y hy => h y (List.mem_cons_of_mem _ hy))
    obtain ⟨k1, k2, _⟩ := h x (List.mem_cons_self ..)
    constructor
    · intro c hc
      unfold textW at hc
      rcases List.mem_append.1 hc with hc | hc
      · cases hb : x.1 with
        | true => rw [hb, if_pos rfl] at hc; obtain rfl := List.mem_singleton.1 hc; decide
        | false => rw [hb] at hc; cases hc
      · rcases List.mem_append.1 hc with hc | hc
        · exact k2 c hc
        · exact h1 c hc
    · unfold textW
      rw [List.length_append, List.length_append, List.length_cons]
      have : (if x.1 = true then [32] else ([] : List UInt8)).length ≤ 1 := by split <;> simp
      omega
theorem clear_one (c : UInt8) (h : c ≠ 33 ∧ c ≠ 10) : Clear [c] := fun d hd => by obtain rfl := List.mem_singleton.1 hd; exact h
theorem ok_sign (b : Bool) (c : UInt8) (h : c ≠ 33 ∧ c ≠ 10) : WdOk (wdS b c) := ⟨show 1 ≤ 20 by decide, clear_one c h, show 0 ≤ 65536 by decide⟩
theorem ok_num (b : Bool) (n : Nat) (h : n ≤ 65536) : WdOk (wdN b n) := ⟨dec_len n (by omega), fun c hc => digit_plain c (dec_all n c hc), h⟩
theorem ok_more : ∀ (D : List Nat), (∀ d ∈ D, d ≤ 65536) → (∀ x ∈ moreW D, WdOk x) ∧ (moreW D).length = 2 * D.length + 1 := by
  intro D
  induction D with
  | nil => intro _; exact ⟨fun x hx => by obtain rfl := List.mem_singleton.1 hx; exact ok_sign _ _ (by decide), rfl⟩
  | cons d D ih =>
    intro h
    obtain ⟨h1, h2⟩ := ih (fun e he => h e (List.mem_cons_of_mem _ he))
    refine ⟨fun x hx => ?_, by simp only [moreW, List.length_cons, h2]; omega⟩
    rcases List.mem_cons.1 hx with rfl | hx
    · exact ok_sign _ _ (by decide)
    · rcases List.mem_cons.1 hx with rfl | hx
      · exact ok_num _ _ (h d (List.mem_cons_self ..))
      · exact h1 x hx
theorem ok_dims (D : List Nat) (h : ∀ d ∈ D, d ≤ 65536) : (∀ x ∈ dimsW D, WdOk x) ∧ (dimsW D).length ≤ 2 * D.length + 1 := by
  cases D with
  | nil => exact ⟨fun x hx => (by cases hx), by simp [dimsW]⟩
  | cons d D =>
    obtain ⟨h1, h2⟩ := ok_more D (fun e he => h e (List.mem_cons_of_mem _ he))
    refine ⟨fun x hx => ?_, by simp only [dimsW, List.length_cons, h2]; omega⟩
    rcases List.mem_cons.1 hx with rfl | hx
    · exact ok_sign _ _ (by decide)
    · rcases List.mem_cons.1 hx with rfl | hx
      · exact ok_num _ _ (h d (List.mem_cons_self ..))
      · exact h1 x hx
theorem ok_item {x : List UInt8 × List Nat} (h : ItOk x) : (∀ y ∈ itemW x, WdOk y) ∧ (itemW x).length ≤ 12 := by
  obtain ⟨h1, h2⟩ := ok_dims x.2 h.2.2
  have h3 := h.2.1
  refine ⟨fun y hy => ?_, by simp only [itemW, List.length_cons]; omega⟩
  rcases List.mem_cons.1 hy with rfl | hy
  · exact ⟨Nat.le_trans h.1.2.2 (by decide), h.1.2.1, by show (0 : Nat) ≤ 65536; omega⟩
  · exact h1 y hy
theorem ok_rest : ∀ (m : List (List UInt8 × List Nat)), (∀ y ∈ m, ItOk y) → (∀ y ∈ restW m, WdOk y) ∧ (restW m).length ≤ 13 * m.length := by
  intro m
  induction m with
  | nil => intro _; exact ⟨fun y hy => (by cases hy), Nat.le_refl _⟩
  | cons x m ih =>
    intro h
    obtain ⟨h1, h2⟩ := ih (fun e he => h e (List.mem_cons_of_mem _ he))
    obtain ⟨h3, h4⟩ := ok_item (h x (List.mem_cons_self ..))
    refine ⟨fun y hy => ?_, by simp only [restW, List.length_cons, List.length_append]; omega⟩
    rcases List.mem_cons.1 hy with rfl | hy
    · exact ok_sign _ _ (by decide)
    · rcases List.mem_append.1 hy with hy | hy
      · exact h3 y hy
      · exact h1 y hy
theorem ok_decl (x : List UInt8 × List Nat) (m : List (List UInt8 × List Nat)) (hx : ItOk x) (hm : ∀ y ∈ m, ItOk y) : (∀ y ∈ declW x m, WdOk y) ∧ (declW x m).length ≤ 13 * m.length + 13 := by
  obtain ⟨h1, h2⟩ := ok_rest m hm
  obtain ⟨h3, h4⟩ := ok_item hx
  refine ⟨fun y hy => ?_, by simp only [declW, List.length_cons, List.length_append]; omega⟩
  rcases List.mem_cons.1 hy with rfl | hy
  · refine ⟨by decide, fun c hc => ?_, by decide⟩
    have : ∀ c ∈ ([105, 110, 116, 101, 103, 101, 114] : List UInt8), c ≠ 33 ∧ c ≠ 10 := by decide
    exact this c hc
  · rcases List.mem_append.1 hy with hy | hy
    · exact h3 y hy
    · exact h1 y hy
/-- the line of a declaration: its words, whatever they are read as -/
theorem decl_line (x : List UInt8 × List Nat) (m : List (List UInt8 × List Nat)) (hl : m.length ≤ 9) (hx : ItOk x) (hm : ∀ y ∈ m, ItOk y) (ps : PS) (p : Nat) (er : SE) (hr : ∀ T : List Words.T, T.map keyT = keys (declW x m) → ReadsAs T ps p er) :
    Lined (stText (.decl (x :: m))) ps p er ∧ (wordsOf (stText (.decl (x :: m)))).length = (declW x m).length ∧ (stText (.decl (x :: m))).length ≤ 3000 := by
  obtain ⟨T, hT, hk⟩ := decl_toks x m hx.item (fun y hy => (hm y hy).item)
  obtain ⟨h1, h2⟩ := ok_decl x m hx hm
  obtain ⟨h3, h4⟩ := text_clear _ h1
  rw [decl_text] at h3 h4
  have hb : Plain.bodyOf (stText (.decl (x :: m))) = stText (.decl (x :: m)) := body_all _ h3
  have hw : wordsOf (stText (.decl (x :: m))) = T := by unfold wordsOf; rw [hb, hT]
  have hlen : T.length = (declW x m).length := by rw [← List.length_map (f := keyT), hk, List.length_map]
  have hN : NumOk T := fun t ht => by
    have h5 : keyT t ∈ (declW x m).map (·.2) := hk ▸ List.mem_map_of_mem ht
    obtain ⟨y, hy, he⟩ := List.mem_map.1 h5
    have h6 := (h1 y hy).2.2
    have h7 : y.2.2.2 = t.n := by rw [he]
    omega
  have h8 : (stText (.decl (x :: m))).length ≤ 3000 := by omega
  exact ⟨⟨by omega, by rw [hb]; omega, by rw [hw, hb, hT], by rw [hw]; exact hN, by rw [hw]; omega, by rw [hw]; exact hr T hk⟩, by rw [hw, hlen], h8⟩
theorem v_one (i : Nat) (hi : i < 10) : Words.dec i = [UInt8.ofNat (48 + i)] := by
  rw [← dec_digits, Lib.decDigits_one hi]
/-- the names v0, v1, .. -/
theorem v_name (i : Nat) (hi : i < 10) : NmOk (118 :: Words.dec i) := by
  rw [v_one i hi]
  match i, hi with
  | 0, _ | 1, _ | 2, _ | 3, _ | 4, _ | 5, _ | 6, _ | 7, _ | 8, _ | 9, _ => exact ⟨⟨by kernel_rfl, by simp⟩, by unfold Clear; decide, by decide⟩
theorem z_name : NmOk [122] := ⟨⟨by kernel_rfl, by simp⟩, by unfold Clear; decide, by decide⟩
/-- a declaration with one item more -/
theorem more_line (x z : List UInt8 × List Nat) (m : List (List UInt8 × List Nat)) : stText (.decl (x :: (m ++ [z]))) = stText (.decl (x :: m)) ++ ([44, 32] ++ itemP z) := by
  rw [← decl_text, ← decl_text]
  unfold declW
  rw [rest_app]
  simp only [textW, Words.textW_app, item_text, List.append_assoc]
  rfl
end Go.Proofs.YthkbchefjagbbaaGreatDoor.Line
