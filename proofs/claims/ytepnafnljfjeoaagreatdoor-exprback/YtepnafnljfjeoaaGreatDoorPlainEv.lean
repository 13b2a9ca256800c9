/- Plain: what expressions come to, over names and cells: from the left, the first error; a list of what is left does the same. Nothing of the program is named. -/
import Derived.Test.YtepnafnljfjeoaaGreatDoorPlainAll
import Derived.RowKit
namespace Go.Proofs.YtepnafnljfjeoaaGreatDoor.Ev
open Go.RowKit
open Ex (E)
set_option linter.unusedVariables false

structure Sy where
  name : List UInt8
  dims : List Int
  at_ : Int
  size : Int
/-- a number, or what is wrong (err: 0 where nothing is) -/
structure Res where
  v : Int
  word : List UInt8
  at_ : Nat
  err : Nat
def Res.ok (v : Int) : Res := ⟨v, [], 0, 0⟩
def Res.bad (word : List UInt8) (k e : Nat) : Res := ⟨0, word, k, e⟩
abbrev wSub : List UInt8 := [115, 117, 98, 115, 99, 114, 105, 112, 116]
abbrev wDiv : List UInt8 := [100, 105, 118]
def find : List Sy → List UInt8 → Option Sy
  | [], _ => none
  | s :: r, n => if s.name = n then some s else find r n
def zSy : Sy := ⟨[], [], 0, 0⟩
/-- a cell: subscripts from the left -/
def cellGo : Nat → List Int → List Int → Int → Int → Res
  | k, s :: ss, d :: ds, a, p => if s < 1 ∨ d < s then .bad wSub k 14 else cellGo (k + 1) ss ds (a + (s - 1) * p) (p * d)
  | _, [], _, a, _ => .ok a
  | _, _ :: _, [], a, _ => .ok a
def cellP (T : List Sy) (name : List UInt8) (l : List Int) : Res := cellGo 0 l ((find T name).getD zSy).dims ((find T name).getD zSy).at_ 1
def heldP (T : List Sy) (s : List Int) (name : List UInt8) (l : List Int) : Res :=
  if (cellP T name l).err ≠ 0 then .bad (cellP T name l).word (cellP T name l).at_ (cellP T name l).err
  else if (cellP T name l).v < 0 ∨ (s.length : Int) ≤ (cellP T name l).v then .ok 0
  else .ok (s.getD (cellP T name l).v.toNat 0)
def quoP (a b : Int) : Res := if b = 0 then .bad wDiv 0 13 else .ok (wrap64 (a.tdiv b))
def nth (l : List Int) (i : Nat) : Int := l.getD i 0
def valP (T : List Sy) (s : List Int) (x : E) (l : List Int) : Res :=
  if x.kind = 1 then .ok x.n
  else if x.kind = 2 ∨ x.kind = 3 then heldP T s x.name l
  else if x.kind = 4 then .ok (wrap64 (-(nth l 0)))
  else if x.kind = 5 then .ok (wrap64 (nth l 0 + nth l 1))
  else if x.kind = 6 then .ok (wrap64 (nth l 0 - nth l 1))
  else if x.kind = 7 then .ok (wrap64 (nth l 0 * nth l 1))
  else if x.kind = 8 then quoP (nth l 0) (nth l 1)
  else .ok 0
/-- what is worked out ahead -/
def parts (x : E) : List E := if 3 ≤ x.kind ∧ x.kind ≤ 8 then x.a else []
mutual
def ev (T : List Sy) (s : List Int) : E → Res
  | .mk k n name a => if 3 ≤ k ∧ k ≤ 8 then (match evs T s a with | .inl r => r | .inr l => valP T s (.mk k n name a) l) else valP T s (.mk k n name a) []
def evs (T : List Sy) (s : List Int) : List E → Sum Res (List Int)
  | [] => .inr []
  | x :: r => if (ev T s x).err ≠ 0 then .inl (ev T s x) else (match evs T s r with | .inl e => .inl e | .inr l => .inr ((ev T s x).v :: l))
end
theorem ev_eq (T : List Sy) (s : List Int) (x : E) : ev T s x = match evs T s (parts x) with | .inl r => r | .inr l => valP T s x l := by
  cases x with
  | mk k n name a =>
    rw [ev]
    by_cases h : 3 ≤ k ∧ k ≤ 8
    · have hp : parts (.mk k n name a) = a := if_pos h
      rw [if_pos h, hp]
    · have hp : parts (.mk k n name a) = [] := if_neg h
      rw [if_neg h, hp, evs]
theorem ok_bad {r : Res} (h : r.err ≠ 0) (h2 : r.v = 0) : r = .bad r.word r.at_ r.err := by cases r; simp only at h2; subst h2; rfl
mutual
def sz : E → Nat
  | .mk _ _ _ a => 1 + szs a
def szs : List E → Nat
  | [] => 0
  | x :: r => sz x + szs r
end
theorem sz_pos (x : E) : 1 ≤ sz x := by cases x; rw [sz]; omega
theorem szs_len : ∀ (l : List E), l.length ≤ szs l
  | [] => by simp
  | x :: r => by have := szs_len r; have := sz_pos x; rw [szs, List.length_cons]; omega
theorem szs_parts (x : E) : szs (parts x) + 1 ≤ sz x := by
  cases x with
  | mk k n name a =>
    rw [sz]
    by_cases h : 3 ≤ k ∧ k ≤ 8
    · have hp : parts (.mk k n name a) = a := if_pos h
      rw [hp]; omega
    · have hp : parts (.mk k n name a) = [] := if_neg h
      rw [hp, szs]; omega
abbrev Tk : Type := E × Bool
/-- what is left comes to this -/
def den (T : List Sy) (s : List Int) : List Tk → List Int → Sum Res (List Int)
  | [], D => .inr D
  | (x, false) :: K, D => if (ev T s x).err ≠ 0 then .inl (ev T s x) else den T s K (D ++ [(ev T s x).v])
  | (x, true) :: K, D => if (valP T s x (D.drop (D.length - (parts x).length))).err ≠ 0 then .inl (valP T s x (D.drop (D.length - (parts x).length))) else den T s K (D.take (D.length - (parts x).length) ++ [(valP T s x (D.drop (D.length - (parts x).length))).v])
/-- there are values enough -/
def fit : List Tk → Nat → Prop
  | [], _ => True
  | (x, false) :: K, n => fit K (n + 1)
  | (x, true) :: K, n => (parts x).length ≤ n ∧ fit K (n - (parts x).length + 1)
def wt : List Tk → Nat
  | [] => 0
  | (x, false) :: K => 2 * sz x + wt K
  | (x, true) :: K => 1 + wt K
def fresh (l : List E) : List Tk := l.map fun x => (x, false)
theorem den_fresh (T : List Sy) (s : List Int) (K : List Tk) : ∀ (l : List E) (D : List Int), den T s (fresh l ++ K) D = match evs T s l with | .inl r => .inl r | .inr m => den T s K (D ++ m) := by
  intro l
  induction l with
  | nil => intro D; simp [fresh, evs]
  | cons x r ih =>
    intro D
    show den T s ((x, false) :: (fresh r ++ K)) D = _
    rw [den, evs]
    by_cases h : (ev T s x).err ≠ 0
    · rw [if_pos h, if_pos h]
    · rw [if_neg h, if_neg h, ih]
      cases evs T s r with
      | inl e => rfl
      | inr m => simp
theorem evs_len (T : List Sy) (s : List Int) : ∀ (l : List E) (m : List Int), evs T s l = .inr m → m.length = l.length := by
  intro l
  induction l with
  | nil => intro m h; rw [evs] at h; injection h with h; subst h; rfl
  | cons x r ih =>
    intro m h
    rw [evs] at h
    split at h
    · cases h
    · split at h
      · cases h
      · rename_i l2 h2; injection h with h; subst h; simp [ih _ h2]
theorem den_push (T : List Sy) (s : List Int) (x : E) (K : List Tk) (D : List Int) : den T s (fresh (parts x) ++ (x, true) :: K) D = den T s ((x, false) :: K) D := by
  rw [den_fresh, den, ev_eq T s x]
  cases h : evs T s (parts x) with
  | inl r =>
    -- an error of a part
    have hr : r.err ≠ 0 := by
      have key : ∀ l, evs T s l = .inl r → r.err ≠ 0 := by
        intro l
        induction l with
        | nil => intro h; rw [evs] at h; cases h
        | cons y q ih =>
          intro h
          rw [evs] at h
          split at h
          · rename_i h2; injection h with h; subst h; exact h2
          · split at h
            · rename_i h2; injection h with h; subst h; exact ih h2
            · cases h
      exact key _ h
    simp only [if_pos hr]
  | inr m =>
    have hm := evs_len T s _ _ h
    simp only
    rw [den]
    have h1 : (D ++ m).length - (parts x).length = D.length := by rw [List.length_append]; omega
    rw [h1, List.drop_left, List.take_left]
theorem fit_fresh (K : List Tk) : ∀ (l : List E) (n : Nat), fit (fresh l ++ K) n ↔ fit K (n + l.length) := by
  intro l
  induction l with
  | nil => intro n; simp [fresh]
  | cons x r ih =>
    intro n
    show fit ((x, false) :: (fresh r ++ K)) n ↔ _
    rw [fit, ih, List.length_cons, show n + 1 + r.length = n + (r.length + 1) by omega]
theorem fit_push {x : E} {K : List Tk} {n : Nat} (h : fit ((x, false) :: K) n) : fit (fresh (parts x) ++ (x, true) :: K) n := by
  rw [fit_fresh, fit]
  rw [fit] at h
  exact ⟨by omega, by rw [show n + (parts x).length - (parts x).length + 1 = n + 1 by omega]; exact h⟩
theorem wt_append (l m : List Tk) : wt (l ++ m) = wt l + wt m := by
  induction l with
  | nil => simp [wt]
  | cons p r ih =>
    obtain ⟨x, b⟩ := p
    cases b
    · show wt ((x, false) :: (r ++ m)) = _; rw [wt, wt, ih]; omega
    · show wt ((x, true) :: (r ++ m)) = _; rw [wt, wt, ih]; omega
theorem wt_fresh (l : List E) : wt (fresh l) = 2 * szs l := by
  induction l with
  | nil => rfl
  | cons x r ih => show wt ((x, false) :: fresh r) = _; rw [wt, ih, szs]; omega
theorem wt_push (x : E) (K : List Tk) : wt (fresh (parts x) ++ (x, true) :: K) + 1 ≤ wt ((x, false) :: K) := by
  rw [wt_append, wt_fresh, wt, wt]
  have := szs_parts x
  omega
theorem wt_len (K : List Tk) : K.length ≤ wt K := by
  induction K with
  | nil => simp
  | cons p r ih =>
    obtain ⟨x, b⟩ := p
    cases b
    · rw [wt, List.length_cons]; have := sz_pos x; omega
    · rw [wt, List.length_cons]; omega
/-- a task that is done by itself -/
theorem den_leaf (T : List Sy) (s : List Int) (x : E) (K : List Tk) (D : List Int) (h : parts x = []) : den T s ((x, false) :: K) D = den T s ((x, true) :: K) D := by
  have h1 : ev T s x = valP T s x [] := by rw [ev_eq, h, evs]
  rw [den, den, h, h1]
  simp
theorem wrap_add_right (a b : Int) : wrap64 (a + wrap64 b) = wrap64 (a + b) := by unfold wrap64; omega
theorem wrap_zero_add (a : Int) : wrap64 (0 + wrap64 (-a)) = wrap64 (-a) := by rw [wrap_add_right, Int.zero_add]
theorem wrap_sub_neg (a b : Int) : wrap64 (a + wrap64 (-b)) = wrap64 (a - b) := by rw [wrap_add_right]; rfl
def prod : List Int → Int
  | [] => 1
  | d :: r => d * prod r
theorem prod_pos : ∀ (l : List Int), (∀ d ∈ l, 1 ≤ d) → 1 ≤ prod l
  | [], _ => by simp [prod]
  | d :: r, h => by
    have h1 := h d (by simp)
    have h2 := prod_pos r (fun x hx => h x (by simp [hx]))
    show 1 ≤ d * prod r
    have := Int.mul_le_mul h1 h2 (by omega) (by omega)
    omega
/-- names that are right: their cells are few -/
def Fine (T : List Sy) : Prop := ∀ x ∈ T, x.dims.length ≤ 1000 ∧ (∀ d ∈ x.dims, 1 ≤ d) ∧ prod x.dims ≤ 1000000 ∧ 0 ≤ x.at_ ∧ x.at_ ≤ 1000000
def Sub1 (x : Sy) : Prop := x.dims.length ≤ 1000 ∧ (∀ d ∈ x.dims, 1 ≤ d) ∧ prod x.dims ≤ 1000000 ∧ 0 ≤ x.at_ ∧ x.at_ ≤ 1000000
theorem find_mem {T : List Sy} {name : List UInt8} {x : Sy} (h : find T name = some x) : x ∈ T := by
  induction T with
  | nil => cases h
  | cons y r ih =>
    rw [find] at h
    split at h
    · injection h with h; subst h; simp
    · exact List.mem_cons_of_mem _ (ih h)
theorem fine_find {T : List Sy} (h : Fine T) (name : List UInt8) : Sub1 ((find T name).getD zSy) := by
  cases hf : find T name with
  | none => exact ⟨by simp [zSy], by simp [zSy], by simp [zSy, prod], by simp [zSy], by simp [zSy]⟩
  | some x => exact h x (find_mem hf)
/-- where the numbers of a cell's reckoning lie -/
structure Small (A P : Int) (ds : List Int) : Prop where
  a0 : 0 ≤ A
  a1 : A ≤ 1000000 + P
  p0 : 1 ≤ P
  p1 : P * prod ds ≤ 1000000
  all : ∀ d ∈ ds, 1 ≤ d
theorem Small.ple {A P : Int} {ds : List Int} (h : Small A P ds) : P ≤ 1000000 := by
  have h1 := prod_pos ds h.all
  have := Int.mul_le_mul_of_nonneg_left h1 (show 0 ≤ P by have := h.p0; omega)
  have := h.p1
  omega
theorem Small.next {A P d s : Int} {ds : List Int} (h : Small A P (d :: ds)) (h1 : ¬ s < 1) (h2 : ¬ d < s) : Small (A + (s - 1) * P) (P * d) ds ∧ 0 ≤ (s - 1) * P ∧ (s - 1) * P ≤ 1000000 ∧ d ≤ 1000000 := by
  have hd : 1 ≤ d := h.all d (by simp)
  have hp := h.p0
  have ha := h.a0
  have ha1 := h.a1
  have hall : ∀ x ∈ ds, 1 ≤ x := fun x hx => h.all x (by simp [hx])
  have hpr := prod_pos ds hall
  have h3 : P * d * prod ds ≤ 1000000 := by have := h.p1; rw [prod, ← Int.mul_assoc] at this; exact this
  have h4 : 1 ≤ P * d := by have := Int.mul_le_mul hp hd (by omega) (by omega); omega
  have h5 : P * d ≤ 1000000 := by
    have := Int.mul_le_mul_of_nonneg_left hpr (show 0 ≤ P * d by omega)
    omega
  have h6 : 0 ≤ (s - 1) * P := Int.mul_nonneg (by omega) (by omega)
  have h7 : (s - 1) * P ≤ (d - 1) * P := Int.mul_le_mul_of_nonneg_right (by omega) (by omega)
  have h8 : (d - 1) * P = P * d - P := by rw [Int.sub_mul, Int.one_mul, Int.mul_comm]
  have h9 : d ≤ P * d := by
    have := Int.mul_le_mul_of_nonneg_right hp (show 0 ≤ d by omega)
    omega
  exact ⟨⟨by omega, by omega, h4, h3, hall⟩, h6, by omega, by omega⟩
theorem cellGo_in (k : Nat) (s d : Int) (ss ds : List Int) (A P : Int) (h1 : ¬ s < 1) (h2 : ¬ d < s) : cellGo k (s :: ss) (d :: ds) A P = cellGo (k + 1) ss ds (A + (s - 1) * P) (P * d) := by
  rw [cellGo, if_neg (by omega)]
theorem cellGo_out (k : Nat) (s d : Int) (ss ds : List Int) (A P : Int) (h : s < 1 ∨ d < s) : cellGo k (s :: ss) (d :: ds) A P = .bad wSub k 14 := by
  rw [cellGo, if_pos h]
theorem cellGo_end (k : Nat) (ss ds : List Int) (A P : Int) (h : ss = [] ∨ ds = []) : cellGo k ss ds A P = .ok A := by
  cases ss with
  | nil => rw [cellGo]
  | cons s ss =>
    cases ds with
    | nil => rw [cellGo]
    | cons d ds => simp at h
theorem nth_zero (l : List Int) (h : 0 < l.length) : nth l 0 = l[0] := by unfold nth; simp [h]
theorem nth_one (l : List Int) (h : 1 < l.length) : nth l 1 = l[1] := by unfold nth; simp [h]
theorem nth_out (l : List Int) (i : Nat) (h : ¬ i < l.length) : nth l i = 0 := by
  unfold nth
  rw [List.getD_eq_getElem?_getD, List.getElem?_eq_none (by omega)]
  rfl
end Go.Proofs.YtepnafnljfjeoaaGreatDoor.Ev
