/- Plain facts on expressions: trees, how words are read as one (with so many rounds at most), that more rounds change nothing, the rules by which a reading goes. Nothing of the program is named. -/
import Derived.Test.YtdpjipphbhomkaaGreatDoorPlainTok
namespace Go.Proofs.YtdpjipphbhomkaaGreatDoor.Ex
set_option linter.unusedVariables false
open Words (T)

inductive E
  | mk (kind : Int) (n : Int) (name : List UInt8) (a : List E)
def E.kind : E → Int | .mk k _ _ _ => k
def E.n : E → Int | .mk _ n _ _ => n
def E.name : E → List UInt8 | .mk _ _ s _ => s
def E.a : E → List E | .mk _ _ _ a => a
theorem E.eta (x : E) : E.mk x.kind x.n x.name x.a = x := by cases x; rfl
def E.none : E := .mk 0 0 [] []

theorem E.ind (P : E → Prop) (h : ∀ x : E, (∀ y ∈ x.a, P y) → P x) : ∀ x, P x := by
  have key : ∀ n, ∀ x : E, sizeOf x ≤ n → P x := by
    intro n
    induction n with
    | zero => intro x hx; cases x; simp at hx
    | succ n ih =>
      intro x hx
      refine h x (fun y hy => ih y ?_)
      cases x with
      | mk k m s a =>
        have h1 := List.sizeOf_lt_of_mem (show y ∈ a from hy)
        simp at hx
        omega
  exact fun x => key _ x (Nat.le_refl _)
/-- a tree that has few parts everywhere -/
inductive Sm : E → Prop
  | mk (x : E) (h : x.a.length ≤ 1000) (hs : ∀ y ∈ x.a, Sm y) : Sm x
theorem Sm.len {x : E} (h : Sm x) : x.a.length ≤ 1000 := by cases h; assumption
theorem Sm.part {x : E} (h : Sm x) : ∀ y ∈ x.a, Sm y := by cases h; assumption
/-- where a reading is; what is wrong (0: nothing), at which word -/
structure St where
  pos : Nat
  err : Nat
  bad : Nat
deriving DecidableEq
def St.fail (s : St) (k e : Nat) : St := if s.err = 0 then ⟨s.pos, e, k⟩ else s
def St.next (s : St) : St := ⟨s.pos + 1, s.err, s.bad⟩
/-- is that sign next? -/
def isSign (l : List T) (s : St) (c : List UInt8) : Bool := decide (s.err = 0) && (match l[s.pos]? with | some t => decide (t.kind = 3) && decide (t.text = c) | none => false)

mutual
def pExpr (l : List T) : Nat → Nat → St → Option (E × St)
  | 0, _, _ => none
  | f + 1, d, s => match pTerm l f d s with
    | some (e, s1) => pSums l f d e s1
    | none => none
def pSums (l : List T) : Nat → Nat → E → St → Option (E × St)
  | 0, _, _, _ => none
  | f + 1, d, e, s =>
    if isSign l s [43] then (match pTerm l f d s.next with
      | some (x, s1) => pSums l f d (.mk 5 0 [] [e, x]) s1
      | none => none)
    else if isSign l s [45] then (match pTerm l f d s.next with
      | some (x, s1) => pSums l f d (.mk 6 0 [] [e, x]) s1
      | none => none)
    else some (e, s)
def pTerm (l : List T) : Nat → Nat → St → Option (E × St)
  | 0, _, _ => none
  | f + 1, d, s => match pFactor l f d s with
    | some (e, s1) => pProds l f d e s1
    | none => none
def pProds (l : List T) : Nat → Nat → E → St → Option (E × St)
  | 0, _, _, _ => none
  | f + 1, d, e, s =>
    if isSign l s [42] then (match pFactor l f d s.next with
      | some (x, s1) => pProds l f d (.mk 7 0 [] [e, x]) s1
      | none => none)
    else if isSign l s [47] then (match pFactor l f d s.next with
      | some (x, s1) => pProds l f d (.mk 8 0 [] [e, x]) s1
      | none => none)
    else some (e, s)
def pFactor (l : List T) : Nat → Nat → St → Option (E × St)
  | 0, _, _ => none
  | f + 1, d, s =>
    if s.err ≠ 0 then some (E.none, s)
    else match l[s.pos]? with
    | none => some (E.none, s.fail s.pos 2)
    | some t =>
      if t.kind = 2 then some (.mk 1 t.n [] [], s.next)
      else if t.kind = 1 then
        (if isSign l s.next [40] then (match pSubs l f d s.next.next with
          | some (xs, s1) => some (.mk 3 0 t.text xs, s1)
          | none => none)
        else some (.mk 2 0 t.text [], s.next))
      else if isSign l s [45] || isSign l s [40] then
        (if 20 ≤ d then some (E.none, s.fail s.pos 4)
        else if isSign l s [45] then (match pFactor l f (d + 1) s.next with
          | some (x, s1) => some (.mk 4 0 [] [x], s1)
          | none => none)
        else (match pExpr l f (d + 1) s.next with
          | some (x, s1) => some (x, if isSign l s1 [41] then s1.next else s1.fail s1.pos 2)
          | none => none))
      else some (E.none, s.fail s.pos 2)
def pSubs (l : List T) : Nat → Nat → St → Option (List E × St)
  | 0, _, _ => none
  | f + 1, d, s => match pExpr l f d s with
    | some (x, s1) => pMore l f d [x] s1
    | none => none
def pMore (l : List T) : Nat → Nat → List E → St → Option (List E × St)
  | 0, _, _, _ => none
  | f + 1, d, xs, s =>
    if isSign l s [44] then
      (if 4 ≤ xs.length then some (xs, s.fail s.pos 4)
      else (match pExpr l f d s.next with
        | some (x, s1) => pMore l f d (xs ++ [x]) s1
        | none => none))
    else some (xs, if isSign l s [41] then s.next else s.fail s.pos 2)
end

def Mono (l : List T) (f : Nat) : Prop :=
  (∀ d s r, pExpr l f d s = some r → pExpr l (f + 1) d s = some r) ∧ (∀ d e s r, pSums l f d e s = some r → pSums l (f + 1) d e s = some r) ∧
  (∀ d s r, pTerm l f d s = some r → pTerm l (f + 1) d s = some r) ∧ (∀ d e s r, pProds l f d e s = some r → pProds l (f + 1) d e s = some r) ∧
  (∀ d s r, pFactor l f d s = some r → pFactor l (f + 1) d s = some r) ∧ (∀ d s r, pSubs l f d s = some r → pSubs l (f + 1) d s = some r) ∧
  (∀ d xs s r, pMore l f d xs s = some r → pMore l (f + 1) d xs s = some r)
theorem mono (l : List T) : ∀ f, Mono l f := by
  intro f
  induction f with
  | zero => exact ⟨fun _ _ _ h => by simp [pExpr] at h, fun _ _ _ _ h => by simp [pSums] at h, fun _ _ _ h => by simp [pTerm] at h, fun _ _ _ _ h => by simp [pProds] at h, fun _ _ _ h => by simp [pFactor] at h, fun _ _ _ h => by simp [pSubs] at h, fun _ _ _ _ h => by simp [pMore] at h⟩
  | succ f ih =>
    obtain ⟨iE, iS, iT, iP, iF, iU, iM⟩ := ih
    refine ⟨?_, ?_, ?_, ?_, ?_, ?_, ?_⟩
    · intro d s r h
      rw [pExpr] at h ⊢
      cases h1 : pTerm l f d s with
      | none => rw [h1] at h; cases h
      | some x => rw [h1] at h; rw [iT _ _ _ h1]; exact iS _ _ _ _ h
    · intro d e s r h
      rw [pSums] at h ⊢
      split
      · rename_i c
        rw [if_pos c] at h
        cases h1 : pTerm l f d s.next with
        | none => rw [h1] at h; cases h
        | some x => rw [h1] at h; rw [iT _ _ _ h1]; exact iS _ _ _ _ h
      · rename_i c
        rw [if_neg c] at h
        split
        · rename_i c2
          rw [if_pos c2] at h
          cases h1 : pTerm l f d s.next with
          | none => rw [h1] at h; cases h
          | some x => rw [h1] at h; rw [iT _ _ _ h1]; exact iS _ _ _ _ h
        · rename_i c2
          rw [if_neg c2] at h
          exact h
    · intro d s r h
      rw [pTerm] at h ⊢
      cases h1 : pFactor l f d s with
      | none => rw [h1] at h; cases h
      | some x => rw [h1] at h; rw [iF _ _ _ h1]; exact iP _ _ _ _ h
    · intro d e s r h
      rw [pProds] at h ⊢
      split
      · rename_i c
        rw [if_pos c] at h
        cases h1 : pFactor l f d s.next with
        | none => rw [h1] at h; cases h
        | some x => rw [h1] at h; rw [iF _ _ _ h1]; exact iP _ _ _ _ h
      · rename_i c
        rw [if_neg c] at h
        split
        · rename_i c2
          rw [if_pos c2] at h
          cases h1 : pFactor l f d s.next with
          | none => rw [h1] at h; cases h
          | some x => rw [h1] at h; rw [iF _ _ _ h1]; exact iP _ _ _ _ h
        · rename_i c2
          rw [if_neg c2] at h
          exact h
    · intro d s r h
      rw [pFactor] at h ⊢
      by_cases c0 : s.err ≠ 0
      · rw [if_pos c0] at h ⊢; exact h
      · rw [if_neg c0] at h ⊢
        cases ht : l[s.pos]? with
        | none => rw [ht] at h; exact h
        | some t =>
          rw [ht] at h
          simp only at h ⊢
          by_cases c1 : t.kind = 2
          · rw [if_pos c1] at h ⊢; exact h
          · rw [if_neg c1] at h ⊢
            by_cases c2 : t.kind = 1
            · rw [if_pos c2] at h ⊢
              by_cases c3 : isSign l s.next [40] = true
              · rw [if_pos c3] at h ⊢
                cases h1 : pSubs l f d s.next.next with
                | none => rw [h1] at h; cases h
                | some x => rw [h1] at h; rw [iU _ _ _ h1]; exact h
              · rw [if_neg c3] at h ⊢; exact h
            · rw [if_neg c2] at h ⊢
              by_cases c3 : (isSign l s [45] || isSign l s [40]) = true
              · rw [if_pos c3] at h ⊢
                by_cases c4 : 20 ≤ d
                · rw [if_pos c4] at h ⊢; exact h
                · rw [if_neg c4] at h ⊢
                  by_cases c5 : isSign l s [45] = true
                  · rw [if_pos c5] at h ⊢
                    cases h1 : pFactor l f (d + 1) s.next with
                    | none => rw [h1] at h; cases h
                    | some x => rw [h1] at h; rw [iF _ _ _ h1]; exact h
                  · rw [if_neg c5] at h ⊢
                    cases h1 : pExpr l f (d + 1) s.next with
                    | none => rw [h1] at h; cases h
                    | some x => rw [h1] at h; rw [iE _ _ _ h1]; exact h
              · rw [if_neg c3] at h ⊢; exact h
    · intro d s r h
      rw [pSubs] at h ⊢
      cases h1 : pExpr l f d s with
      | none => rw [h1] at h; cases h
      | some x => rw [h1] at h; rw [iE _ _ _ h1]; exact iM _ _ _ _ h
    · intro d xs s r h
      rw [pMore] at h ⊢
      by_cases c : isSign l s [44] = true
      · rw [if_pos c] at h ⊢
        by_cases c4 : 4 ≤ xs.length
        · rw [if_pos c4] at h ⊢; exact h
        · rw [if_neg c4] at h ⊢
          cases h1 : pExpr l f d s.next with
          | none => rw [h1] at h; cases h
          | some x => rw [h1] at h; rw [iE _ _ _ h1]; exact iM _ _ _ _ h
      · rw [if_neg c] at h ⊢; exact h

/-! ### a reading, with rounds enough -/
def RExpr (l : List T) (d : Nat) (s : St) (r : E × St) : Prop := ∃ f, pExpr l f d s = some r
def RSums (l : List T) (d : Nat) (e : E) (s : St) (r : E × St) : Prop := ∃ f, pSums l f d e s = some r
def RTerm (l : List T) (d : Nat) (s : St) (r : E × St) : Prop := ∃ f, pTerm l f d s = some r
def RProds (l : List T) (d : Nat) (e : E) (s : St) (r : E × St) : Prop := ∃ f, pProds l f d e s = some r
def RFactor (l : List T) (d : Nat) (s : St) (r : E × St) : Prop := ∃ f, pFactor l f d s = some r
def RSubs (l : List T) (d : Nat) (s : St) (r : List E × St) : Prop := ∃ f, pSubs l f d s = some r
def RMore (l : List T) (d : Nat) (xs : List E) (s : St) (r : List E × St) : Prop := ∃ f, pMore l f d xs s = some r
theorem up {l : List T} {α : Type} (p : Nat → Option α) (hp : ∀ f r, p f = some r → p (f + 1) = some r) {f g : Nat} {r : α} (h : p f = some r) (hg : f ≤ g) : p g = some r := by
  induction g with
  | zero => obtain rfl : f = 0 := by omega
            exact h
  | succ g ih =>
    by_cases e : f = g + 1
    · subst e; exact h
    · exact hp _ _ (ih (by omega))
theorem upE {l : List T} {d : Nat} {s : St} {r : E × St} {f g : Nat} (h : pExpr l f d s = some r) (hg : f ≤ g) : pExpr l g d s = some r := up (l := l) (fun f => pExpr l f d s) (fun f r => (mono l f).1 d s r) h hg
theorem upS {l : List T} {d : Nat} {e : E} {s : St} {r : E × St} {f g : Nat} (h : pSums l f d e s = some r) (hg : f ≤ g) : pSums l g d e s = some r := up (l := l) (fun f => pSums l f d e s) (fun f r => (mono l f).2.1 d e s r) h hg
theorem upT {l : List T} {d : Nat} {s : St} {r : E × St} {f g : Nat} (h : pTerm l f d s = some r) (hg : f ≤ g) : pTerm l g d s = some r := up (l := l) (fun f => pTerm l f d s) (fun f r => (mono l f).2.2.1 d s r) h hg
theorem upP {l : List T} {d : Nat} {e : E} {s : St} {r : E × St} {f g : Nat} (h : pProds l f d e s = some r) (hg : f ≤ g) : pProds l g d e s = some r := up (l := l) (fun f => pProds l f d e s) (fun f r => (mono l f).2.2.2.1 d e s r) h hg
theorem upF {l : List T} {d : Nat} {s : St} {r : E × St} {f g : Nat} (h : pFactor l f d s = some r) (hg : f ≤ g) : pFactor l g d s = some r := up (l := l) (fun f => pFactor l f d s) (fun f r => (mono l f).2.2.2.2.1 d s r) h hg
theorem upU {l : List T} {d : Nat} {s : St} {r : List E × St} {f g : Nat} (h : pSubs l f d s = some r) (hg : f ≤ g) : pSubs l g d s = some r := up (l := l) (fun f => pSubs l f d s) (fun f r => (mono l f).2.2.2.2.2.1 d s r) h hg
theorem upM {l : List T} {d : Nat} {xs : List E} {s : St} {r : List E × St} {f g : Nat} (h : pMore l f d xs s = some r) (hg : f ≤ g) : pMore l g d xs s = some r := up (l := l) (fun f => pMore l f d xs s) (fun f r => (mono l f).2.2.2.2.2.2 d xs s r) h hg
theorem RExpr.det {l : List T} {d : Nat} {s : St} {r r' : E × St} (h : RExpr l d s r) (h' : RExpr l d s r') : r = r' := by
  obtain ⟨f, h⟩ := h
  obtain ⟨g, h'⟩ := h'
  have h1 := upE h (Nat.le_max_left f g)
  have h2 := upE h' (Nat.le_max_right f g)
  rw [h1] at h2
  exact Option.some.inj h2
theorem rExpr {l : List T} {d : Nat} {s s1 : St} {e : E} {r : E × St} (h1 : RTerm l d s (e, s1)) (h2 : RSums l d e s1 r) : RExpr l d s r := by
  obtain ⟨f, h1⟩ := h1
  obtain ⟨g, h2⟩ := h2
  refine ⟨max f g + 1, ?_⟩
  rw [pExpr, upT h1 (Nat.le_max_left f g)]
  exact upS h2 (Nat.le_max_right f g)
theorem rSums_add {l : List T} {d : Nat} {e x : E} {s s1 : St} {r : E × St} (c : isSign l s [43] = true) (h1 : RTerm l d s.next (x, s1)) (h2 : RSums l d (.mk 5 0 [] [e, x]) s1 r) : RSums l d e s r := by
  obtain ⟨f, h1⟩ := h1
  obtain ⟨g, h2⟩ := h2
  refine ⟨max f g + 1, ?_⟩
  rw [pSums, if_pos c, upT h1 (Nat.le_max_left f g)]
  exact upS h2 (Nat.le_max_right f g)
theorem rSums_sub {l : List T} {d : Nat} {e x : E} {s s1 : St} {r : E × St} (c : isSign l s [43] = false) (c2 : isSign l s [45] = true) (h1 : RTerm l d s.next (x, s1)) (h2 : RSums l d (.mk 6 0 [] [e, x]) s1 r) : RSums l d e s r := by
  obtain ⟨f, h1⟩ := h1
  obtain ⟨g, h2⟩ := h2
  refine ⟨max f g + 1, ?_⟩
  rw [pSums, if_neg (by rw [c]; decide), if_pos c2, upT h1 (Nat.le_max_left f g)]
  exact upS h2 (Nat.le_max_right f g)
theorem rSums_end {l : List T} {d : Nat} {e : E} {s : St} (c : isSign l s [43] = false) (c2 : isSign l s [45] = false) : RSums l d e s (e, s) := by
  refine ⟨1, ?_⟩
  rw [pSums, if_neg (by rw [c]; decide), if_neg (by rw [c2]; decide)]
theorem rTerm {l : List T} {d : Nat} {s s1 : St} {e : E} {r : E × St} (h1 : RFactor l d s (e, s1)) (h2 : RProds l d e s1 r) : RTerm l d s r := by
  obtain ⟨f, h1⟩ := h1
  obtain ⟨g, h2⟩ := h2
  refine ⟨max f g + 1, ?_⟩
  rw [pTerm, upF h1 (Nat.le_max_left f g)]
  exact upP h2 (Nat.le_max_right f g)
theorem rProds_mul {l : List T} {d : Nat} {e x : E} {s s1 : St} {r : E × St} (c : isSign l s [42] = true) (h1 : RFactor l d s.next (x, s1)) (h2 : RProds l d (.mk 7 0 [] [e, x]) s1 r) : RProds l d e s r := by
  obtain ⟨f, h1⟩ := h1
  obtain ⟨g, h2⟩ := h2
  refine ⟨max f g + 1, ?_⟩
  rw [pProds, if_pos c, upF h1 (Nat.le_max_left f g)]
  exact upP h2 (Nat.le_max_right f g)
theorem rProds_div {l : List T} {d : Nat} {e x : E} {s s1 : St} {r : E × St} (c : isSign l s [42] = false) (c2 : isSign l s [47] = true) (h1 : RFactor l d s.next (x, s1)) (h2 : RProds l d (.mk 8 0 [] [e, x]) s1 r) : RProds l d e s r := by
  obtain ⟨f, h1⟩ := h1
  obtain ⟨g, h2⟩ := h2
  refine ⟨max f g + 1, ?_⟩
  rw [pProds, if_neg (by rw [c]; decide), if_pos c2, upF h1 (Nat.le_max_left f g)]
  exact upP h2 (Nat.le_max_right f g)
theorem rProds_end {l : List T} {d : Nat} {e : E} {s : St} (c : isSign l s [42] = false) (c2 : isSign l s [47] = false) : RProds l d e s (e, s) := by
  refine ⟨1, ?_⟩
  rw [pProds, if_neg (by rw [c]; decide), if_neg (by rw [c2]; decide)]
theorem rFactor_bad {l : List T} {d : Nat} {s : St} (c : s.err ≠ 0) : RFactor l d s (E.none, s) := ⟨1, by rw [pFactor, if_pos c]⟩
theorem rFactor_out {l : List T} {d : Nat} {s : St} (c : s.err = 0) (h : l.length ≤ s.pos) : RFactor l d s (E.none, s.fail s.pos 2) := ⟨1, by rw [pFactor, if_neg (by simp [c]), List.getElem?_eq_none h]⟩
theorem rFactor_num {l : List T} {d : Nat} {s : St} (c : s.err = 0) (h : s.pos < l.length) (k : l[s.pos].kind = 2) : RFactor l d s (.mk 1 l[s.pos].n [] [], s.next) := ⟨1, by rw [pFactor, if_neg (by simp [c]), List.getElem?_eq_getElem h]; simp only; rw [if_pos k]⟩
theorem rFactor_var {l : List T} {d : Nat} {s : St} (c : s.err = 0) (h : s.pos < l.length) (k : l[s.pos].kind = 1) (c2 : isSign l s.next [40] = false) : RFactor l d s (.mk 2 0 l[s.pos].text [], s.next) := ⟨1, by rw [pFactor, if_neg (by simp [c]), List.getElem?_eq_getElem h]; simp only; rw [if_neg (by omega), if_pos k, if_neg (by rw [c2]; decide)]⟩
theorem rFactor_elem {l : List T} {d : Nat} {s s1 : St} {xs : List E} (c : s.err = 0) (h : s.pos < l.length) (k : l[s.pos].kind = 1) (c2 : isSign l s.next [40] = true) (h1 : RSubs l d s.next.next (xs, s1)) : RFactor l d s (.mk 3 0 l[s.pos].text xs, s1) := by
  obtain ⟨f, h1⟩ := h1
  refine ⟨f + 1, ?_⟩
  rw [pFactor, if_neg (by simp [c]), List.getElem?_eq_getElem h]
  simp only
  rw [if_neg (by omega), if_pos k, if_pos c2, h1]
theorem rFactor_long {l : List T} {d : Nat} {s : St} (c : s.err = 0) (h : s.pos < l.length) (k1 : l[s.pos].kind ≠ 1) (k2 : l[s.pos].kind ≠ 2) (c2 : isSign l s [45] = true ∨ isSign l s [40] = true) (hd : 20 ≤ d) : RFactor l d s (E.none, s.fail s.pos 4) := by
  refine ⟨1, ?_⟩
  rw [pFactor, if_neg (by simp [c]), List.getElem?_eq_getElem h]
  simp only
  rw [if_neg k2, if_neg k1, if_pos (by rcases c2 with c2 | c2 <;> simp [c2]), if_pos hd]
theorem rFactor_neg {l : List T} {d : Nat} {s s1 : St} {x : E} (c : s.err = 0) (h : s.pos < l.length) (k1 : l[s.pos].kind ≠ 1) (k2 : l[s.pos].kind ≠ 2) (c2 : isSign l s [45] = true) (hd : ¬ 20 ≤ d) (h1 : RFactor l (d + 1) s.next (x, s1)) : RFactor l d s (.mk 4 0 [] [x], s1) := by
  obtain ⟨f, h1⟩ := h1
  refine ⟨f + 1, ?_⟩
  rw [pFactor, if_neg (by simp [c]), List.getElem?_eq_getElem h]
  simp only
  rw [if_neg k2, if_neg k1, if_pos (by simp [c2]), if_neg hd, if_pos c2, h1]
theorem rFactor_round {l : List T} {d : Nat} {s s1 : St} {x : E} (c : s.err = 0) (h : s.pos < l.length) (k1 : l[s.pos].kind ≠ 1) (k2 : l[s.pos].kind ≠ 2) (c2 : isSign l s [45] = false) (c3 : isSign l s [40] = true) (hd : ¬ 20 ≤ d) (h1 : RExpr l (d + 1) s.next (x, s1)) : RFactor l d s (x, if isSign l s1 [41] then s1.next else s1.fail s1.pos 2) := by
  obtain ⟨f, h1⟩ := h1
  refine ⟨f + 1, ?_⟩
  rw [pFactor, if_neg (by simp [c]), List.getElem?_eq_getElem h]
  simp only
  rw [if_neg k2, if_neg k1, if_pos (by simp [c3]), if_neg hd, if_neg (by rw [c2]; decide), h1]
theorem rFactor_none {l : List T} {d : Nat} {s : St} (c : s.err = 0) (h : s.pos < l.length) (k1 : l[s.pos].kind ≠ 1) (k2 : l[s.pos].kind ≠ 2) (c2 : isSign l s [45] = false) (c3 : isSign l s [40] = false) : RFactor l d s (E.none, s.fail s.pos 2) := by
  refine ⟨1, ?_⟩
  rw [pFactor, if_neg (by simp [c]), List.getElem?_eq_getElem h]
  simp only
  rw [if_neg k2, if_neg k1, if_neg (by simp [c2, c3])]
theorem rSubs {l : List T} {d : Nat} {s s1 : St} {e : E} {r : List E × St} (h1 : RExpr l d s (e, s1)) (h2 : RMore l d [e] s1 r) : RSubs l d s r := by
  obtain ⟨f, h1⟩ := h1
  obtain ⟨g, h2⟩ := h2
  refine ⟨max f g + 1, ?_⟩
  rw [pSubs, upE h1 (Nat.le_max_left f g)]
  exact upM h2 (Nat.le_max_right f g)
theorem rMore_more {l : List T} {d : Nat} {xs : List E} {x : E} {s s1 : St} {r : List E × St} (c : isSign l s [44] = true) (h4 : ¬ 4 ≤ xs.length) (h1 : RExpr l d s.next (x, s1)) (h2 : RMore l d (xs ++ [x]) s1 r) : RMore l d xs s r := by
  obtain ⟨f, h1⟩ := h1
  obtain ⟨g, h2⟩ := h2
  refine ⟨max f g + 1, ?_⟩
  rw [pMore, if_pos c, if_neg h4, upE h1 (Nat.le_max_left f g)]
  exact upM h2 (Nat.le_max_right f g)
theorem rMore_long {l : List T} {d : Nat} {xs : List E} {s : St} (c : isSign l s [44] = true) (h4 : 4 ≤ xs.length) : RMore l d xs s (xs, s.fail s.pos 4) := ⟨1, by rw [pMore, if_pos c, if_pos h4]⟩
theorem rMore_end {l : List T} {d : Nat} {xs : List E} {s : St} (c : isSign l s [44] = false) : RMore l d xs s (xs, if isSign l s [41] then s.next else s.fail s.pos 2) := ⟨1, by rw [pMore, if_neg (by rw [c]; decide)]⟩
end Go.Proofs.YtdpjipphbhomkaaGreatDoor.Ex
