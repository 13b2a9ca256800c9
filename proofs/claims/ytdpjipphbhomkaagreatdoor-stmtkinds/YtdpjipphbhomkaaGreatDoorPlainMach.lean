/- The project's way of reading, where what is open lies in a list: that it comes to what the reading by rules comes to. Nothing of the program is named. -/
import Derived.Test.YtdpjipphbhomkaaGreatDoorPlainExpr
namespace Go.Proofs.YtdpjipphbhomkaaGreatDoor.Ex
set_option linter.unusedVariables false
open Words (T)

/-- the sign at a place; empty: none stands there -/
def sg (l : List T) (p : Nat) : List UInt8 := match l[p]? with
  | some t => if t.kind = 3 then t.text else []
  | none => []
def opOf (c : List UInt8) : Int := if c = [43] then 5 else if c = [45] then 6 else if c = [42] then 7 else if c = [47] then 8 else 0
def bindOf (k : Int) : Nat := if k = 4 then 3 else if k = 7 ∨ k = 8 then 2 else if k = 5 ∨ k = 6 then 1 else 0
inductive Cfg
  | B (pos : Nat) (K : List E) (d : Nat)
  | F (pos : Nat) (K : List E) (d : Nat) (e : E)
inductive Res
  | ok (e : E) (pos : Nat)
  | bad (err pos : Nat)
def E.plus (k x : E) : E := .mk k.kind k.n k.name (k.a ++ [x])
def whole (k e : E) : E := if k.kind = 0 then e else k.plus e
def deepOf (k : E) (d : Nat) : Nat := if k.kind = 0 ∨ k.kind = 4 then d - 1 else d
def step (l : List T) : Cfg → Cfg ⊕ Res
  | .B p K d => match l[p]? with
    | none => .inr (.bad 2 p)
    | some t =>
      if t.kind = 2 then .inl (.F (p + 1) K d (.mk 1 t.n [] []))
      else if t.kind = 1 then (if sg l (p + 1) = [40] then .inl (.B (p + 2) (.mk 3 0 t.text [] :: K) d) else .inl (.F (p + 1) K d (.mk 2 0 t.text [])))
      else if sg l p = [45] then (if d = 20 then .inr (.bad 4 p) else .inl (.B (p + 1) (.mk 4 0 [] [] :: K) (d + 1)))
      else if sg l p = [40] then (if d = 20 then .inr (.bad 4 p) else .inl (.B (p + 1) (.mk 0 0 [] [] :: K) (d + 1)))
      else .inr (.bad 2 p)
  | .F p [] d e => if opOf (sg l p) ≠ 0 then .inl (.B (p + 1) [.mk (opOf (sg l p)) 0 [] [e]] d) else .inr (.ok e p)
  | .F p (k :: K) d e =>
    if 0 < bindOf k.kind ∧ bindOf (opOf (sg l p)) ≤ bindOf k.kind then .inl (.F p K (deepOf k d) (whole k e))
    else if opOf (sg l p) ≠ 0 then .inl (.B (p + 1) (.mk (opOf (sg l p)) 0 [] [e] :: k :: K) d)
    else if sg l p = [41] then .inl (.F (p + 1) K (deepOf k d) (whole k e))
    else if sg l p = [44] then (if k.kind ≠ 3 then .inr (.bad 2 p) else if k.a.length + 1 = 4 then .inr (.bad 4 p) else .inl (.B (p + 1) (k.plus e :: K) d))
    else .inr (.bad 2 p)
def runM (l : List T) : Nat → Cfg → Option Res
  | 0, _ => none
  | n + 1, c => match step l c with
    | .inl c' => runM l n c'
    | .inr r => some r
def M (l : List T) (c : Cfg) (r : Res) : Prop := ∃ n, runM l n c = some r
theorem m_step {l : List T} {c c' : Cfg} {r : Res} (h : step l c = .inl c') (k : M l c' r) : M l c r := by
  obtain ⟨n, k⟩ := k
  exact ⟨n + 1, by rw [runM, h]; exact k⟩
theorem m_stop {l : List T} {c : Cfg} {r : Res} (h : step l c = .inr r) : M l c r := ⟨1, by rw [runM, h]⟩
theorem runM_det {l : List T} : ∀ (n m : Nat) (c : Cfg) (r r' : Res), runM l n c = some r → runM l m c = some r' → r = r' := by
  intro n
  induction n with
  | zero => intro m c r r' h; simp [runM] at h
  | succ n ih =>
    intro m c r r' h k
    cases m with
    | zero => simp [runM] at k
    | succ m =>
      rw [runM] at h k
      cases hs : step l c with
      | inl c' => rw [hs] at h k; exact ih m c' r r' h k
      | inr q => rw [hs] at h k; exact (Option.some.inj h).symm.trans (Option.some.inj k)
theorem M.det {l : List T} {c : Cfg} {r r' : Res} (h : M l c r) (k : M l c r') : r = r' := by
  obtain ⟨n, h⟩ := h
  obtain ⟨m, k⟩ := k
  exact runM_det n m c r r' h k
theorem isSign_sg {l : List T} {s : St} {c : List UInt8} (h0 : s.err = 0) (hc : c ≠ []) : isSign l s c = decide (sg l s.pos = c) := by
  unfold isSign sg
  rw [decide_eq_true h0]
  cases h : l[s.pos]? with
  | none => simp [Ne.symm hc]
  | some t =>
    by_cases k : t.kind = 3
    · simp [k]
    · simp [k, Ne.symm hc]
theorem isSign_bad {l : List T} {s : St} {c : List UInt8} (h : s.err ≠ 0) : isSign l s c = false := by unfold isSign; rw [decide_eq_false h]; rfl
theorem isSign_lt {l : List T} {s : St} {c : List UInt8} (h : isSign l s c = true) : s.err = 0 ∧ s.pos < l.length := by
  unfold isSign at h
  constructor
  · by_cases h0 : s.err = 0
    · exact h0
    · rw [decide_eq_false h0] at h; simp at h
  · rcases Nat.lt_or_ge s.pos l.length with h1 | h1
    · exact h1
    · rw [List.getElem?_eq_none h1] at h; simp at h
/-- how a reading goes on in the list -/
def Then (l : List T) (K : List E) (d : Nat) (x : E) (s : St) (r : Res) : Prop := (s.err = 0 → M l (.F s.pos K d x) r) ∧ (s.err ≠ 0 → r = .bad s.err s.bad)
def Low2 (K : List E) : Prop := ∀ k K', K = k :: K' → bindOf k.kind < 2
def Low1 (K : List E) : Prop := ∀ k K', K = k :: K' → bindOf k.kind = 0
theorem Low1.low2 {K : List E} (h : Low1 K) : Low2 K := fun k K' e => by rw [h k K' e]; decide
theorem opOf_bind (c : List UInt8) : bindOf (opOf c) ≤ 2 := by unfold opOf; split; · decide
                                                               split; · decide
                                                               split; · decide
                                                               split <;> decide
theorem f_push {l : List T} {p d : Nat} {K : List E} {e : E} {r : Res} {o : Int} (ho : opOf (sg l p) = o) (h0 : o ≠ 0) (hK : ∀ k K', K = k :: K' → ¬ (0 < bindOf k.kind ∧ bindOf o ≤ bindOf k.kind)) (h : M l (.B (p + 1) (.mk o 0 [] [e] :: K) d) r) : M l (.F p K d e) r := by
  subst ho
  cases K with
  | nil => exact m_step (by simp only [step]; rw [if_pos h0]) h
  | cons k K => exact m_step (by simp only [step]; rw [if_neg (hK k K rfl), if_pos h0]) h
theorem f_end {l : List T} {p d : Nat} {k : E} {K : List E} {e : E} {r : Res} (hk : 0 < bindOf k.kind) (hb : bindOf (opOf (sg l p)) ≤ bindOf k.kind) (h : M l (.F p K (deepOf k d) (whole k e)) r) : M l (.F p (k :: K) d e) r :=
  m_step (by simp only [step]; rw [if_pos ⟨hk, hb⟩]) h

structure Go (l : List T) (f : Nat) : Prop where
  fac : ∀ d s x s1, pFactor l f d s = some (x, s1) → s.err = 0 → d ≤ 20 → ∀ K r, Then l K d x s1 r → M l (.B s.pos K d) r
  prods : ∀ d e s x s1, pProds l f d e s = some (x, s1) → d ≤ 20 → ∀ K r, Low2 K → Then l K d x s1 r → Then l K d e s r
  prodsE : ∀ d e s x s1, pProds l f d e s = some (x, s1) → s1.err = 0 → sg l s1.pos ≠ [42] ∧ sg l s1.pos ≠ [47]
  term : ∀ d s x s1, pTerm l f d s = some (x, s1) → s.err = 0 → d ≤ 20 → ∀ K r, Low2 K → Then l K d x s1 r → M l (.B s.pos K d) r
  termE : ∀ d s x s1, pTerm l f d s = some (x, s1) → s1.err = 0 → sg l s1.pos ≠ [42] ∧ sg l s1.pos ≠ [47]
  sums : ∀ d e s x s1, pSums l f d e s = some (x, s1) → d ≤ 20 → (s.err = 0 → sg l s.pos ≠ [42] ∧ sg l s.pos ≠ [47]) → ∀ K r, Low1 K → Then l K d x s1 r → Then l K d e s r
  sumsE : ∀ d e s x s1, pSums l f d e s = some (x, s1) → (s.err = 0 → sg l s.pos ≠ [42] ∧ sg l s.pos ≠ [47]) → s1.err = 0 → opOf (sg l s1.pos) = 0
  exp : ∀ d s x s1, pExpr l f d s = some (x, s1) → s.err = 0 → d ≤ 20 → ∀ K r, Low1 K → Then l K d x s1 r → M l (.B s.pos K d) r
  expE : ∀ d s x s1, pExpr l f d s = some (x, s1) → s1.err = 0 → opOf (sg l s1.pos) = 0
  subs : ∀ d s xs s1, pSubs l f d s = some (xs, s1) → s.err = 0 → d ≤ 20 → ∀ K nm r, Then l K d (.mk 3 0 nm xs) s1 r → M l (.B s.pos (.mk 3 0 nm [] :: K) d) r
  more : ∀ d xs s ys s1, pMore l f d xs s = some (ys, s1) → d ≤ 20 → (s.err = 0 → opOf (sg l s.pos) = 0) → xs.length ≤ 4 → ∀ K nm i x r, xs = i ++ [x] → Then l K d (.mk 3 0 nm ys) s1 r → Then l (.mk 3 0 nm i :: K) d x s r

theorem low1_zero (k : E) (K : List E) (h : bindOf k.kind = 0) : Low1 (k :: K) := fun a b e => by injection e with e1 e2; rw [← e1]; exact h
theorem op_none {l : List T} {p : Nat} (h1 : sg l p ≠ [42] ∧ sg l p ≠ [47]) (h2 : sg l p ≠ [43]) (h3 : sg l p ≠ [45]) : opOf (sg l p) = 0 := by unfold opOf; rw [if_neg h2, if_neg h3, if_neg h1.1, if_neg h1.2]
theorem go_all (l : List T) : ∀ f, Go l f := by
  intro f
  induction f with
  | zero => refine ⟨?_, ?_, ?_, ?_, ?_, ?_, ?_, ?_, ?_, ?_, ?_⟩ <;> intros <;> rename_i h <;> simp_all [pFactor, pProds, pTerm, pSums, pExpr, pSubs, pMore]
  | succ f ih =>
    refine ⟨?_, ?_, ?_, ?_, ?_, ?_, ?_, ?_, ?_, ?_, ?_⟩
    · intro d s x s1 h h0 hd K r hT
      rw [pFactor, if_neg (by simp [h0])] at h
      cases ht : l[s.pos]? with
      | none =>
        rw [ht] at h
        obtain ⟨rfl, rfl⟩ := Prod.mk.inj (Option.some.inj h)
        have hr := hT.2 (by simp [St.fail, h0])
        rw [hr]
        exact m_stop (by simp [step, ht, St.fail, h0])
      | some t =>
        rw [ht] at h
        simp only at h
        by_cases c1 : t.kind = 2
        · rw [if_pos c1] at h
          obtain ⟨rfl, rfl⟩ := Prod.mk.inj (Option.some.inj h)
          exact m_step (by simp [step, ht, c1]; rfl) (hT.1 h0)
        · rw [if_neg c1] at h
          by_cases c2 : t.kind = 1
          · rw [if_pos c2] at h
            rw [isSign_sg (s := s.next) h0 (by decide)] at h
            by_cases c3 : sg l (s.pos + 1) = [40]
            · rw [show s.next.pos = s.pos + 1 from rfl, if_pos (by simp [c3])] at h
              cases h1 : pSubs l f d s.next.next with
              | none => rw [h1] at h; cases h
              | some q =>
                obtain ⟨xs, s2⟩ := q
                rw [h1] at h
                obtain ⟨rfl, rfl⟩ := Prod.mk.inj (Option.some.inj h)
                exact m_step (by simp [step, ht, c2, c3]; rfl) (ih.subs d s.next.next xs s2 h1 h0 hd K t.text r hT)
            · rw [show s.next.pos = s.pos + 1 from rfl, if_neg (by simp [c3])] at h
              obtain ⟨rfl, rfl⟩ := Prod.mk.inj (Option.some.inj h)
              exact m_step (by simp [step, ht, c2, c3]; rfl) (hT.1 h0)
          · rw [if_neg c2] at h
            rw [isSign_sg h0 (by decide), isSign_sg h0 (by decide)] at h
            by_cases c4 : sg l s.pos = [45]
            · rw [if_pos (by simp [c4])] at h
              by_cases c5 : 20 ≤ d
              · rw [if_pos c5] at h
                obtain ⟨rfl, rfl⟩ := Prod.mk.inj (Option.some.inj h)
                have hr := hT.2 (by simp [St.fail, h0])
                rw [hr]
                exact m_stop (by simp [step, ht, c1, c2, c4, show d = 20 by omega, St.fail, h0])
              · rw [if_neg c5, if_pos (by simp [c4])] at h
                cases h1 : pFactor l f (d + 1) s.next with
                | none => rw [h1] at h; cases h
                | some q =>
                  obtain ⟨x2, s2⟩ := q
                  rw [h1] at h
                  obtain ⟨rfl, rfl⟩ := Prod.mk.inj (Option.some.inj h)
                  refine m_step (c' := .B (s.pos + 1) (.mk 4 0 [] [] :: K) (d + 1)) (by simp [step, ht, c1, c2, c4, show ¬ d = 20 by omega]) (ih.fac (d + 1) s.next x2 s2 h1 h0 (by omega) _ r ⟨fun e => ?_, hT.2⟩)
                  refine f_end (by decide) (Nat.le_trans (opOf_bind _) (by decide)) ?_
                  have := hT.1 e
                  simpa [deepOf, whole, E.plus, E.kind, E.n, E.name, E.a] using this
            · by_cases c6 : sg l s.pos = [40]
              · rw [if_pos (by simp [c6])] at h
                by_cases c5 : 20 ≤ d
                · rw [if_pos c5] at h
                  obtain ⟨rfl, rfl⟩ := Prod.mk.inj (Option.some.inj h)
                  have hr := hT.2 (by simp [St.fail, h0])
                  rw [hr]
                  exact m_stop (by simp [step, ht, c1, c2, c6, show d = 20 by omega, St.fail, h0])
                · rw [if_neg c5, if_neg (by simp [c4])] at h
                  cases h1 : pExpr l f (d + 1) s.next with
                  | none => rw [h1] at h; cases h
                  | some q =>
                    obtain ⟨x2, s2⟩ := q
                    rw [h1] at h
                    obtain ⟨rfl, rfl⟩ := Prod.mk.inj (Option.some.inj h)
                    refine m_step (c' := .B (s.pos + 1) (.mk 0 0 [] [] :: K) (d + 1)) (by simp [step, ht, c1, c2, c6, show ¬ d = 20 by omega]) (ih.exp (d + 1) s.next x2 s2 h1 h0 (by omega) _ r (low1_zero _ _ rfl) ⟨fun e => ?_, fun e => ?_⟩)
                    · have ho := ih.expE _ _ _ _ h1 e
                      rw [isSign_sg e (by decide)] at hT
                      by_cases c7 : sg l s2.pos = [41]
                      · rw [if_pos (by simp [c7])] at hT
                        refine m_step (c' := .F (s2.pos + 1) K d x2) ?_ (hT.1 e)
                        simp only [step]
                        rw [if_neg (by simp [bindOf, E.kind]), if_neg (by simp [ho]), if_pos c7]
                        simp [deepOf, whole, E.kind]
                      · rw [if_neg (by simp [c7])] at hT
                        have hr := hT.2 (by simp [St.fail, e])
                        rw [hr]
                        refine m_stop ?_
                        simp only [step]
                        rw [if_neg (by simp [bindOf, E.kind]), if_neg (by simp [ho]), if_neg c7]
                        split
                        · simp [E.kind, St.fail, e]
                        · simp [St.fail, e]
                    · rw [isSign_bad e] at hT
                      have hf : s2.fail s2.pos 2 = s2 := by unfold St.fail; rw [if_neg e]
                      rw [if_neg (by decide), hf] at hT
                      exact hT.2 e
              · rw [if_neg (by simp [c4, c6])] at h
                obtain ⟨rfl, rfl⟩ := Prod.mk.inj (Option.some.inj h)
                have hr := hT.2 (by simp [St.fail, h0])
                rw [hr]
                exact m_stop (by simp [step, ht, c1, c2, c4, c6, St.fail, h0])
    · intro d e s x s1 h hd K r hK hT
      rw [pProds] at h
      by_cases h0 : s.err = 0
      · refine ⟨fun _ => ?_, fun k => absurd h0 k⟩
        rw [isSign_sg h0 (by decide), isSign_sg h0 (by decide)] at h
        by_cases c1 : sg l s.pos = [42]
        · rw [if_pos (by simp [c1])] at h
          cases h1 : pFactor l f d s.next with
          | none => rw [h1] at h; cases h
          | some q =>
            obtain ⟨y, s2⟩ := q
            rw [h1] at h
            have hP := ih.prods d _ s2 x s1 h hd K r hK hT
            refine f_push (o := 7) (by rw [c1]; rfl) (by decide) (fun k K' hk hc => by have := hK k K' hk; have e2 : bindOf 7 = 2 := rfl; omega) ?_
            refine ih.fac d s.next y s2 h1 h0 hd _ r ⟨fun e2 => ?_, hP.2⟩
            exact f_end (by simp [bindOf, E.kind]) (opOf_bind _) (by have := hP.1 e2; simpa [deepOf, whole, E.plus, E.kind, E.n, E.name, E.a] using this)
        · rw [if_neg (by simp [c1])] at h
          by_cases c2 : sg l s.pos = [47]
          · rw [if_pos (by simp [c2])] at h
            cases h1 : pFactor l f d s.next with
            | none => rw [h1] at h; cases h
            | some q =>
              obtain ⟨y, s2⟩ := q
              rw [h1] at h
              have hP := ih.prods d _ s2 x s1 h hd K r hK hT
              refine f_push (o := 8) (by rw [c2]; rfl) (by decide) (fun k K' hk hc => by have := hK k K' hk; have e2 : bindOf 8 = 2 := rfl; omega) ?_
              refine ih.fac d s.next y s2 h1 h0 hd _ r ⟨fun e2 => ?_, hP.2⟩
              exact f_end (by simp [bindOf, E.kind]) (opOf_bind _) (by have := hP.1 e2; simpa [deepOf, whole, E.plus, E.kind, E.n, E.name, E.a] using this)
          · rw [if_neg (by simp [c2])] at h
            obtain ⟨rfl, rfl⟩ := Prod.mk.inj (Option.some.inj h)
            exact hT.1 h0
      · rw [isSign_bad h0, isSign_bad h0] at h
        obtain ⟨rfl, rfl⟩ := Prod.mk.inj (Option.some.inj h)
        exact hT
    · intro d e s x s1 h h1
      rw [pProds] at h
      split at h
      · cases h2 : pFactor l f d s.next with
        | none => rw [h2] at h; cases h
        | some q => rw [h2] at h; exact ih.prodsE _ _ _ _ _ h h1
      · split at h
        · cases h2 : pFactor l f d s.next with
          | none => rw [h2] at h; cases h
          | some q => rw [h2] at h; exact ih.prodsE _ _ _ _ _ h h1
        · rename_i c1 c2
          obtain ⟨rfl, rfl⟩ := Prod.mk.inj (Option.some.inj h)
          rw [isSign_sg h1 (by decide)] at c1 c2
          exact ⟨by simpa using c1, by simpa using c2⟩
    · intro d s x s1 h h0 hd K r hK hT
      rw [pTerm] at h
      cases h2 : pFactor l f d s with
      | none => rw [h2] at h; cases h
      | some q =>
        obtain ⟨y, s2⟩ := q
        rw [h2] at h
        exact ih.fac d s y s2 h2 h0 hd K r (ih.prods d y s2 x s1 h hd K r hK hT)
    · intro d s x s1 h h1
      rw [pTerm] at h
      cases h2 : pFactor l f d s with
      | none => rw [h2] at h; cases h
      | some q => rw [h2] at h; exact ih.prodsE _ _ _ _ _ h h1
    · intro d e s x s1 h hd hn K r hK hT
      rw [pSums] at h
      by_cases h0 : s.err = 0
      · refine ⟨fun _ => ?_, fun k => absurd h0 k⟩
        rw [isSign_sg h0 (by decide), isSign_sg h0 (by decide)] at h
        by_cases c1 : sg l s.pos = [43]
        · rw [if_pos (by simp [c1])] at h
          cases h1 : pTerm l f d s.next with
          | none => rw [h1] at h; cases h
          | some q =>
            obtain ⟨y, s2⟩ := q
            rw [h1] at h
            have hP := ih.sums d _ s2 x s1 h hd (fun e2 => ih.termE _ _ _ _ h1 e2) K r hK hT
            refine f_push (o := 5) (by rw [c1]; rfl) (by decide) (fun k K' hk hc => by have := hK k K' hk; omega) ?_
            refine ih.term d s.next y s2 h1 h0 hd _ r (fun k K' hk => by injection hk with hk _; subst hk; simp [bindOf, E.kind]) ⟨fun e2 => ?_, hP.2⟩
            refine f_end (by simp [bindOf, E.kind]) ?_ (by have := hP.1 e2; simpa [deepOf, whole, E.plus, E.kind, E.n, E.name, E.a] using this)
            have := ih.termE _ _ _ _ h1 e2
            unfold opOf
            rw [if_neg this.1, if_neg this.2]
            split
            · simp [bindOf, E.kind]
            · split <;> simp [bindOf, E.kind]
        · rw [if_neg (by simp [c1])] at h
          by_cases c2 : sg l s.pos = [45]
          · rw [if_pos (by simp [c2])] at h
            cases h1 : pTerm l f d s.next with
            | none => rw [h1] at h; cases h
            | some q =>
              obtain ⟨y, s2⟩ := q
              rw [h1] at h
              have hP := ih.sums d _ s2 x s1 h hd (fun e2 => ih.termE _ _ _ _ h1 e2) K r hK hT
              refine f_push (o := 6) (by rw [c2]; rfl) (by decide) (fun k K' hk hc => by have := hK k K' hk; omega) ?_
              refine ih.term d s.next y s2 h1 h0 hd _ r (fun k K' hk => by injection hk with hk _; subst hk; simp [bindOf, E.kind]) ⟨fun e2 => ?_, hP.2⟩
              refine f_end (by simp [bindOf, E.kind]) ?_ (by have := hP.1 e2; simpa [deepOf, whole, E.plus, E.kind, E.n, E.name, E.a] using this)
              have := ih.termE _ _ _ _ h1 e2
              unfold opOf
              rw [if_neg this.1, if_neg this.2]
              split
              · simp [bindOf, E.kind]
              · split <;> simp [bindOf, E.kind]
          · rw [if_neg (by simp [c2])] at h
            obtain ⟨rfl, rfl⟩ := Prod.mk.inj (Option.some.inj h)
            exact hT.1 h0
      · rw [isSign_bad h0, isSign_bad h0] at h
        obtain ⟨rfl, rfl⟩ := Prod.mk.inj (Option.some.inj h)
        exact hT
    · intro d e s x s1 h hn h1
      rw [pSums] at h
      split at h
      · cases h2 : pTerm l f d s.next with
        | none => rw [h2] at h; cases h
        | some q => rw [h2] at h; exact ih.sumsE _ _ _ _ _ h (fun e2 => ih.termE _ _ _ _ h2 e2) h1
      · split at h
        · cases h2 : pTerm l f d s.next with
          | none => rw [h2] at h; cases h
          | some q => rw [h2] at h; exact ih.sumsE _ _ _ _ _ h (fun e2 => ih.termE _ _ _ _ h2 e2) h1
        · rename_i c1 c2
          obtain ⟨rfl, rfl⟩ := Prod.mk.inj (Option.some.inj h)
          rw [isSign_sg h1 (by decide)] at c1 c2
          exact op_none (hn h1) (by simpa using c1) (by simpa using c2)
    · intro d s x s1 h h0 hd K r hK hT
      rw [pExpr] at h
      cases h2 : pTerm l f d s with
      | none => rw [h2] at h; cases h
      | some q =>
        obtain ⟨y, s2⟩ := q
        rw [h2] at h
        exact ih.term d s y s2 h2 h0 hd K r hK.low2 (ih.sums d y s2 x s1 h hd (fun e2 => ih.termE _ _ _ _ h2 e2) K r hK hT)
    · intro d s x s1 h h1
      rw [pExpr] at h
      cases h2 : pTerm l f d s with
      | none => rw [h2] at h; cases h
      | some q => rw [h2] at h; exact ih.sumsE _ _ _ _ _ h (fun e2 => ih.termE _ _ _ _ h2 e2) h1
    · intro d s xs s1 h h0 hd K nm r hT
      rw [pSubs] at h
      cases h2 : pExpr l f d s with
      | none => rw [h2] at h; cases h
      | some q =>
        obtain ⟨y, s2⟩ := q
        rw [h2] at h
        exact ih.exp d s y s2 h2 h0 hd _ r (low1_zero _ _ rfl) (ih.more d [y] s2 xs s1 h hd (fun e2 => ih.expE _ _ _ _ h2 e2) (by simp) K nm [] y r rfl hT)
    · intro d xs s ys s1 h hd ho h4 K nm i x r hx hT
      subst hx
      rw [pMore] at h
      by_cases h0 : s.err = 0
      · refine ⟨fun _ => ?_, fun k => absurd h0 k⟩
        have ho := ho h0
        rw [isSign_sg h0 (by decide), isSign_sg h0 (by decide)] at h
        by_cases c1 : sg l s.pos = [44]
        · rw [if_pos (by simp [c1])] at h
          by_cases c4 : 4 ≤ (i ++ [x]).length
          · rw [if_pos c4] at h
            obtain ⟨rfl, rfl⟩ := Prod.mk.inj (Option.some.inj h)
            have hr := hT.2 (by simp [St.fail, h0])
            rw [hr]
            refine m_stop ?_
            simp only [step]
            rw [if_neg (by simp [bindOf, E.kind]), if_neg (by simp [ho]), if_neg (by rw [c1]; decide), if_pos c1, if_neg (by simp [E.kind]), if_pos (by simp at c4 h4; simp [E.a]; omega)]
            simp [St.fail, h0]
          · rw [if_neg c4] at h
            cases h2 : pExpr l f d s.next with
            | none => rw [h2] at h; cases h
            | some q =>
              obtain ⟨y, s2⟩ := q
              rw [h2] at h
              refine m_step (c' := .B (s.pos + 1) (.mk 3 0 nm (i ++ [x]) :: K) d) ?_ (ih.exp d s.next y s2 h2 h0 hd _ r (low1_zero _ _ rfl) (ih.more d _ s2 ys s1 h hd (fun e2 => ih.expE _ _ _ _ h2 e2) (by simp at c4 ⊢; omega) K nm _ y r rfl hT))
              simp only [step]
              rw [if_neg (by simp [bindOf, E.kind]), if_neg (by simp [ho]), if_neg (by rw [c1]; decide), if_pos c1]
              rw [if_neg (by simp [E.kind]), if_neg (by simp at c4; simp [E.a]; omega)]
              rfl
        · rw [if_neg (by simp [c1])] at h
          obtain ⟨rfl, rfl⟩ := Prod.mk.inj (Option.some.inj h)
          by_cases c2 : sg l s.pos = [41]
          · rw [if_pos (by simp [c2])] at hT
            refine m_step (c' := .F (s.pos + 1) K d (.mk 3 0 nm (i ++ [x]))) ?_ (hT.1 h0)
            simp only [step]
            rw [if_neg (by simp [bindOf, E.kind]), if_neg (by simp [ho]), if_pos c2]
            simp [deepOf, whole, E.plus, E.kind, E.n, E.name, E.a]
          · rw [if_neg (by simp [c2])] at hT
            have hr := hT.2 (by simp [St.fail, h0])
            rw [hr]
            refine m_stop ?_
            simp only [step]
            rw [if_neg (by simp [bindOf, E.kind]), if_neg (by simp [ho]), if_neg c2, if_neg c1]
            simp [St.fail, h0]
      · rw [isSign_bad h0, isSign_bad h0] at h
        have hf : s.fail s.pos 2 = s := by unfold St.fail; rw [if_neg h0]
        rw [if_neg (by decide), if_neg (by decide), hf] at h
        obtain ⟨rfl, rfl⟩ := Prod.mk.inj (Option.some.inj h)
        exact ⟨fun k => absurd k h0, fun _ => hT.2 h0⟩
/-- every reading comes to an end -/
theorem total (l : List T) : ∀ n,
    (∀ d s, l.length - s.pos ≤ n → ∃ r, RFactor l d s r ∧ s.pos ≤ r.2.pos) ∧
    (∀ d e s, l.length - s.pos ≤ n → ∃ r, RProds l d e s r ∧ s.pos ≤ r.2.pos) ∧
    (∀ d s, l.length - s.pos ≤ n → ∃ r, RTerm l d s r ∧ s.pos ≤ r.2.pos) ∧
    (∀ d e s, l.length - s.pos ≤ n → ∃ r, RSums l d e s r ∧ s.pos ≤ r.2.pos) ∧
    (∀ d s, l.length - s.pos ≤ n → ∃ r, RExpr l d s r ∧ s.pos ≤ r.2.pos) ∧
    (∀ d xs s, l.length - s.pos ≤ n → ∃ r, RMore l d xs s r ∧ s.pos ≤ r.2.pos) := by
  intro n
  induction n using Nat.strongRecOn with
  | ind n ih =>
    have hnx : ∀ s : St, s.next.pos = s.pos + 1 := fun s => rfl
    have hfl : ∀ (s : St) k e, (s.fail k e).pos = s.pos := fun s k e => by unfold St.fail; split <;> rfl
    have hF : ∀ d s, l.length - s.pos ≤ n → ∃ r, RFactor l d s r ∧ s.pos ≤ r.2.pos := by
      intro d s hn
      by_cases h0 : s.err = 0
      · by_cases hp : s.pos < l.length
        · by_cases k2 : l[s.pos].kind = 2
          · exact ⟨_, rFactor_num h0 hp k2, by show s.pos ≤ s.pos + 1; omega⟩
          · by_cases k1 : l[s.pos].kind = 1
            · cases c : isSign l s.next [40]
              · exact ⟨_, rFactor_var h0 hp k1 c, by show s.pos ≤ s.pos + 1; omega⟩
              · have hlt := (isSign_lt c).2
                rw [hnx] at hlt
                obtain ⟨⟨x, s1⟩, h1, g1⟩ := (ih (l.length - (s.pos + 2)) (by omega)).2.2.2.2.1 d s.next.next (Nat.le_refl _)
                simp only [hnx] at g1
                obtain ⟨⟨xs, s2⟩, h2, g2⟩ := (ih (l.length - (s.pos + 2)) (by omega)).2.2.2.2.2 d [x] s1 (by omega)
                exact ⟨_, rFactor_elem h0 hp k1 c (rSubs h1 h2), by simp only at g2 ⊢; omega⟩
            · cases c4 : isSign l s [45]
              · cases c6 : isSign l s [40]
                · exact ⟨_, rFactor_none h0 hp k1 k2 c4 c6, by simp only [hfl]; exact Nat.le_refl _⟩
                · by_cases hd : 20 ≤ d
                  · exact ⟨_, rFactor_long h0 hp k1 k2 (.inr c6) hd, by simp only [hfl]; exact Nat.le_refl _⟩
                  · obtain ⟨⟨x, s1⟩, h1, g1⟩ := (ih (l.length - (s.pos + 1)) (by omega)).2.2.2.2.1 (d + 1) s.next (Nat.le_refl _)
                    rw [hnx] at g1
                    refine ⟨_, rFactor_round h0 hp k1 k2 c4 c6 hd h1, ?_⟩
                    simp only at g1 ⊢
                    split
                    · rw [hnx]; omega
                    · rw [hfl]; omega
              · by_cases hd : 20 ≤ d
                · exact ⟨_, rFactor_long h0 hp k1 k2 (.inl c4) hd, by simp only [hfl]; exact Nat.le_refl _⟩
                · obtain ⟨⟨x, s1⟩, h1, g1⟩ := (ih (l.length - (s.pos + 1)) (by omega)).1 (d + 1) s.next (Nat.le_refl _)
                  rw [hnx] at g1
                  exact ⟨_, rFactor_neg h0 hp k1 k2 c4 hd h1, by simp only at g1 ⊢; omega⟩
        · exact ⟨_, rFactor_out h0 (by omega), by simp only [hfl]; exact Nat.le_refl _⟩
      · exact ⟨_, rFactor_bad h0, Nat.le_refl _⟩
    have hP : ∀ d e s, l.length - s.pos ≤ n → ∃ r, RProds l d e s r ∧ s.pos ≤ r.2.pos := by
      intro d e s hn
      cases c1 : isSign l s [42]
      · cases c2 : isSign l s [47]
        · exact ⟨_, rProds_end c1 c2, Nat.le_refl _⟩
        · have hlt := (isSign_lt c2).2
          obtain ⟨⟨x, s1⟩, h1, g1⟩ := (ih (l.length - (s.pos + 1)) (by omega)).1 d s.next (Nat.le_refl _)
          rw [hnx] at g1
          obtain ⟨⟨y, s2⟩, h2, g2⟩ := (ih (l.length - (s.pos + 1)) (by omega)).2.1 d (.mk 8 0 [] [e, x]) s1 (by simp only at g1; omega)
          exact ⟨_, rProds_div c1 c2 h1 h2, by simp only at g1 g2 ⊢; omega⟩
      · have hlt := (isSign_lt c1).2
        obtain ⟨⟨x, s1⟩, h1, g1⟩ := (ih (l.length - (s.pos + 1)) (by omega)).1 d s.next (Nat.le_refl _)
        rw [hnx] at g1
        obtain ⟨⟨y, s2⟩, h2, g2⟩ := (ih (l.length - (s.pos + 1)) (by omega)).2.1 d (.mk 7 0 [] [e, x]) s1 (by simp only at g1; omega)
        exact ⟨_, rProds_mul c1 h1 h2, by simp only at g1 g2 ⊢; omega⟩
    have hT : ∀ d s, l.length - s.pos ≤ n → ∃ r, RTerm l d s r ∧ s.pos ≤ r.2.pos := by
      intro d s hn
      obtain ⟨⟨x, s1⟩, h1, g1⟩ := hF d s hn
      obtain ⟨⟨y, s2⟩, h2, g2⟩ := hP d x s1 (by simp only at g1; omega)
      exact ⟨_, rTerm h1 h2, by simp only at g1 g2 ⊢; omega⟩
    have hS : ∀ d e s, l.length - s.pos ≤ n → ∃ r, RSums l d e s r ∧ s.pos ≤ r.2.pos := by
      intro d e s hn
      cases c1 : isSign l s [43]
      · cases c2 : isSign l s [45]
        · exact ⟨_, rSums_end c1 c2, Nat.le_refl _⟩
        · have hlt := (isSign_lt c2).2
          obtain ⟨⟨x, s1⟩, h1, g1⟩ := (ih (l.length - (s.pos + 1)) (by omega)).2.2.1 d s.next (Nat.le_refl _)
          rw [hnx] at g1
          obtain ⟨⟨y, s2⟩, h2, g2⟩ := (ih (l.length - (s.pos + 1)) (by omega)).2.2.2.1 d (.mk 6 0 [] [e, x]) s1 (by simp only at g1; omega)
          exact ⟨_, rSums_sub c1 c2 h1 h2, by simp only at g1 g2 ⊢; omega⟩
      · have hlt := (isSign_lt c1).2
        obtain ⟨⟨x, s1⟩, h1, g1⟩ := (ih (l.length - (s.pos + 1)) (by omega)).2.2.1 d s.next (Nat.le_refl _)
        rw [hnx] at g1
        obtain ⟨⟨y, s2⟩, h2, g2⟩ := (ih (l.length - (s.pos + 1)) (by omega)).2.2.2.1 d (.mk 5 0 [] [e, x]) s1 (by simp only at g1; omega)
        exact ⟨_, rSums_add c1 h1 h2, by simp only at g1 g2 ⊢; omega⟩
    have hE : ∀ d s, l.length - s.pos ≤ n → ∃ r, RExpr l d s r ∧ s.pos ≤ r.2.pos := by
      intro d s hn
      obtain ⟨⟨x, s1⟩, h1, g1⟩ := hT d s hn
      obtain ⟨⟨y, s2⟩, h2, g2⟩ := hS d x s1 (by simp only at g1; omega)
      exact ⟨_, rExpr h1 h2, by simp only at g1 g2 ⊢; omega⟩
    refine ⟨hF, hP, hT, hS, hE, ?_⟩
    intro d xs s hn
    cases c : isSign l s [44]
    · refine ⟨_, rMore_end c, ?_⟩
      simp only
      split
      · rw [hnx]; omega
      · rw [hfl]; omega
    · by_cases h4 : 4 ≤ xs.length
      · exact ⟨_, rMore_long c h4, by simp only [hfl]; exact Nat.le_refl _⟩
      · have hlt := (isSign_lt c).2
        obtain ⟨⟨x, s1⟩, h1, g1⟩ := (ih (l.length - (s.pos + 1)) (by omega)).2.2.2.2.1 d s.next (Nat.le_refl _)
        rw [hnx] at g1
        obtain ⟨⟨y, s2⟩, h2, g2⟩ := (ih (l.length - (s.pos + 1)) (by omega)).2.2.2.2.2 d (xs ++ [x]) s1 (by simp only at g1; omega)
        exact ⟨_, rMore_more c h4 h1 h2, by simp only at g1 g2 ⊢; omega⟩
/-- what the list comes to is what the rules come to -/
theorem mach {l : List T} {p : Nat} {r : Res} (h : M l (.B p [] 0) r) : ∃ x s, RExpr l 0 ⟨p, 0, 0⟩ (x, s) ∧ ((s.err = 0 ∧ r = .ok x s.pos) ∨ (s.err ≠ 0 ∧ r = .bad s.err s.bad)) := by
  obtain ⟨⟨x, s⟩, hx, -⟩ := (total l (l.length - p)).2.2.2.2.1 0 ⟨p, 0, 0⟩ (Nat.le_refl _)
  refine ⟨x, s, hx, ?_⟩
  obtain ⟨f, hf⟩ := hx
  by_cases h0 : s.err = 0
  · refine .inl ⟨h0, h.det ((go_all l f).exp 0 ⟨p, 0, 0⟩ x s hf rfl (by decide) [] _ (fun k K' e => by cases e) ⟨fun _ => m_stop ?_, fun k => absurd h0 k⟩)⟩
    simp only [step]
    rw [if_neg (by simp [(go_all l f).expE _ _ _ _ hf h0])]
  · exact .inr ⟨h0, h.det ((go_all l f).exp 0 ⟨p, 0, 0⟩ x s hf rfl (by decide) [] _ (fun k K' e => by cases e) ⟨fun k => absurd k h0, fun _ => rfl⟩)⟩
end Go.Proofs.YtdpjipphbhomkaaGreatDoor.Ex
