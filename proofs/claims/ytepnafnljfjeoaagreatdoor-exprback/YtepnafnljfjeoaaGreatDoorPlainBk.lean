/- Plain: what tells a tree is read again as that tree, or brackets go beyond the limit. Nothing of the program is named. -/
import Derived.Test.YtepnafnljfjeoaaGreatDoorPlainRx
namespace Go.Proofs.YtepnafnljfjeoaaGreatDoor.Line
open Ex (E St RExpr RSums RTerm RProds RFactor RSubs RMore isSign)
open Words (T Wd keyT)
set_option linter.unusedVariables false

/-- from word p on these words stand -/
def Here (l : List T) (p : Nat) (W : List Wd) : Prop := ∀ j (h : j < W.length), ∃ t, l[p + j]? = some t ∧ keyT t = W[j].2
theorem Here.left {l : List T} {p : Nat} {A B : List Wd} (h : Here l p (A ++ B)) : Here l p A := fun j hj => by
  obtain ⟨t, h1, h2⟩ := h j (by rw [List.length_append]; omega)
  exact ⟨t, h1, by rw [h2, List.getElem_append_left hj]⟩
theorem Here.right {l : List T} {p : Nat} {A B : List Wd} (h : Here l p (A ++ B)) : Here l (p + A.length) B := fun j hj => by
  obtain ⟨t, h1, h2⟩ := h (A.length + j) (by rw [List.length_append]; omega)
  refine ⟨t, by rw [Nat.add_assoc]; exact h1, ?_⟩
  rw [h2, List.getElem_append_right (by omega)]
  simp
theorem Here.head {l : List T} {p : Nat} {x : Wd} {A : List Wd} (h : Here l p (x :: A)) : ∃ t, l[p]? = some t ∧ keyT t = x.2 := by
  obtain ⟨t, h1, h2⟩ := h 0 (by simp)
  exact ⟨t, by simpa using h1, by simpa using h2⟩
theorem Here.tail {l : List T} {p : Nat} {x : Wd} {A : List Wd} (h : Here l p (x :: A)) : Here l (p + 1) A := by
  have := Here.right (A := [x]) (B := A) h
  simpa using this
/-- a state with nothing wrong -/
abbrev ok (p : Nat) : St := ⟨p, 0, 0⟩
theorem signIs_at {l : List T} {p : Nat} {t : T} (h : l[p]? = some t) (c : List UInt8) : isSign l (ok p) c = (decide (t.kind = 3) && decide (t.text = c)) := by
  unfold isSign; simp only [h]; rfl
theorem signIs_err {l : List T} {s : St} (h : s.err ≠ 0) (c : List UInt8) : isSign l s c = false := by
  unfold isSign; simp [h]
theorem at_sign {l : List T} {p : Nat} {b : Bool} {c : UInt8} {A : List Wd} (h : Here l p (sg b c :: A)) : (∀ d : UInt8, isSign l (ok p) [d] = decide (c = d)) ∧ ∃ hp : p < l.length, l[p].kind = 3 := by
  obtain ⟨t, h1, h2⟩ := h.head
  have hk : t.kind = 3 := congrArg (·.1) h2
  have ht : t.text = [c] := congrArg (·.2.1) h2
  refine ⟨fun d => by rw [signIs_at h1, hk, ht]; simp, ?_⟩
  obtain ⟨hp, he⟩ := List.getElem?_eq_some_iff.1 h1
  exact ⟨hp, by rw [he]; exact hk⟩
def FF (l : List T) (d p q : Nat) (e : E) : Prop := RFactor l d (ok p) (e, ok q) ∨ ∃ e' s', RFactor l d (ok p) (e', s') ∧ s'.err = 4
def TT (l : List T) (d p q : Nat) (e : E) : Prop := (∀ r, RProds l d e (ok q) r → RTerm l d (ok p) r) ∨ ∃ e' s', RTerm l d (ok p) (e', s') ∧ s'.err = 4
def SS (l : List T) (d p q : Nat) (e : E) : Prop := (∀ r, RSums l d e (ok q) r → RExpr l d (ok p) r) ∨ ∃ e' s', RExpr l d (ok p) (e', s') ∧ s'.err = 4
def EE (l : List T) (d p q : Nat) (e : E) : Prop := RExpr l d (ok p) (e, ok q) ∨ ∃ e' s', RExpr l d (ok p) (e', s') ∧ s'.err = 4
/-- none of these stands at q -/
def Nx (l : List T) (q : Nat) (cs : List UInt8) : Prop := ∀ c ∈ cs, isSign l (ok q) [c] = false
theorem prods_err {l : List T} {d : Nat} {e : E} {s : St} (h : s.err = 4) : RProds l d e s (e, s) := Ex.rProds_end (signIs_err (by omega) _) (signIs_err (by omega) _)
theorem sums_err {l : List T} {d : Nat} {e : E} {s : St} (h : s.err = 4) : RSums l d e s (e, s) := Ex.rSums_end (signIs_err (by omega) _) (signIs_err (by omega) _)
theorem FF.tt {l : List T} {d p q : Nat} {e : E} (h : FF l d p q e) : TT l d p q e := by
  rcases h with h | ⟨e', s', h, h4⟩
  · exact .inl fun r hr => Ex.rTerm h hr
  · exact .inr ⟨e', s', Ex.rTerm h (prods_err h4), h4⟩
/-- a term by itself -/
theorem TT.term {l : List T} {d p q : Nat} {e : E} (h : TT l d p q e) (hn : Nx l q [42, 47]) : RTerm l d (ok p) (e, ok q) ∨ ∃ e' s', RTerm l d (ok p) (e', s') ∧ s'.err = 4 := by
  rcases h with h | h
  · exact .inl (h _ (Ex.rProds_end (hn 42 (by simp)) (hn 47 (by simp))))
  · exact .inr h
theorem TT.ss {l : List T} {d p q : Nat} {e : E} (h : TT l d p q e) (hn : Nx l q [42, 47]) : SS l d p q e := by
  rcases h.term hn with h | ⟨e', s', h, h4⟩
  · exact .inl fun r hr => Ex.rExpr h hr
  · exact .inr ⟨e', s', Ex.rExpr h (sums_err h4), h4⟩
theorem SS.ee {l : List T} {d p q : Nat} {e : E} (h : SS l d p q e) (hn : Nx l q [43, 45]) : EE l d p q e := by
  rcases h with h | h
  · exact .inl (h _ (Ex.rSums_end (hn 43 (by simp)) (hn 45 (by simp))))
  · exact .inr h
theorem nx_sign {l : List T} {q : Nat} {b : Bool} {c : UInt8} {A : List Wd} (h : Here l q (sg b c :: A)) {cs : List UInt8} (hc : c ∉ cs) : Nx l q cs := fun d hd => by
  rw [(at_sign h).1 d]
  exact decide_eq_false fun e => hc (e ▸ hd)
theorem ne_of3 {k : Nat} (h : k = 3) : k ≠ 1 ∧ k ≠ 2 := by omega
/-- brackets -/
theorem ff_round {l : List T} {d p q : Nat} {e : E} {b : Bool} (h0 : Here l p [sg b 40]) (h1 : Here l q [sg false 41]) (h : EE l (d + 1) (p + 1) q e) : FF l d p (q + 1) e := by
  obtain ⟨a1, hp, a2⟩ := at_sign h0
  obtain ⟨b1, -⟩ := at_sign h1
  by_cases hd : 20 ≤ d
  · exact .inr ⟨_, _, Ex.rFactor_long rfl hp (ne_of3 a2).1 (ne_of3 a2).2 (.inr (by rw [a1]; rfl)) hd, rfl⟩
  · rcases h with h | ⟨e', s', h, h4⟩
    · have := Ex.rFactor_round (s := ok p) rfl hp (ne_of3 a2).1 (ne_of3 a2).2 (by rw [a1]; decide) (by rw [a1]; rfl) hd h
      rw [if_pos (by rw [b1]; rfl)] at this
      exact .inl this
    · have := Ex.rFactor_round (s := ok p) rfl hp (ne_of3 a2).1 (ne_of3 a2).2 (by rw [a1]; decide) (by rw [a1]; rfl) hd h
      rw [if_neg (by rw [signIs_err (by omega)]; decide)] at this
      refine .inr ⟨_, _, this, ?_⟩
      unfold St.fail
      rw [if_neg (by omega)]
      exact h4
theorem ff_neg {l : List T} {d p q : Nat} {e : E} {b : Bool} (h0 : Here l p [sg b 45]) (h : FF l (d + 1) (p + 1) q e) : FF l d p q (.mk 4 0 [] [e]) := by
  obtain ⟨a1, hp, a2⟩ := at_sign h0
  by_cases hd : 20 ≤ d
  · exact .inr ⟨_, _, Ex.rFactor_long rfl hp (ne_of3 a2).1 (ne_of3 a2).2 (.inl (by rw [a1]; rfl)) hd, rfl⟩
  · rcases h with h | ⟨e', s', h, h4⟩
    · exact .inl (Ex.rFactor_neg (s := ok p) rfl hp (ne_of3 a2).1 (ne_of3 a2).2 (by rw [a1]; rfl) hd h)
    · exact .inr ⟨_, _, Ex.rFactor_neg (s := ok p) rfl hp (ne_of3 a2).1 (ne_of3 a2).2 (by rw [a1]; rfl) hd h, h4⟩
theorem ff_num {l : List T} {d p : Nat} {b : Bool} {n : Nat} (h0 : Here l p [nb b n]) : FF l d p (p + 1) (.mk 1 n [] []) := by
  obtain ⟨t, h1, h2⟩ := h0.head
  obtain ⟨hp, he⟩ := List.getElem?_eq_some_iff.1 h1
  have hk : t.kind = 2 := congrArg (·.1) h2
  have hn : t.n = n := congrArg (·.2.2) h2
  have := Ex.rFactor_num (l := l) (d := d) (s := ok p) rfl hp (by rw [show l[(ok p).pos] = t from he]; exact hk)
  rw [show l[(ok p).pos] = t from he, hn] at this
  exact .inl this
theorem ff_var {l : List T} {d p : Nat} {b : Bool} {nm : List UInt8} (h0 : Here l p [(b, 1, nm, 0)]) (hn : isSign l (ok (p + 1)) [40] = false) : FF l d p (p + 1) (.mk 2 0 nm []) := by
  obtain ⟨t, h1, h2⟩ := h0.head
  obtain ⟨hp, he⟩ := List.getElem?_eq_some_iff.1 h1
  have hk : t.kind = 1 := congrArg (·.1) h2
  have hx : t.text = nm := congrArg (·.2.1) h2
  have := Ex.rFactor_var (l := l) (d := d) (s := ok p) rfl hp (by rw [show l[(ok p).pos] = t from he]; exact hk) hn
  rw [show l[(ok p).pos] = t from he, hx] at this
  exact .inl this
/-- what holds of a tree's words wherever they stand -/
structure PX (l : List T) (x : E) : Prop where
  F : Ex.bindOf x.kind = 0 ∨ x.kind = 4 → ∀ b p d, Here l p (wds b x) → isSign l (ok (p + (wds b x).length)) [40] = false → FF l d p (p + (wds b x).length) (plainE x)
  P : Ex.bindOf x.kind ≠ 1 → ∀ b p d, Here l p (wds b x) → isSign l (ok (p + (wds b x).length)) [40] = false → TT l d p (p + (wds b x).length) (plainE x)
  S : ∀ b p d, Here l p (wds b x) → Nx l (p + (wds b x).length) [40, 42, 47] → SS l d p (p + (wds b x).length) (plainE x)
theorem nx_sub {l : List T} {q : Nat} {A B : List UInt8} (h : Nx l q A) (hs : ∀ c ∈ B, c ∈ A) : Nx l q B := fun c hc => h c (hs c hc)
theorem px_ofF {l : List T} {x : E} (h : ∀ b p d, Here l p (wds b x) → isSign l (ok (p + (wds b x).length)) [40] = false → FF l d p (p + (wds b x).length) (plainE x)) : PX l x :=
  ⟨fun _ => h, fun _ b p d h0 h1 => (h b p d h0 h1).tt, fun b p d h0 h1 => (h b p d h0 (h1 40 (by simp))).tt.ss (nx_sub h1 (by decide))⟩
/-- a part within brackets -/
theorem px_round {l : List T} {x : E} (h : PX l x) {b : Bool} {p d : Nat} (h0 : Here l p (sg b 40 :: (wds false x ++ [sg false 41]))) : FF l d p (p + (sg b 40 :: (wds false x ++ [sg false 41])).length) (plainE x) := by
  have h1 := h0.tail
  have h2 := h1.left
  have h3 := h1.right
  have := ff_round (d := d) (e := plainE x) (Here.left (A := [sg b 40]) h0) h3 (SS.ee (h.S false (p + 1) (d + 1) h2 (nx_sign h3 (by decide))) (nx_sign h3 (by decide)))
  simp only [List.length_cons, List.length_append, List.length_nil]
  rw [show p + ((wds false x).length + (0 + 1) + 1) = p + 1 + (wds false x).length + 1 by omega]
  exact this
theorem ss_sum {l : List T} {d p q q2 : Nat} {a y : E} {b : Bool} {k : Int} {c : UInt8} (hk : (k = 5 ∧ c = 43) ∨ (k = 6 ∧ c = 45)) (ha : SS l d p q a) (hs : Here l q [sg b c]) (hy : TT l d (q + 1) q2 y) (hn : Nx l q2 [42, 47]) : SS l d p q2 (.mk k 0 [] [a, y]) := by
  obtain ⟨s1, -⟩ := at_sign hs
  rcases ha with ha | ha
  · rcases hy.term hn with hy | ⟨e', s', hy, h4⟩
    · refine .inl fun r hr => ha r ?_
      rcases hk with ⟨rfl, rfl⟩ | ⟨rfl, rfl⟩
      · exact Ex.rSums_add (s := ok q) (by rw [s1]; rfl) hy hr
      · exact Ex.rSums_sub (s := ok q) (by rw [s1]; rfl) (by rw [s1]; rfl) hy hr
    · rcases hk with ⟨rfl, rfl⟩ | ⟨rfl, rfl⟩
      · exact .inr ⟨_, _, ha _ (Ex.rSums_add (s := ok q) (by rw [s1]; rfl) hy (sums_err h4)), h4⟩
      · exact .inr ⟨_, _, ha _ (Ex.rSums_sub (s := ok q) (by rw [s1]; rfl) (by rw [s1]; rfl) hy (sums_err h4)), h4⟩
  · exact .inr ha
theorem tt_prod {l : List T} {d p q q2 : Nat} {a y : E} {b : Bool} {k : Int} {c : UInt8} (hk : (k = 7 ∧ c = 42) ∨ (k = 8 ∧ c = 47)) (ha : TT l d p q a) (hs : Here l q [sg b c]) (hy : FF l d (q + 1) q2 y) : TT l d p q2 (.mk k 0 [] [a, y]) := by
  obtain ⟨s1, -⟩ := at_sign hs
  rcases ha with ha | ha
  · rcases hy with hy | ⟨e', s', hy, h4⟩
    · refine .inl fun r hr => ha r ?_
      rcases hk with ⟨rfl, rfl⟩ | ⟨rfl, rfl⟩
      · exact Ex.rProds_mul (s := ok q) (by rw [s1]; rfl) hy hr
      · exact Ex.rProds_div (s := ok q) (by rw [s1]; rfl) (by rw [s1]; rfl) hy hr
    · rcases hk with ⟨rfl, rfl⟩ | ⟨rfl, rfl⟩
      · exact .inr ⟨_, _, ha _ (Ex.rProds_mul (s := ok q) (by rw [s1]; rfl) hy (prods_err h4)), h4⟩
      · exact .inr ⟨_, _, ha _ (Ex.rProds_div (s := ok q) (by rw [s1]; rfl) (by rw [s1]; rfl) hy (prods_err h4)), h4⟩
  · exact .inr ha
theorem plainL_map : ∀ a : List E, plainL a = a.map plainE
  | [] => by rw [plainL]; rfl
  | y :: r => by rw [plainL, plainL_map r]; rfl
theorem px_num {l : List T} {n : Int} : PX l (.mk 1 n [] []) := by
  refine px_ofF fun b p d h0 h1 => ?_
  clear h1
  by_cases c1 : n = -9223372036854775808
  · have hw : wds b (.mk 1 n [] []) = [sg b 40, sg false 45, nb false 9223372036854775807, sg true 45, nb true 1, sg false 41] := by rw [wds, if_pos rfl]; unfold numW; rw [if_pos c1]
    have hp : plainE (.mk 1 n [] []) = .mk 6 0 [] [.mk 4 0 [] [.mk 1 9223372036854775807 [] []], .mk 1 1 [] []] := by rw [plainE, if_pos ⟨rfl, c1⟩]
    rw [hw] at h0
    rw [hw, hp]
    have g1 := h0.tail
    have g2 := g1.tail
    have g3 := g2.tail
    have g4 := g3.tail
    have g5 := g4.tail
    have e1 : FF l (d + 1) (p + 1) (p + 1 + 1 + 1) (.mk 4 0 [] [.mk 1 (9223372036854775807 : Nat) [] []]) := ff_neg (Here.left (A := [sg false 45]) g1) (ff_num (Here.left (A := [nb false 9223372036854775807]) g2))
    have e2 : TT l (d + 1) (p + 1 + 1 + 1 + 1) (p + 1 + 1 + 1 + 1 + 1) (.mk 1 (1 : Nat) [] []) := (ff_num (Here.left (A := [nb true 1]) g4)).tt
    have e3 := ss_sum (.inr ⟨rfl, rfl⟩) (e1.tt.ss (nx_sign g3 (by decide))) (Here.left (A := [sg true 45]) g3) e2 (nx_sign g5 (by decide))
    exact ff_round (Here.left (A := [sg b 40]) h0) g5 (e3.ee (nx_sign g5 (by decide)))
  by_cases c2 : n < 0
  · have hw : wds b (.mk 1 n [] []) = [sg b 40, sg false 45, nb false n.natAbs, sg false 41] := by rw [wds, if_pos rfl]; unfold numW; rw [if_neg c1, if_pos c2]
    have hp : plainE (.mk 1 n [] []) = .mk 4 0 [] [.mk 1 (-n) [] []] := by rw [plainE, if_neg (fun h => c1 h.2), if_pos ⟨rfl, c2⟩]
    rw [hw] at h0
    rw [hw, hp]
    have g1 := h0.tail
    have g2 := g1.tail
    have g3 := g2.tail
    have e1 : FF l (d + 1) (p + 1) (p + 1 + 1 + 1) (.mk 4 0 [] [.mk 1 (n.natAbs : Nat) [] []]) := ff_neg (Here.left (A := [sg false 45]) g1) (ff_num (Here.left (A := [nb false n.natAbs]) g2))
    have e2 := ff_round (d := d) (Here.left (A := [sg b 40]) h0) g3 (SS.ee (e1.tt.ss (nx_sign g3 (by decide))) (nx_sign g3 (by decide)))
    rw [show ((n.natAbs : Nat) : Int) = -n by omega] at e2
    exact e2
  · have hw : wds b (.mk 1 n [] []) = [nb b n.natAbs] := by rw [wds, if_pos rfl]; unfold numW; rw [if_neg c1, if_neg c2]
    have hp : plainE (.mk 1 n [] []) = .mk 1 n [] [] := by rw [plainE, if_neg (fun h => c1 h.2), if_neg (fun h => c2 h.2), plainL]
    rw [hw] at h0
    rw [hw, hp]
    have := ff_num (d := d) h0
    rw [show ((n.natAbs : Nat) : Int) = n by omega] at this
    exact this
theorem px_var {l : List T} {nm : List UInt8} : PX l (.mk 2 0 nm []) := by
  refine px_ofF fun b p d h0 h1 => ?_
  have hw : wds b (.mk 2 0 nm []) = [(b, 1, nm, 0)] := by rw [wds, if_neg (by decide), if_pos rfl]
  have hp : plainE (.mk 2 0 nm []) = .mk 2 0 nm [] := by rw [plainE, if_neg (fun h => absurd h.1 (by decide)), if_neg (fun h => absurd h.1 (by decide)), plainL]
  rw [hw] at h0 h1
  rw [hw, hp]
  exact ff_var h0 h1
theorem brk3 (i : Nat) (k : Int) : brkW 3 i k = false := by unfold brkW; rw [if_pos (.inl rfl)]
theorem opd3 (i : Nat) (b : Bool) (y : E) : opd 3 i b y = wds b y := by unfold opd; rw [brk3]; rfl
/-- behind a subscript stands a comma or the bracket's end -/
theorem nx_more {l : List T} {q : Nat} {i : Nat} {r : List E} (h : Here l q (wdsL 3 (i + 1) true r ++ [sg false 41])) {cs : List UInt8} (h1 : (44 : UInt8) ∉ cs) (h2 : (41 : UInt8) ∉ cs) : Nx l q cs := by
  cases r with
  | nil => rw [wdsL_nil] at h; exact nx_sign h h2
  | cons y r =>
    rw [wdsL_cons, if_neg (by omega), List.append_assoc] at h
    exact nx_sign (c := 44) (A := []) (Here.left (A := [sg false 44]) h) h1
theorem fail_err {s : St} (h : s.err = 4) (k e : Nat) : (s.fail k e).err = 4 := by unfold St.fail; rw [if_neg (by omega)]; exact h
theorem more_err {l : List T} {d : Nat} {xs : List E} {s : St} (h : s.err = 4) : ∃ s', RMore l d xs s (xs, s') ∧ s'.err = 4 := by
  have := Ex.rMore_end (l := l) (d := d) (xs := xs) (s := s) (signIs_err (by omega) _)
  rw [if_neg (by rw [signIs_err (by omega)]; decide)] at this
  exact ⟨_, this, fail_err h _ _⟩
theorem part_ee {l : List T} {y : E} {r : List E} {i p d : Nat} {b : Bool} (hy : PX l y) (h : Here l p (wds b y ++ (wdsL 3 (i + 1) true r ++ [sg false 41]))) : EE l d p (p + (wds b y).length) (plainE y) :=
  SS.ee (hy.S b p d h.left (nx_more h.right (by decide) (by decide))) (nx_more h.right (by decide) (by decide))
theorem more_ok {l : List T} {d : Nat} : ∀ (r : List E) (xs : List E) (p i : Nat), (∀ y ∈ r, PX l y) → 1 ≤ xs.length → xs.length + r.length ≤ 4 → Here l p (wdsL 3 (i + 1) true r ++ [sg false 41]) →
    RMore l d xs (ok p) (xs ++ plainL r, ok (p + (wdsL 3 (i + 1) true r).length + 1)) ∨ ∃ xs' s', RMore l d xs (ok p) (xs', s') ∧ s'.err = 4
  | [], xs, p, i, _, _, _, h => by
    rw [wdsL_nil] at h ⊢
    obtain ⟨a1, -⟩ := at_sign (A := []) h
    have := Ex.rMore_end (l := l) (d := d) (xs := xs) (s := ok p) (by rw [a1]; decide)
    rw [if_pos (by rw [a1]; rfl)] at this
    rw [plainL, List.append_nil]
    exact .inl this
  | y :: r, xs, p, i, hy, h1, h4, h => by
    rw [wdsL_cons, if_neg (by omega), opd3, List.append_assoc, List.append_assoc] at h
    obtain ⟨a1, -⟩ := at_sign (c := 44) (A := []) (Here.left (A := [sg false 44]) h)
    have g := Here.right (A := [sg false 44]) h
    have h5 : ¬ 4 ≤ xs.length := by rw [List.length_cons] at h4; omega
    rcases part_ee (d := d) (hy y (by simp)) g with e | ⟨e', s', e, he⟩
    · have ih := more_ok (d := d) r (xs ++ [plainE y]) _ (i + 1) (fun z hz => hy z (by simp [hz])) (by simp) (by rw [List.length_append]; simp only [List.length_cons, List.length_nil] at h4 ⊢; omega) g.right
      rcases ih with ih | ⟨xs', s', ih, he⟩
      · left
        have := Ex.rMore_more (s := ok p) (by rw [a1]; rfl) h5 e ih
        rw [plainL, wdsL_cons, if_neg (by omega), opd3]
        rw [List.append_assoc] at this
        rw [show sepW 3 = [sg false 44] from rfl]
        simp only [List.length_append, List.length_cons, List.length_nil] at this ⊢
        rw [show p + (0 + 1 + ((wds true y).length + (wdsL 3 (i + 1 + 1) true r).length)) + 1 = p + (0 + 1) + (wds true y).length + (wdsL 3 (i + 1 + 1) true r).length + 1 by omega]
        exact this
      · exact .inr ⟨xs', s', Ex.rMore_more (s := ok p) (by rw [a1]; rfl) h5 e ih, he⟩
    · obtain ⟨s2, m, hm⟩ := more_err (l := l) (d := d) (xs := xs ++ [e']) he
      exact .inr ⟨_, s2, Ex.rMore_more (s := ok p) (by rw [a1]; rfl) h5 e m, hm⟩
theorem px_elem {l : List T} {nm : List UInt8} {a : List E} (h1 : 1 ≤ a.length) (h4 : a.length ≤ 4) (ih : ∀ z ∈ a, PX l z) : PX l (.mk 3 0 nm a) := by
  refine px_ofF fun b p d h0 hx => ?_
  clear hx
  obtain ⟨y, r, rfl⟩ : ∃ y r, a = y :: r := by cases a with | nil => simp at h1 | cons y r => exact ⟨y, r, rfl⟩
  have hw : wds b (.mk 3 0 nm (y :: r)) = (b, 1, nm, 0) :: sg false 40 :: (wds false y ++ (wdsL 3 1 true r ++ [sg false 41])) := by rw [wds, if_neg (by decide), if_neg (by decide), if_pos rfl, wdsL_cons, if_pos rfl, opd3, List.nil_append, List.append_assoc]
  have hp : plainE (.mk 3 0 nm (y :: r)) = .mk 3 0 nm (plainE y :: plainL r) := by rw [plainE, if_neg (fun h => absurd h.1 (by decide)), if_neg (fun h => absurd h.1 (by decide)), plainL]
  rw [hw] at h0
  rw [hw, hp]
  obtain ⟨t, k1, k2⟩ := h0.head
  obtain ⟨hpl, he⟩ := List.getElem?_eq_some_iff.1 k1
  have hk : t.kind = 1 := congrArg (·.1) k2
  have ht : t.text = nm := congrArg (·.2.1) k2
  have g1 := h0.tail
  obtain ⟨a1, -⟩ := at_sign g1
  have g2 := g1.tail
  have key : ∀ xs s1, RSubs l d (ok (p + 1 + 1)) (xs, s1) → RFactor l d (ok p) (.mk 3 0 nm xs, s1) := fun xs s1 hs => by
    have := Ex.rFactor_elem (l := l) (d := d) (s := ok p) rfl hpl (by rw [show l[(ok p).pos] = t from he]; exact hk) (by rw [show (ok p).next = ok (p + 1) from rfl, a1]; rfl) hs
    rw [show l[(ok p).pos] = t from he, ht] at this
    exact this
  rcases part_ee (i := 0) (d := d) (ih y (by simp)) g2 with e | ⟨e', s', e, h5⟩
  · rcases more_ok (d := d) r [plainE y] _ 0 (fun z hz => ih z (by simp [hz])) (by simp) (by simp only [List.length_cons, List.length_nil] at h4 ⊢; omega) g2.right with m | ⟨xs', s', m, hm⟩
    · left
      have := key _ _ (Ex.rSubs e m)
      simp only [List.length_cons, List.length_append, List.length_nil]
      rw [show p + ((wds false y).length + ((wdsL 3 1 true r).length + (0 + 1)) + 1 + 1) = p + 1 + 1 + (wds false y).length + (wdsL 3 (0 + 1) true r).length + 1 by simp only [Nat.zero_add]; omega]
      exact this
    · exact .inr ⟨_, s', key _ _ (Ex.rSubs e m), hm⟩
  · obtain ⟨s2, m, hm⟩ := more_err (l := l) (d := d) (xs := [e']) h5
    exact .inr ⟨_, s2, key _ _ (Ex.rSubs e m), hm⟩
theorem plain_mk {k n : Int} {nm : List UInt8} {a : List E} (h : k ≠ 1) : plainE (.mk k n nm a) = .mk k n nm (plainL a) := by rw [plainE, if_neg (fun e => h e.1), if_neg (fun e => h e.1)]
/-- a part, in brackets or not -/
theorem opd_ff {l : List T} {k : Int} {i : Nat} {b : Bool} {y : E} (hy : PX l y) (hk : brkW k i y.kind = false → Ex.bindOf y.kind = 0 ∨ y.kind = 4) {p d : Nat} (h : Here l p (opd k i b y)) (hn : isSign l (ok (p + (opd k i b y).length)) [40] = false) : FF l d p (p + (opd k i b y).length) (plainE y) := by
  cases hb : brkW k i y.kind with
  | true =>
    have ho : opd k i b y = sg b 40 :: (wds false y ++ [sg false 41]) := by unfold opd; rw [hb]; rfl
    rw [ho] at h ⊢
    exact px_round hy h
  | false =>
    have ho : opd k i b y = wds b y := by unfold opd; rw [hb]; rfl
    rw [ho] at h hn ⊢
    exact hy.F (hk hb) b p d h hn
theorem opd_tt {l : List T} {k : Int} {i : Nat} {b : Bool} {y : E} (hy : PX l y) (hk : brkW k i y.kind = false → Ex.bindOf y.kind ≠ 1) {p d : Nat} (h : Here l p (opd k i b y)) (hn : isSign l (ok (p + (opd k i b y).length)) [40] = false) : TT l d p (p + (opd k i b y).length) (plainE y) := by
  cases hb : brkW k i y.kind with
  | true =>
    have ho : opd k i b y = sg b 40 :: (wds false y ++ [sg false 41]) := by unfold opd; rw [hb]; rfl
    rw [ho] at h ⊢
    exact (px_round hy h).tt
  | false =>
    have ho : opd k i b y = wds b y := by unfold opd; rw [hb]; rfl
    rw [ho] at h hn ⊢
    exact hy.P (hk hb) b p d h hn
theorem px_neg {l : List T} {y : E} (hk : RX y) (hy : PX l y) : PX l (.mk 4 0 [] [y]) := by
  refine px_ofF fun b p d h0 h1 => ?_
  have hw : wds b (.mk 4 0 [] [y]) = sg b 45 :: opd 4 0 false y := by rw [wds, if_neg (by decide), if_neg (by decide), if_neg (by decide), if_pos rfl, wdsL_cons, if_pos rfl, wdsL_nil, List.nil_append, List.append_nil]
  rw [hw] at h0 h1
  rw [hw, plain_mk (by decide), plainL, plainL]
  rw [List.length_cons, show p + ((opd 4 0 false y).length + 1) = p + 1 + (opd 4 0 false y).length by omega] at h1 ⊢
  refine ff_neg (Here.left (A := [sg b 45]) h0) (opd_ff hy (fun hb => ?_) h0.tail h1)
  rcases hk.kinds with h | h | h | h | h | h | h | h <;> rw [h] at hb ⊢ <;> revert hb <;> decide
theorem px_two {l : List T} {k : Int} {a y : E} (hk : k = 5 ∨ k = 6 ∨ k = 7 ∨ k = 8) (ra : RX a) (ry : RX y) (ha : PX l a) (hy : PX l y) : PX l (.mk k 0 [] [a, y]) := by
  have hk1 : k ≠ 1 := by omega
  have hw : ∀ b, wds b (.mk k 0 [] [a, y]) = opd k 0 b a ++ (sepW k ++ opd k 1 true y) := fun b => by
    rw [wds, if_neg (by omega), if_neg (by omega), if_neg (by omega), if_neg (by omega), wdsL_cons, if_pos rfl, wdsL_cons, if_neg (by omega), wdsL_nil, List.nil_append, List.append_nil]
  have hp : plainE (.mk k 0 [] [a, y]) = .mk k 0 [] [plainE a, plainE y] := by rw [plain_mk hk1, plainL, plainL, plainL]
  obtain ⟨c, hc, hs⟩ : ∃ c : UInt8, ((k = 5 ∧ c = 43) ∨ (k = 6 ∧ c = 45) ∨ (k = 7 ∧ c = 42) ∨ (k = 8 ∧ c = 47)) ∧ sepW k = [sg true c] := by
    rcases hk with rfl | rfl | rfl | rfl
    · exact ⟨43, .inl ⟨rfl, rfl⟩, rfl⟩
    · exact ⟨45, .inr (.inl ⟨rfl, rfl⟩), rfl⟩
    · exact ⟨42, .inr (.inr (.inl ⟨rfl, rfl⟩)), rfl⟩
    · exact ⟨47, .inr (.inr (.inr ⟨rfl, rfl⟩)), rfl⟩
  have hc40 : c ≠ 40 := by rcases hc with ⟨_, rfl⟩ | ⟨_, rfl⟩ | ⟨_, rfl⟩ | ⟨_, rfl⟩ <;> decide
  have len : ∀ b p, p + (wds b (.mk k 0 [] [a, y])).length = p + (opd k 0 b a).length + 1 + (opd k 1 true y).length := fun b p => by
    rw [hw, hs, List.length_append, List.length_append, List.length_cons, List.length_nil]; omega
  have parts : ∀ b p, Here l p (wds b (.mk k 0 [] [a, y])) → Here l p (opd k 0 b a) ∧ Here l (p + (opd k 0 b a).length) [sg true c] ∧ Here l (p + (opd k 0 b a).length + 1) (opd k 1 true y) := fun b p h => by
    rw [hw, hs] at h
    exact ⟨h.left, h.right.left, h.right.right⟩
  by_cases h5 : k = 5 ∨ k = 6
  · -- a sum
    have hbk : Ex.bindOf (E.mk k 0 [] [a, y]).kind = 1 := by show Ex.bindOf k = 1; rcases h5 with rfl | rfl <;> rfl
    have hc' : (k = 5 ∧ c = 43) ∨ (k = 6 ∧ c = 45) := by rcases hc with h | h | h | h <;> first | exact .inl h | exact .inr h | omega
    have hba : brkW k 0 a.kind = false := by
      rcases h5 with rfl | rfl <;> rcases ra.kinds with h | h | h | h | h | h | h | h <;> rw [h] <;> decide
    have hS : ∀ b p d, Here l p (wds b (.mk k 0 [] [a, y])) → Nx l (p + (wds b (.mk k 0 [] [a, y])).length) [40, 42, 47] → SS l d p (p + (wds b (.mk k 0 [] [a, y])).length) (plainE (.mk k 0 [] [a, y])) := fun b p d h0 h1 => by
      obtain ⟨g1, g2, g3⟩ := parts b p h0
      rw [len] at h1 ⊢
      rw [hp]
      have hoa : opd k 0 b a = wds b a := by unfold opd; rw [hba]; rfl
      have ea : SS l d p (p + (opd k 0 b a).length) (plainE a) := by
        rw [hoa] at g1 g2 ⊢
        exact ha.S b p d g1 (nx_sign g2 (by rcases hc' with ⟨_, rfl⟩ | ⟨_, rfl⟩ <;> decide))
      refine ss_sum hc' ea g2 (opd_tt hy (fun hb => ?_) g3 (h1 40 (by simp))) (nx_sub h1 (by decide))
      rcases h5 with rfl | rfl <;> rcases ry.kinds with h | h | h | h | h | h | h | h <;> rw [h] at hb ⊢ <;> revert hb <;> decide
    exact ⟨fun h => by rw [hbk] at h; rcases h with h | h; exact absurd h (by decide); exact absurd (show k = 4 from h) (by omega), fun h => absurd hbk h, hS⟩
  · -- a product
    have h7 : k = 7 ∨ k = 8 := by omega
    have hbk : Ex.bindOf (E.mk k 0 [] [a, y]).kind = 2 := by show Ex.bindOf k = 2; rcases h7 with rfl | rfl <;> rfl
    have hc' : (k = 7 ∧ c = 42) ∨ (k = 8 ∧ c = 47) := by rcases hc with h | h | h | h <;> first | exact .inl h | exact .inr h | omega
    have hT : ∀ b p d, Here l p (wds b (.mk k 0 [] [a, y])) → isSign l (ok (p + (wds b (.mk k 0 [] [a, y])).length)) [40] = false → TT l d p (p + (wds b (.mk k 0 [] [a, y])).length) (plainE (.mk k 0 [] [a, y])) := fun b p d h0 h1 => by
      obtain ⟨g1, g2, g3⟩ := parts b p h0
      rw [len] at h1 ⊢
      rw [hp]
      refine tt_prod hc' (opd_tt ha (fun hb => ?_) g1 (nx_sign g2 (cs := [40]) (by simpa using hc40) 40 (by simp))) g2 (opd_ff hy (fun hb => ?_) g3 h1)
      · rcases h7 with rfl | rfl <;> rcases ra.kinds with h | h | h | h | h | h | h | h <;> rw [h] at hb ⊢ <;> revert hb <;> decide
      · rcases h7 with rfl | rfl <;> rcases ry.kinds with h | h | h | h | h | h | h | h <;> rw [h] at hb ⊢ <;> revert hb <;> decide
    exact ⟨fun h => by rw [hbk] at h; rcases h with h | h; exact absurd h (by decide); exact absurd (show k = 4 from h) (by omega), fun _ => hT, fun b p d h0 h1 => (hT b p d h0 (h1 40 (by simp))).ss (nx_sub h1 (by decide))⟩
theorem px_all {l : List T} : ∀ x : E, RX x → PX l x := by
  intro x h
  induction h with
  | num x hk hs ha => cases x with | mk k n nm a => obtain rfl : k = 1 := hk; obtain rfl : nm = [] := hs; obtain rfl : a = [] := ha; exact px_num
  | var x hk hn hs ha => cases x with | mk k n nm a => obtain rfl : k = 2 := hk; obtain rfl : n = 0 := hn; obtain rfl : a = [] := ha; exact px_var
  | elem x hk hn hs h1 h4 h ih => cases x with | mk k n nm a => obtain rfl : k = 3 := hk; obtain rfl : n = 0 := hn; exact px_elem h1 h4 ih
  | neg x hk hn hs h1 h ih => cases x with | mk k n nm a => obtain rfl : k = 4 := hk; obtain rfl : n = 0 := hn; obtain rfl : nm = [] := hs; obtain ⟨y, rfl⟩ := List.length_eq_one_iff.1 h1; exact px_neg (h y (List.mem_singleton.2 rfl)) (ih y (List.mem_singleton.2 rfl))
  | two x hk hn hs h1 h ih =>
    cases x with
    | mk k n nm a =>
      obtain rfl : n = 0 := hn
      obtain rfl : nm = [] := hs
      match a, h1 with
      | [u, v], _ => exact px_two hk (h u (by simp [E.a])) (h v (by simp [E.a])) (ih u (by simp [E.a])) (ih v (by simp [E.a]))
/-- words that tell a tree are read as that tree, or brackets go beyond the limit -/
theorem reads_back {l : List T} {x : E} (hx : RX x) (h : l.map keyT = (wds false x).map (·.2)) : EE l 0 0 l.length (plainE x) := by
  have hl : l.length = (wds false x).length := by have := congrArg List.length h; simpa using this
  have h0 : Here l 0 (wds false x) := fun j hj => by
    have hj' : j < l.length := by omega
    refine ⟨l[j], by rw [Nat.zero_add]; exact List.getElem?_eq_getElem hj', ?_⟩
    have := congrArg (·[j]?) h
    simp only [List.getElem?_map, List.getElem?_eq_getElem hj', List.getElem?_eq_getElem hj, Option.map_some, Option.some.injEq] at this
    exact this
  have hend : ∀ cs, Nx l (0 + (wds false x).length) cs := fun cs c hc => by
    unfold isSign
    rw [show (ok (0 + (wds false x).length)).pos = (wds false x).length from Nat.zero_add _, ← hl, List.getElem?_eq_none (Nat.le_refl _)]
    simp
  have := ((px_all x hx).S false 0 0 h0 (hend _)).ee (hend _)
  rw [Nat.zero_add, ← hl] at this
  exact this
end Go.Proofs.YtepnafnljfjeoaaGreatDoor.Line
