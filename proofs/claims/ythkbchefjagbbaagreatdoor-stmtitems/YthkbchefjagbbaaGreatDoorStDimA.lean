/- The contracts of the statement reader's dim, dims.
   Rows of items; the contract of the statement reader's items. -/
import Derived.Test.YthkbchefjagbbaaGreatDoorStFnAll
import Derived.Test.YthkbchefjagbbaaGreatDoorStXpA
import Derived.Maps.AppendAt
import Derived.Deep.LoopGhost
namespace Go.Proofs.YthkbchefjagbbaaGreatDoor.Line
open Go.ChangeShapes Go.WideShapes Go.ChangeAt Go.RowKit
open Ex (E St)
set_option linter.unusedVariables false

def dimR (T : List Words.T) (p : Nat) (er : SE) : Nat × Nat × SE :=
  if isKind T p er 2 then (if numAt T p true = 0 then (0, p, failE er p 1) else (numAt T p true, p + 1, er)) else (0, p, failE er p 2)
theorem isKind_ok {T : List Words.T} {p : Nat} {er : SE} {k : Nat} (h : isKind T p er k = true) : er = .ok := by
  unfold isKind at h
  rw [Bool.and_eq_true] at h
  exact of_decide_eq_true h.1
theorem isNext_ok {T : List Words.T} {p : Nat} {er : SE} {c : List UInt8} (h : isNext T p er c = true) : er = .ok := by
  unfold isNext at h
  rw [Bool.and_eq_true] at h
  exact of_decide_eq_true h.1
theorem isKind_bad {T : List Words.T} {p : Nat} {er : SE} {k : Nat} (h : er ≠ .ok) : isKind T p er k = false := by
  unfold isKind; rw [decide_eq_false h]; rfl
theorem failE_bad (er : SE) (p k : Nat) : failE er p k ≠ .ok := by
  unfold failE
  split
  · simp
  · assumption
theorem failE_keep {er : SE} (h : er ≠ .ok) (p k : Nat) : failE er p k = er := if_neg h
set_option maxHeartbeats 4000000 in
set_option maxRecDepth 100000 in
theorem dim_any (T : List Words.T) (L : Value) (rb : Nat) (w : World) (p : Nat) (er : SE) (h : SR T L rb w p er) (hN : NumOk T) : Calls Tryz.prog 186 #[.pointer (some ⟨rb, 0, none⟩)] w fun e w' => e = .returned (.int .i64 (dimR T p er).1) ∧ SR T L rb w' (dimR T p er).2.1 (dimR T p er).2.2 ∧ But rb w w' := by
  have HK : Hid (∀ n, Calls Tryz.prog 152 #[.pointer (some ⟨rb, 0, none⟩), .int .i64 2] (w.drewN n) fun e w' => e = .returned (.bool (isKind T p er 2)) ∧ ∃ m, w' = (w.drewN n).drewN m) := hide (fun n => seesKind_any T L rb (w.drewN n) p er 2 (h.drewN n))
  have H0 := hide h
  have ht := h.ht
  cases hb : isKind T p er 2 with
  | false =>
    have hd : dimR T p er = (0, p, failE er p 2) := by unfold dimR; rw [hb]; rfl
    rw [hd]
    rw [hb] at HK
    have HNM : Hid (∀ W, SR T L rb W p er → Calls Tryz.prog 154 #[.pointer (some ⟨rb, 0, none⟩)] W fun e w' => e = .returned (.int .i64 0) ∧ SR T L rb w' p (failE er p 2) ∧ But rb W w') := hide (fun W hW => by have := number_any T L rb W p er hW; rw [hb] at this; exact this)
    clear h hb hd
    go_enter Tryz.func186, Tryz.ntmps186
    go_wp2_with fail
    go_quiet ((go_at_call 152; refine Calls.quiet_of (unhide HK _)))
    have H1 := hide ((unhide H0).drewN nq)
    have HB1 := hide ((but_refl rb w).drewN nq)
    generalize w.drewN nq = W1 at *
    go_wp2_with fail
    refine (unhide HNM W1 (unhide H1)).mono ?_
    rintro e w2 ⟨rfl, h2, hb2⟩
    have H2 := hide (And.intro h2 ((unhide HB1).trans hb2))
    clear h2 hb2
    go_wp2
    go_ret
    exact ⟨rfl, unhide H2⟩
  | true =>
    have hok := isKind_ok hb
    subst hok
    have hlt := isKind_lt hb
    have hlt2 : (p : Int) < T.length := by omega
    obtain ⟨b, o, c, hLe, w0, w1, w3⟩ := h.tks.word hlt
    have hnv : numAt T p true = T[p].n := by unfold numAt; rw [if_pos rfl, List.getElem?_eq_getElem hlt]
    have hnl := numAt_le hN p true
    have c0 := h.c0
    have c1 := h.c1
    rw [hb] at HK
    by_cases hz : T[p].n = 0
    · have hd : dimR T p .ok = (0, p, failE .ok p 1) := by unfold dimR; rw [hb, if_pos rfl, hnv, if_pos hz]
      rw [hd]
      rw [hz] at w3
      have HNM : Hid (∀ W, SR T L rb W p (failE .ok p 1) → Calls Tryz.prog 154 #[.pointer (some ⟨rb, 0, none⟩)] W fun e w' => e = .returned (.int .i64 0) ∧ SR T L rb w' p (failE .ok p 1) ∧ But rb W w') := hide (fun W hW => by
        have := number_any T L rb W p (failE .ok p 1) hW
        rw [isKind_bad (failE_bad _ _ _)] at this
        have e : mustE false (failE .ok p 1) p = failE .ok p 1 := (show failE (failE .ok p 1) p 2 = failE .ok p 1 from failE_keep (failE_bad _ _ _) _ _)
        rw [e] at this
        exact this)
      subst hLe
      clear h hb hd hz hnv hnl w0 w1
      go_enter Tryz.func186, Tryz.ntmps186
      go_wp2_with fail
      go_quiet ((go_at_call 152; refine Calls.quiet_of (unhide HK _)))
      have H1 := hide ((unhide H0).drewN nq)
      have HB1 := hide ((but_refl rb w).drewN nq)
      generalize w.drewN nq = W1 at *
      go_wp2_with fail
      refine (fail_any T _ rb W1 p .ok 1 (unhide H1)).mono ?_
      rintro e w2 ⟨rfl, h2, hb2⟩
      have H2 := hide (And.intro h2 ((unhide HB1).trans hb2))
      clear h2 hb2
      go_wp2_with fail
      refine (unhide HNM w2 (unhide H2).1).mono ?_
      rintro e w3 ⟨rfl, h3, hb3⟩
      have H3 := hide (And.intro h3 ((unhide H2).2.trans hb3))
      clear h3 hb3
      go_wp2
      go_ret
      exact ⟨rfl, unhide H3⟩
    · have hd : dimR T p .ok = (T[p].n, p + 1, .ok) := by unfold dimR; rw [hb, if_pos rfl, hnv, if_neg hz]
      rw [hd]
      rw [hnv] at hnl
      have HNM : Hid (∀ W, SR T L rb W p .ok → Calls Tryz.prog 154 #[.pointer (some ⟨rb, 0, none⟩)] W fun e w' => e = .returned (.int .i64 T[p].n) ∧ SR T L rb w' (p + 1) .ok ∧ But rb W w') := hide (fun W hW => by
        have := number_any T L rb W p .ok hW
        rw [hb, hnv] at this
        exact this)
      have hzb : ((T[p].n : Int) == 0) = false := by rw [beq_eq_false_iff_ne]; omega
      have hzi : ¬ (T[p].n : Int) = 0 := by omega
      subst hLe
      clear h hb hd hz hnv w0 w1
      generalize T[p].n = m at *
      go_enter Tryz.func186, Tryz.ntmps186
      go_wp2_with fail
      go_quiet ((go_at_call 152; refine Calls.quiet_of (unhide HK _)))
      have H1 := hide ((unhide H0).drewN nq)
      have HB1 := hide ((but_refl rb w).drewN nq)
      generalize w.drewN nq = W1 at *
      go_wp2_with fail
      refine (unhide HNM W1 (unhide H1)).mono ?_
      rintro e w2 ⟨rfl, h2, hb2⟩
      have H2 := hide (And.intro h2 ((unhide HB1).trans hb2))
      clear h2 hb2
      go_wp2
      go_ret
      exact ⟨rfl, unhide H2⟩
/-! ### rows of numbers -/
abbrev I64 : TypeId := 2
abbrev IST : TypeId := 58
theorem infoI : (Tryz.prog.info? I64).map (fun i => (i.zero, i.size, i.bytes)) = some (some (.int .i64 0), 1, 8) := by kernel_rfl
def ints (l : List Nat) : List Value := l.map fun (n : Nat) => .int .i64 (n : Int)
def OwnN (base : Nat) (w : World) (v : Value) (l : List Nat) : Prop := w.ownsRow base I64 1 v l.length (ints l)
theorem OwnN.below {base : Nat} {w w' : World} {v : Value} {l : List Nat} (h : OwnN base w v l) (hb : Below w.heap.size w w') : OwnN base w' v l := ownsRow_below h hb
theorem OwnN.shape {base : Nat} {w : World} {v : Value} {l : List Nat} (h : OwnN base w v l) : ∃ a cap, v = .slice a l.length cap := by
  rcases h.2 with ⟨rfl, h5⟩ | ⟨g, cap, cur, rfl, _⟩
  · exact ⟨none, 0, by rw [h5]⟩
  · exact ⟨_, _, rfl⟩
theorem OwnN.but {base rb : Nat} {w w' : World} {v : Value} {l : List Nat} (h : OwnN base w v l) (hb : But rb w w') (hr : rb < base) : OwnN base w' v l := by
  obtain ⟨h1, h2⟩ := h
  refine ⟨h1, ?_⟩
  rcases h2 with h2 | ⟨g, cap, cur, hv, hg, hh, r⟩
  · exact .inl h2
  · refine .inr ⟨g, cap, cur, hv, hg, ?_, r⟩
    rw [hb.block g (by
      rcases Nat.lt_or_ge g w.heap.size with h | h
      · exact h
      · rw [Array.getElem?_eq_none h] at hh; cases hh) (fun e => by injection e with e; omega)]
    exact hh
theorem OwnN.nil (base : Nat) (w : World) : OwnN base w (.slice none 0 0) [] := World.ownsRow_nil _ _ _ _
theorem OwnN.one (base : Nat) (w : World) (n : Nat) (hb : base ≤ w.heap.size) : OwnN base (w.alloc (.cells #[.int .i64 n] I64)) (.slice (some ⟨w.heap.size, 0, none⟩) 1 1) [n] := World.ownsRow_lit (e := I64) (size := 1) (base := base) w #[.int .i64 n] 1 hb (by decide) rfl
theorem append_n {base rb : Nat} {w : World} {v : Value} {l : List Nat} {n : Nat} (hs : OwnN base w v l) (hb : base ≤ w.heap.size) (hl : l.length + 1 ≤ 1000000) :
    ∃ v' w', (Builtin.append_ #[IST, IST] IST #[v, .slice (some ⟨w.heap.size, 0, none⟩) 1 1]).run Tryz.prog (w.alloc (.cells #[.int .i64 n] I64)) = .ok v' w' ∧ OwnN base w' v' (l ++ [n]) ∧ Below base w w' ∧ (∀ q, v.ownBlock = some q → But q w w') := by
  obtain ⟨i0, hi, hz0, hz1, hz2⟩ := info_parts infoI
  obtain ⟨v', w', hr, ho, hgr, _, hat⟩ := run_append_own_at (P := Tryz.prog) (w.alloc (.cells #[.int .i64 n] I64)) base IST IST I64 i0 _ 1 8 Tryz.underlying58 hi hz0 hz1 hz2 rfl (by decide) v l.length (ints l) (World.ownsRow.alloc hs _) ⟨w.heap.size, 0, none⟩ 1 1 [.int .i64 n] rfl
    (World.news_of_block (cs := #[.int .i64 n]) (t := I64) (fr := (0, 0)) (by show (w.heap.push _)[w.heap.size]? = _; exact Array.getElem?_push_size))
    (by
      intro u hu
      obtain rfl := List.mem_singleton.1 hu
      rfl) (by unfold maxLen; omega) (by omega) (by simp; omega)
  refine ⟨v', w', hr, ?_, ((Below.refl _ _).alloc hb _).grown hgr (by simp; omega) (fun j hj => (World.ownsRow.lt hs j hj).1), fun q hq => ?_⟩
  rotate_left
  · rw [hq] at hgr
    exact (but_below (alloc_below w _)).trans hgr
  unfold OwnN
  have : ints (l ++ [n]) = ints l ++ [.int .i64 n] := by simp [ints]
  rw [this, List.length_append]
  exact ho
theorem OwnN.head {base : Nat} {w : World} {v : Value} {l : List Nat} (h : OwnN base w v l) (hl : 1 ≤ l.length) : ∃ q k, v.ownBlock = some q ∧ base ≤ q ∧ w.cell? ⟨q, 0, none⟩ = some (.int .i64 k) := by
  have h' := h
  rcases h'.2 with ⟨_, h5⟩ | ⟨g, cap, cur, rfl, hg, hh, hc, hm, hcs, ht⟩
  · omega
  · have hat : (ints l)[0]? = some (.int .i64 (l[0]'(by omega) : Int)) := by simp [ints, List.getElem?_eq_getElem (show 0 < l.length by omega)]
    exact ⟨g, _, rfl, hg, (World.ownsRow.cellAt h 0 (by show 0 < l.length * 1; omega)).trans hat⟩
/-- the numbers behind the first, as they are read -/
def moreR (T : List Words.T) : Nat → List Nat → Nat → SE → List Nat × Nat × SE
  | 0, l, p, er => (l, p, er)
  | f + 1, l, p, er => if isNext T p er [44] then (if l.length = 4 then ([], p, failE er p 4) else moreR T f (l ++ [(dimR T (p + 1) er).1]) (dimR T (p + 1) er).2.1 (dimR T (p + 1) er).2.2) else (l, nextP (isNext T p er [41]) p, mustE (isNext T p er [41]) er p)
def dimsR (T : List Words.T) (p : Nat) (er : SE) : List Nat × Nat × SE :=
  if isNext T p er [40] then moreR T 5 [(dimR T (p + 1) er).1] (dimR T (p + 1) er).2.1 (dimR T (p + 1) er).2.2 else ([], p, er)
theorem seesT (T : List Words.T) (L : Value) (rb : Nat) (w : World) (p : Nat) (er : SE) (c : List UInt8) (b : Bool) (h : SR T L rb w p er) (hc : isNext T p er c = b) : Calls Tryz.prog 185 #[.pointer (some ⟨rb, 0, none⟩), .string ⟨c.toArray⟩] w fun e w' => e = .returned (.bool b) ∧ ∃ n, w' = w.drewN n := by
  have := sees_any T L rb w p er c h
  rw [hc] at this
  exact this
structure MidD (T : List Words.T) (L : Value) (rb : Nat) (w wr : World) (R : List Nat × Nat × SE) (v : Value) (l : List Nat) (p : Nat) (er : SE) (k : Nat) : Prop where
  own : OwnN w.heap.size wr v l
  rd : SR T L rb wr p er
  old : But rb w wr
  run : moreR T k l p er = R
  len : l.length + k = 6
  lo : 1 ≤ l.length
  l4 : l.length ≤ 4
theorem wpList_append_runG (t : TypeId) {ops : Array Oper} {rest : List Oper} {o : Oper} {a : Act} {w : World} {Q : Exit → Act → World → Prop} (hgd : o.guard = none) (s x : Operand)
    (ho : o.op = .call { callee := .builtin .append, args := #[s, x], argTypes := #[t, t] }) (hty : o.type = t) (sv xv : Value) (hs : a.eval s = sv) (hx : a.eval x = xv) (v' : Value) (w' : World)
    (hr : (Builtin.append_ #[t, t] t #[sv, xv]).run Tryz.prog w = .ok v' w') (h : wpList Tryz.prog ops Q rest (a.put o.dst v') w') : wpList Tryz.prog ops Q (o :: rest) a w := by
  refine wpList_plain hgd fun K hK => ?_
  unfold Oper.wp execOp
  simp only [ho, hty, resolve, invoke, builtin, Sem.run_bind, Sem.run_pure, Result.andThen_ok, List.map_toArray, List.map_cons, List.map_nil, hs, hx, hr]
  exact hK _ _ h
set_option maxHeartbeats 8000000 in
set_option maxRecDepth 100000 in
theorem dims_any (T : List Words.T) (L : Value) (rb : Nat) (w : World) (p : Nat) (er : SE) (h : SR T L rb w p er) (hN : NumOk T) : Calls Tryz.prog 151 #[.pointer (some ⟨rb, 0, none⟩)] w fun e w' => ∃ v, e = .returned v ∧ OwnN w.heap.size w' v (dimsR T p er).1 ∧ SR T L rb w' (dimsR T p er).2.1 (dimsR T p er).2.2 ∧ But rb w w' := by
  cases hb : isNext T p er [40] with
  | false =>
    have hd : dimsR T p er = ([], p, er) := by unfold dimsR; rw [hb]; rfl
    rw [hd]
    have HS := hide (takesF T L rb w p er [40] h hb)
    clear h hb hd
    go_enter Tryz.func151, Tryz.ntmps151
    go_wp2_with fail
    refine (unhide HS).mono ?_
    rintro e w1 ⟨rfl, h1, hb1⟩
    have H1 := hide (And.intro h1 hb1)
    clear h1 hb1
    go_wp2
    go_ret
    exact ⟨_, rfl, OwnN.nil _ _, unhide H1⟩
  | true =>
    have hd : dimsR T p er = moreR T 5 [(dimR T (p + 1) er).1] (dimR T (p + 1) er).2.1 (dimR T (p + 1) er).2.2 := by unfold dimsR; rw [hb]; rfl
    rw [hd]
    have HS := hide (takesT T L rb w p er [40] h hb)
    have hl := h.lt
    have HLW := hide h.lw
    have HD : Hid (∀ W, SR T L rb W (p + 1) er → _) := hide (fun W hW => dim_any T L rb W (p + 1) er hW hN)
    obtain ⟨R, hR⟩ : ∃ R, moreR T 5 [(dimR T (p + 1) er).1] (dimR T (p + 1) er).2.1 (dimR T (p + 1) er).2.2 = R := ⟨_, rfl⟩
    rw [hR]
    have HR := hide hR
    generalize dimR T (p + 1) er = D at *
    clear h hb hd hR
    have HNN := hide hN
    clear hN
    go_enter Tryz.func151, Tryz.ntmps151
    go_wp2_with fail
    refine (unhide HS).mono ?_
    rintro e w1 ⟨rfl, h1, hb1⟩
    have H1 := hide (And.intro h1 hb1)
    clear h1 hb1
    go_wp2_with fail
    refine (unhide HD w1 (unhide H1).1).mono ?_
    rintro e w2 ⟨rfl, h2, hb2⟩
    have ba := alloc_below w2 (.cells #[.int .i64 D.1] I64)
    have hs2 := (unhide H1).2.size
    have hs3 := hb2.size
    have HM : Hid (MidD T L rb w (w2.alloc (.cells #[.int .i64 D.1] I64)) R (.slice (some ⟨w2.heap.size, 0, none⟩) 1 1) [D.1] D.2.1 D.2.2 5) := hide ⟨OwnN.one _ _ _ (by omega), h2.below ba, ((unhide H1).2.trans hb2).trans (but_below ba), unhide HR, rfl, Nat.le_refl _, by simp⟩
    clear h2 hb2 ba hs2 hs3
    go_wp2_with fail
    generalize (w2.alloc (.cells #[.int .i64 D.1] I64)) = W2 at *
    generalize [D.1] = l0 at *
    generalize D.2.1 = p0 at *
    generalize D.2.2 = er0 at *
    clear HS HD H1 HR
    go_loopg [3] 5 (fun k s3 wr => ∃ l q eq, Hid (MidD T L rb w wr R s3 l q eq k))
    case atStart => exact ⟨l0, p0, er0, HM⟩
    case round =>
      obtain ⟨l, q, eq, HMM⟩ := hrel
      obtain ⟨va, vc, hv⟩ := (unhide HMM).own.shape
      generalize hln : l.length = ln at hv
      subst hv
      have HLN := hide hln
      have hlo : 1 ≤ ln := by rw [← hln]; exact (unhide HMM).lo
      have hlk : ln + gk = 6 := by rw [← hln]; exact (unhide HMM).len
      have hl4 : ln ≤ 4 := by rw [← hln]; exact (unhide HMM).l4
      have HK4 : Hid (2 ≤ gk) := hide (by omega)
      clear hln
      cases hb : isNext T q eq [44] with
      | false =>
        have HSE := hide (seesT T L rb wr q eq [44] false (unhide HMM).rd hb)
        have HRUN : Hid (R = (l, nextP (isNext T q eq [41]) q, mustE (isNext T q eq [41]) eq q)) := hide (by
          have h1 := (unhide HMM).run
          obtain ⟨k', hk'⟩ : ∃ k', gk = k' + 1 := ⟨gk - 1, by have := unhide HK4; omega⟩
          rw [hk'] at h1
          rw [← h1]
          show (if _ then _ else _) = _
          rw [hb]
          rfl)
        clear hb
        go_wp2_with fail
        refine (unhide HSE).mono ?_
        rintro e w3 ⟨rfl, n, rfl⟩
        have H3 := hide (And.intro ((unhide HMM).rd.drewN n) (And.intro ((unhide HMM).old.drewN n) ((unhide HMM).own.below (below_drewN (Below.refl _ _) n))))
        generalize wr.drewN n = W3 at *
        go_wp2_with fail
        refine (must_any T L rb W3 q eq [41] (unhide H3).1).mono ?_
        rintro e w4 ⟨rfl, h4, hb4⟩
        have H4 := hide (And.intro h4 (And.intro ((unhide H3).2.1.trans hb4) ((unhide H3).2.2.but hb4 hl)))
        clear h4 hb4
        go_wp2
        go_ret
        rw [unhide HRUN]
        exact ⟨_, rfl, (unhide H4).2.2, (unhide H4).1, (unhide H4).2.1⟩
      | true =>
        have hok := isNext_ok hb
        subst hok
        have hlt := isNext_lt hb
        have hT := (unhide HMM).rd.ht
        have HSE := hide (seesT T L rb wr q .ok [44] true (unhide HMM).rd hb)
        obtain ⟨k', hk'⟩ : ∃ k', gk = k' + 1 := ⟨gk - 1, by omega⟩
        have HRUN : Hid (R = if l.length = 4 then ([], q, failE .ok q 4) else moreR T k' (l ++ [(dimR T (q + 1) .ok).1]) (dimR T (q + 1) .ok).2.1 (dimR T (q + 1) .ok).2.2) := hide (by
          have h1 := (unhide HMM).run
          rw [hk'] at h1
          rw [← h1]
          show (if _ then _ else _) = _
          rw [hb, if_pos rfl])
        clear hb
        by_cases h44 : ln = 4
        · have h44i : (ln : Int) = 4 := by omega
          have h44b : ((ln : Int) == 4) = true := by rw [beq_iff_eq]; exact h44i
          have hR2 : R = ([], q, failE .ok q 4) := by rw [unhide HRUN, unhide HLN, if_pos h44]
          have HR2 := hide hR2
          clear hR2 HRUN
          go_wp2_with fail
          refine (unhide HSE).mono ?_
          rintro e w3 ⟨rfl, n, rfl⟩
          have H3 := hide (And.intro ((unhide HMM).rd.drewN n) ((unhide HMM).old.drewN n))
          generalize wr.drewN n = W3 at *
          go_wp2_with fail
          refine (fail_any T L rb W3 q .ok 4 (unhide H3).1).mono ?_
          rintro e w4 ⟨rfl, h4, hb4⟩
          have H4 := hide (And.intro h4 ((unhide H3).2.trans hb4))
          clear h4 hb4
          go_wp2
          go_ret
          rw [unhide HR2]
          exact ⟨_, rfl, OwnN.nil _ _, unhide H4⟩
        · have h44i : ¬ (ln : Int) = 4 := by omega
          have h44b : ((ln : Int) == 4) = false := by rw [beq_eq_false_iff_ne]; exact h44i
          have hR2 : moreR T k' (l ++ [(dimR T (q + 1) .ok).1]) (dimR T (q + 1) .ok).2.1 (dimR T (q + 1) .ok).2.2 = R := by rw [unhide HRUN, unhide HLN, if_neg h44]
          have HR2 := hide hR2
          clear hR2 HRUN
          have HD : Hid (∀ W, SR T L rb W (q + 1) .ok → _) := hide (fun W hW => dim_any T L rb W (q + 1) .ok hW (unhide HNN))
          generalize dimR T (q + 1) .ok = D2 at *
          go_wp2_with fail
          refine (unhide HSE).mono ?_
          rintro e w3 ⟨rfl, n, rfl⟩
          have H3 := hide (And.intro ((unhide HMM).rd.drewN n) (And.intro ((unhide HMM).old.drewN n) ((unhide HMM).own.below (below_drewN (Below.refl _ _) n))))
          generalize wr.drewN n = W3 at *
          have c1 := (unhide H3).1.c1
          have f1 := (unhide H3).1.f1
          have hs4 := set_but rb W3 1 (.int .i64 ((q + 1 : Nat) : Int))
          have H4 := hide (And.intro ((unhide H3).1.at1 (p' := q + 1) hlt) (And.intro ((unhide H3).2.1.trans hs4) ((unhide H3).2.2.but hs4 hl)))
          have e1 : ((q + 1 : Nat) : Int) = (q : Int) + 1 := by omega
          rw [e1] at H4
          clear hs4 e1
          go_wp2_with fail
          generalize W3.setCell ⟨rb, 1, none⟩ (.int .i64 ((q : Int) + 1)) = W4 at *
          clear c1 f1
          refine (unhide HD W4 (unhide H4).1).mono ?_
          rintro e w5 ⟨rfl, h5, hb5⟩
          have ho5 := (unhide H4).2.2.but hb5 hl
          have hs5 := ((unhide H4).2.1.trans hb5).size
          obtain ⟨v9, w9, hr9, ho9, hb9, hq9⟩ := append_n (rb := rb) (n := D2.1) ho5 hs5 (by rw [unhide HLN]; omega)
          obtain ⟨g5, n5, hgo, hgb, hgc⟩ := ho5.head (by rw [unhide HLN]; omega)
          have hsr9 := h5.otherI (hq9 g5 hgo) (show rb ≠ g5 by omega) (fun e => by have := unhide HLW _ e; omega) hgc
          have hold9 : But rb w w9 := by
            have k1 := (unhide H4).2.1.trans hb5
            exact ⟨hb9.os.trans k1.os, hb9.tape.trans k1.tape, hb9.output.trans k1.output, Nat.le_trans k1.size hb9.size, fun i hi hne => (hb9.block i hi).trans (k1.block i hi hne)⟩
          have H9 : Hid (MidD T L rb w w9 R v9 (l ++ [D2.1]) D2.2.1 D2.2.2 k') := hide ⟨ho9, hsr9, hold9, unhide HR2, by rw [List.length_append, unhide HLN]; simp; omega, by rw [List.length_append]; simp, by rw [List.length_append, unhide HLN]; simp; omega⟩
          obtain ⟨a9, c9, hv9⟩ := ho9.shape
          generalize hn9 : (l ++ [D2.1]).length = n9 at hv9
          subst hv9
          clear h5 hb5 ho5 ho9 hb9 hq9 hgo hgb hgc hsr9 hold9 hs5 hn9
          go_wp2_with (at_builtin; refine wpList_append_runG IST rfl _ _ rfl rfl _ _ rfl rfl _ _ hr9 ?_)
          go_roundg k'
          case measure => omega
          case rel => exact ⟨_, _, _, H9⟩
end Go.Proofs.YthkbchefjagbbaaGreatDoor.Line

namespace Go.Proofs.YthkbchefjagbbaaGreatDoor.Line
open Go.ChangeShapes Go.WideShapes Go.ChangeAt Go.RowKit
open Ex (E St)
set_option linter.unusedVariables false

abbrev ITT : TypeId := 132
abbrev ITS : TypeId := 63
abbrev Itm : Type := List UInt8 × List Nat × Value
theorem infoM : (Tryz.prog.info? ITT).map (fun i => (i.zero, i.size, i.bytes)) = some (some (.agg #[.string ⟨#[]⟩, .slice none 0 0]), 2, 40) := by kernel_rfl
def itC (p : Itm) : List Value := [.string ⟨p.1.toArray⟩, p.2.2]
def flatM (l : List Itm) : List Value := l.flatMap itC
theorem flatM_length (l : List Itm) : (flatM l).length = l.length * 2 := by
  induction l with
  | nil => rfl
  | cons t l ih => show (itC t ++ flatM l).length = _; rw [List.length_append, ih, List.length_cons]; show 2 + l.length * 2 = _; omega
theorem flatM_append (l m : List Itm) : flatM (l ++ m) = flatM l ++ flatM m := by simp [flatM]
def OwnM (base : Nat) (w : World) (v : Value) (l : List Itm) : Prop := w.ownsRow base ITT 2 v l.length (flatM l)
theorem OwnM.shape {base : Nat} {w : World} {v : Value} {l : List Itm} (h : OwnM base w v l) : ∃ a cap, v = .slice a l.length cap := by
  rcases h.2 with ⟨rfl, h5⟩ | ⟨g, cap, cur, rfl, _⟩
  · exact ⟨none, 0, by rw [h5]⟩
  · exact ⟨_, _, rfl⟩
theorem row_but {base rb n size : Nat} {e : TypeId} {xs : List Value} {w w' : World} {v : Value} (h : w.ownsRow base e size v n xs) (hb : But rb w w') (hr : rb < base) : w'.ownsRow base e size v n xs := by
  obtain ⟨h1, h2⟩ := h
  refine ⟨h1, ?_⟩
  rcases h2 with h2 | ⟨g, cap, cur, hv, hg, hh, r⟩
  · exact .inl h2
  · refine .inr ⟨g, cap, cur, hv, hg, ?_, r⟩
    rw [hb.block g (by
      rcases Nat.lt_or_ge g w.heap.size with h | h
      · exact h
      · rw [Array.getElem?_eq_none h] at hh; cases hh) (fun e => by injection e with e; omega)]
    exact hh
theorem OwnN.mono {base base' : Nat} {w : World} {v : Value} {l : List Nat} (h : OwnN base' w v l) (hb : base ≤ base') : OwnN base w v l := by
  obtain ⟨h1, h2⟩ := h
  refine ⟨h1, ?_⟩
  rcases h2 with h2 | ⟨g, cap, cur, hv, hg, r⟩
  · exact .inl h2
  · exact .inr ⟨g, cap, cur, hv, Nat.le_trans hb hg, r⟩
/-- a row of numbers is kept by what writes another row, of another type -/
theorem OwnN.apart {base base' n size q : Nat} {e : TypeId} {xs : List Value} {w w' : World} {u v : Value} {l : List Nat} (h : OwnN base w v l) (hu : w.ownsRow base' e size u n xs) (hq : u.ownBlock = some q) (he : e ≠ I64) (hb : But q w w') : OwnN base w' v l := by
  obtain ⟨h1, h2⟩ := h
  refine ⟨h1, ?_⟩
  rcases h2 with h2 | ⟨g, cap, cur, hv, hg, hh, r⟩
  · exact .inl h2
  · refine .inr ⟨g, cap, cur, hv, hg, ?_, r⟩
    have hgl : g < w.heap.size := by
      rcases Nat.lt_or_ge g w.heap.size with h | h
      · exact h
      · rw [Array.getElem?_eq_none h] at hh; cases hh
    rw [hb.block g hgl (fun e2 => by
      injection e2 with e2
      subst e2
      rcases hu.2 with ⟨rfl, _⟩ | ⟨g2, cap2, cur2, rfl, _, hh2, _⟩
      · simp [Value.ownBlock] at hq
      · have e3 : g2 = g := by simpa [Value.ownBlock] using hq
        subst e3
        rw [hh] at hh2
        injection hh2 with hh3
        injection hh3 with _ hh4 _
        exact he hh4.symm)]
    exact hh
theorem append_m {base : Nat} {w : World} {v : Value} {l : List Itm} {t : Itm} {da : Option Addr} {dn dc : Nat} (hd : t.2.2 = .slice da dn dc) (hs : OwnM base w v l) (hb : base ≤ w.heap.size) (hl : l.length + 1 ≤ 1000000) :
    ∃ v' w', (Builtin.append_ #[ITS, ITS] ITS #[v, .slice (some ⟨w.heap.size, 0, none⟩) 1 1]).run Tryz.prog (w.alloc (.cells #[.string ⟨t.1.toArray⟩, t.2.2] ITT)) = .ok v' w' ∧ OwnM base w' v' (l ++ [t]) ∧ Below base w w' ∧ (∀ q, v.ownBlock = some q → But q w w') ∧ (v.ownBlock = none → Below w.heap.size w w') := by
  obtain ⟨i0, hi, hz0, hz1, hz2⟩ := info_parts infoM
  obtain ⟨v', w', hr, ho, hgr, _, hat⟩ := run_append_own_at (P := Tryz.prog) (w.alloc (.cells #[.string ⟨t.1.toArray⟩, t.2.2] ITT)) base ITS ITS ITT i0 _ 2 40 Tryz.underlying63 hi hz0 hz1 hz2 rfl (by decide) v l.length (flatM l) (World.ownsRow.alloc hs _) ⟨w.heap.size, 0, none⟩ 1 1 (itC t) rfl
    (World.news_of_block (cs := #[.string ⟨t.1.toArray⟩, t.2.2]) (t := ITT) (fr := (0, 0)) (by show (w.heap.push _)[w.heap.size]? = _; exact Array.getElem?_push_size))
    (by
      intro u hu
      simp only [itC, List.mem_cons, List.not_mem_nil, or_false] at hu
      rcases hu with rfl | rfl
      · rfl
      · rw [hd]; rfl) (by unfold maxLen; omega) (by omega) (by simp; omega)
  refine ⟨v', w', hr, ?_, ((Below.refl _ _).alloc hb _).grown hgr (by simp; omega) (fun j hj => (World.ownsRow.lt hs j hj).1), fun q hq => ?_, fun hq => ?_⟩
  · unfold OwnM
    rw [flatM_append, List.length_append]
    exact ho
  · rw [hq] at hgr
    exact (but_below (alloc_below w _)).trans hgr
  · rw [hq] at hgr
    have h2 : Below (w.alloc (.cells #[.string ⟨t.1.toArray⟩, t.2.2] ITT)).heap.size (w.alloc (.cells #[.string ⟨t.1.toArray⟩, t.2.2] ITT)) w' := ⟨hgr.os, hgr.tape, hgr.output, hgr.size, fun k hk => hgr.block k hk (by simp)⟩
    exact bthen (alloc_below w _) h2
def itemsR (T : List Words.T) : Nat → List (List UInt8 × List Nat) → Nat → SE → List (List UInt8 × List Nat) × Nat × SE
  | 0, acc, p, er => (acc, p, er)
  | f + 1, acc, p, er =>
    if isNext T (dimsR T (nextP (isKind T p er 1) p) (mustE (isKind T p er 1) er p)).2.1 (dimsR T (nextP (isKind T p er 1) p) (mustE (isKind T p er 1) er p)).2.2 [44] then
      itemsR T f (acc ++ [(nameAt T p (isKind T p er 1), (dimsR T (nextP (isKind T p er 1) p) (mustE (isKind T p er 1) er p)).1)]) ((dimsR T (nextP (isKind T p er 1) p) (mustE (isKind T p er 1) er p)).2.1 + 1) (dimsR T (nextP (isKind T p er 1) p) (mustE (isKind T p er 1) er p)).2.2
    else (acc ++ [(nameAt T p (isKind T p er 1), (dimsR T (nextP (isKind T p er 1) p) (mustE (isKind T p er 1) er p)).1)], (dimsR T (nextP (isKind T p er 1) p) (mustE (isKind T p er 1) er p)).2.1, (dimsR T (nextP (isKind T p er 1) p) (mustE (isKind T p er 1) er p)).2.2)
theorem nextP_ge (b : Bool) (p : Nat) : p ≤ nextP b p := by cases b <;> simp [nextP]
theorem dimR_ge (T : List Words.T) (p : Nat) (er : SE) : p ≤ (dimR T p er).2.1 := by
  unfold dimR
  split
  · split
    · exact Nat.le_refl _
    · exact Nat.le_succ _
  · exact Nat.le_refl _
theorem moreR_ge (T : List Words.T) : ∀ (f : Nat) (l : List Nat) (p : Nat) (er : SE), p ≤ (moreR T f l p er).2.1 := by
  intro f
  induction f with
  | zero => intro l p er; exact Nat.le_refl _
  | succ f ih =>
    intro l p er
    show p ≤ (if _ then _ else _ : List Nat × Nat × SE).2.1
    split
    · split
      · exact Nat.le_refl _
      · have h1 := dimR_ge T (p + 1) er
        have h2 := ih (l ++ [(dimR T (p + 1) er).1]) (dimR T (p + 1) er).2.1 (dimR T (p + 1) er).2.2
        omega
    · exact nextP_ge _ _
theorem dimsR_ge (T : List Words.T) (p : Nat) (er : SE) : p ≤ (dimsR T p er).2.1 := by
  unfold dimsR
  split
  · have h1 := dimR_ge T (p + 1) er
    have h2 := moreR_ge T 5 [(dimR T (p + 1) er).1] (dimR T (p + 1) er).2.1 (dimR T (p + 1) er).2.2
    omega
  · exact Nat.le_refl _
theorem Se.otherS {B q : Nat} {w w' : World} {g : Value} {er : SE} {a : Option Addr} {n c : Nat} (h : Se B w g er) (hb : But q w w') (hq : w.cell? ⟨q, 1, none⟩ = some (.slice a n c)) : Se B w' g er := by
  have hne : ∀ {b : Nat} {k : Nat}, w.cell? ⟨b, 1, none⟩ = some (.int .i64 k) → b ≠ q := fun {b k} h e => by subst e; rw [hq] at h; cases h
  cases er with
  | ok => exact h
  | leaf p e =>
    obtain ⟨b, hB, hg, hl⟩ := h
    exact ⟨b, hB, hg, hl.keep (hb.block b hl.lt (fun e => hne hl.2.1 (by injection e)))⟩
  | sub p k e =>
    obtain ⟨b, b2, hB, hb2, hg, ⟨h0, h1, h2⟩, hl⟩ := h
    have hc : ∀ o, w'.cell? ⟨b, o, none⟩ = w.cell? ⟨b, o, none⟩ := fun o => hb.cell (p := ⟨b, o, none⟩) (cell_lt h0) (hne h1)
    exact ⟨b, b2, hB, hb2, hg, ⟨(hc 0).trans h0, (hc 1).trans h1, (hc 2).trans h2⟩, hl.keep (hb.block b2 hl.lt (fun e => hne hl.2.1 (by injection e)))⟩
theorem SR.otherS {T : List Words.T} {L : Value} {rb q : Nat} {w w' : World} {p : Nat} {er : SE} {a : Option Addr} {n c : Nat} (h : SR T L rb w p er) (hb : But q w w') (hne : rb ≠ q) (hL : L.ownBlock ≠ some q) (hq : w.cell? ⟨q, 1, none⟩ = some (.slice a n c)) : SR T L rb w' p er := by
  have hk := hb.block rb h.lt (fun e => hne (by injection e))
  have hc : ∀ o, w'.cell? ⟨rb, o, none⟩ = w.cell? ⟨rb, o, none⟩ := fun o => World.cell?_of_block (a := ⟨rb, o, none⟩) hk
  have hf : ∀ o, w'.frozen? ⟨rb, o, none⟩ = w.frozen? ⟨rb, o, none⟩ := fun o => World.frozen?_of_block (a := ⟨rb, o, none⟩) hk
  obtain ⟨g, hg, hs⟩ := h.ce
  exact ⟨(hc 0).trans h.c0, (hc 1).trans h.c1, ⟨g, (hc 2).trans hg, hs.otherS hb hq⟩, (hf 1).trans h.f1, (hf 2).trans h.f2, Nat.lt_of_lt_of_le h.lt hb.size, h.tks.but hb hL, h.own, fun q hq => Nat.lt_of_lt_of_le (h.lw q hq) hb.size, h.hp, h.ht⟩
def plainI (m : List Itm) : List (List UInt8 × List Nat) := m.map fun x => (x.1, x.2.1)
structure ItemsAt (base : Nat) (w : World) (v : Value) (m : List Itm) : Prop where
  own : OwnM base w v m
  dims : ∀ x ∈ m, OwnN base w x.2.2 x.2.1
theorem ItemsAt.cell1 {base g : Nat} {w : World} {v : Value} {m : List Itm} (h : ItemsAt base w v m) (hm : m ≠ []) (hg : v.ownBlock = some g) : ∃ a n c, w.cell? ⟨g, 1, none⟩ = some (.slice a n c) := by
  cases m with
  | nil => exact absurd rfl hm
  | cons x r =>
    obtain ⟨a, c, hx⟩ := (h.dims x (List.mem_cons_self ..)).shape
    have ho := h.own
    unfold OwnM at ho
    rcases ho.2 with ⟨_, h5⟩ | ⟨g2, cap, cur, rfl, hg2, hh, hc, hm2, hcs, ht⟩
    · simp at h5
    · have e3 : g2 = g := by simpa [Value.ownBlock] using hg
      subst e3
      refine ⟨a, x.2.1.length, c, (World.ownsRow.cellAt ho 1 (by rw [List.length_cons]; omega)).trans ?_⟩
      show (itC x ++ flatM r)[1]? = _
      rw [← hx]
      rfl
theorem ItemsAt.but {base rb : Nat} {w w' : World} {v : Value} {m : List Itm} (h : ItemsAt base w v m) (hb : But rb w w') (hr : rb < base) : ItemsAt base w' v m := ⟨row_but h.own hb hr, fun x hx => (h.dims x hx).but hb hr⟩
structure MidI (T : List Words.T) (L : Value) (rb : Nat) (w wr : World) (R : List (List UInt8 × List Nat) × Nat × SE) (v : Value) (m : List Itm) (p : Nat) (er : SE) (k : Nat) : Prop where
  its : ItemsAt w.heap.size wr v m
  rd : SR T L rb wr p er
  old : But rb w wr
  run : itemsR T k (plainI m) p er = R
  fuel : T.length + 1 ≤ p + k
  few : m.length ≤ p
  ne : m = [] → v = .slice none 0 0
set_option maxHeartbeats 8000000 in
set_option maxRecDepth 100000 in
theorem items_any (T : List Words.T) (L : Value) (rb : Nat) (w : World) (p : Nat) (er : SE) (h : SR T L rb w p er) (hN : NumOk T) : Calls Tryz.prog 99 #[.pointer (some ⟨rb, 0, none⟩)] w fun e w' => ∃ v m, e = .returned v ∧ ItemsAt w.heap.size w' v m ∧ plainI m = (itemsR T (T.length + 1) [] p er).1 ∧ SR T L rb w' (itemsR T (T.length + 1) [] p er).2.1 (itemsR T (T.length + 1) [] p er).2.2 ∧ But rb w w' := by
  obtain ⟨R, hR⟩ : ∃ R, itemsR T (T.length + 1) [] p er = R := ⟨_, rfl⟩
  rw [hR]
  have HM : Hid (MidI T L rb w w R (.slice none 0 0) [] p er (T.length + 1)) := hide ⟨⟨World.ownsRow_nil _ _ _ _, fun x hx => by simp at hx⟩, h, but_refl rb w, hR, by omega, Nat.zero_le _, fun _ => rfl⟩
  have hl := h.lt
  have HLW := hide h.lw
  have HNN := hide hN
  clear h hN hR
  go_enter Tryz.func99, Tryz.ntmps99
  go_wp2_with fail
  go_loopg [3] (T.length + 1) (fun k s3 wr => ∃ m q eq, Hid (MidI T L rb w wr R s3 m q eq k))
  case atStart => exact ⟨[], p, er, HM⟩
  case round =>
    obtain ⟨m, q, eq, HMM⟩ := hrel
    obtain ⟨va, vc, hv⟩ := (unhide HMM).its.own.shape
    generalize hln : m.length = ln at hv
    subst hv
    have HLN := hide hln
    have hT := (unhide HMM).rd.ht
    have hqT := (unhide HMM).rd.hp
    have hfew : ln ≤ q := by rw [← hln]; exact (unhide HMM).few
    obtain ⟨k', hk'⟩ : ∃ k', gk = k' + 1 := ⟨gk - 1, by have := (unhide HMM).fuel; omega⟩
    have hrun := (unhide HMM).run
    rw [hk'] at hrun
    have hdg := dimsR_ge T (nextP (isKind T q eq 1) q) (mustE (isKind T q eq 1) eq q)
    have hng := nextP_ge (isKind T q eq 1) q
    have HNA := hide (name_any T L rb wr q eq (unhide HMM).rd)
    have HDI : Hid (∀ W, SR T L rb W (nextP (isKind T q eq 1) q) (mustE (isKind T q eq 1) eq q) → _) := hide (fun W hW => dims_any T L rb W _ _ hW (unhide HNN))
    have hr2 : (if isNext T (dimsR T (nextP (isKind T q eq 1) q) (mustE (isKind T q eq 1) eq q)).2.1 (dimsR T (nextP (isKind T q eq 1) q) (mustE (isKind T q eq 1) eq q)).2.2 [44] then itemsR T k' (plainI m ++ [(nameAt T q (isKind T q eq 1), (dimsR T (nextP (isKind T q eq 1) q) (mustE (isKind T q eq 1) eq q)).1)]) ((dimsR T (nextP (isKind T q eq 1) q) (mustE (isKind T q eq 1) eq q)).2.1 + 1) (dimsR T (nextP (isKind T q eq 1) q) (mustE (isKind T q eq 1) eq q)).2.2 else (plainI m ++ [(nameAt T q (isKind T q eq 1), (dimsR T (nextP (isKind T q eq 1) q) (mustE (isKind T q eq 1) eq q)).1)], (dimsR T (nextP (isKind T q eq 1) q) (mustE (isKind T q eq 1) eq q)).2.1, (dimsR T (nextP (isKind T q eq 1) q) (mustE (isKind T q eq 1) eq q)).2.2)) = R := hrun
    generalize nameAt T q (isKind T q eq 1) = nm at *
    generalize nextP (isKind T q eq 1) q = q1 at *
    generalize mustE (isKind T q eq 1) eq q = eq1 at *
    generalize dimsR T q1 eq1 = D at *
    obtain ⟨ds, q2, eq2⟩ := D
    simp only at hr2 hdg
    have HR2 := hide hr2
    clear hr2 hrun hln
    go_wp2_with fail
    refine (unhide HNA).mono ?_
    rintro e w3 ⟨rfl, h3, hb3⟩
    have H3 := hide (And.intro h3 (And.intro ((unhide HMM).old.trans hb3) ((unhide HMM).its.but hb3 hl)))
    clear h3 hb3
    go_wp2_with fail
    refine (unhide HDI w3 (unhide H3).1).mono ?_
    rintro e w5 ⟨dv, rfl, hd5, h5, hb5⟩
    obtain ⟨da, dc, hdv⟩ := hd5.shape
    generalize hdl : ds.length = dn at hdv
    subst hdv
    have ho5 := (unhide H3).2.1.trans hb5
    have hi5 := (unhide H3).2.2.but hb5 hl
    have hd6 := hd5.mono (unhide H3).2.1.size
    obtain ⟨v9, w9, hr9, ho9, hb9, hq9, hn9⟩ := append_m (t := (nm, ds, .slice da dn dc)) rfl hi5.own ho5.size (by rw [unhide HLN]; omega)
    have hmid : ItemsAt w.heap.size w9 v9 (m ++ [(nm, ds, .slice da dn dc)]) ∧ SR T L rb w9 q2 eq2 ∧ But rb w w9 := by
      have hold9 : But rb w w9 := ⟨hb9.os.trans ho5.os, hb9.tape.trans ho5.tape, hb9.output.trans ho5.output, Nat.le_trans ho5.size hb9.size, fun i hi hne => (hb9.block i hi).trans (ho5.block i hi hne)⟩
      cases hob : (Value.slice va ln vc).ownBlock with
      | none =>
        have hB := hn9 hob
        refine ⟨⟨ho9, fun x hx => ?_⟩, h5.below hB, hold9⟩
        rcases List.mem_append.1 hx with hx | hx
        · exact (hi5.dims x hx).below hB
        · obtain rfl := List.mem_singleton.1 hx
          exact hd6.below hB
      | some g =>
        have hB := hq9 g hob
        have hgb := World.ownsRow.lt hi5.own g hob
        have hwnt := hi5.own
        refine ⟨⟨ho9, fun x hx => ?_⟩, ?_, hold9⟩
        · rcases List.mem_append.1 hx with hx | hx
          · exact (hi5.dims x hx).apart hi5.own hob (by decide) hB
          · obtain rfl := List.mem_singleton.1 hx
            exact hd6.apart hi5.own hob (by decide) hB
        · have hmne : m ≠ [] := fun e => by rw [(unhide HMM).ne e] at hob; simp [Value.ownBlock] at hob
          obtain ⟨xa, xn, xc, hx1⟩ := hi5.cell1 hmne hob
          exact h5.otherS hB (by omega) (fun e => by have := unhide HLW _ e; omega) hx1
    have hp9 : plainI (m ++ [(nm, ds, .slice da dn dc)]) = plainI m ++ [(nm, ds)] := by simp [plainI]
    have HM9 := hide hmid
    have HP9 := hide hp9
    have hl9 : (m ++ [(nm, ds, Value.slice da dn dc)]).length = ln + 1 := by rw [List.length_append, unhide HLN]; rfl
    obtain ⟨a9, c9, hv9⟩ := ho9.shape
    rw [hl9] at hv9
    subst hv9
    have HL9 := hide hl9
    have hl9b : ln + 1 ≤ 100001 := by omega
    clear hmid hp9 h5 hb5 hd5 hd6 ho5 hi5 ho9 hb9 hq9 hn9 hdl hl9
    cases hb : isNext T q2 eq2 [44] with
    | false =>
      have hR3 : (plainI m ++ [(nm, ds)], q2, eq2) = R := by have := unhide HR2; rw [hb] at this; exact this
      have HR3 := hide hR3
      have HTK := hide (fun W hW => takesF T L rb W q2 eq2 [44] hW hb)
      clear hR3 hb
      go_wp2_with (at_builtin; refine wpList_append_runG ITS rfl _ _ rfl rfl _ _ rfl rfl _ _ hr9 ?_)
      refine (unhide HTK w9 (unhide HM9).2.1).mono ?_
      rintro e w10 ⟨rfl, h10, hb10⟩
      have H10 := hide (And.intro h10 (And.intro ((unhide HM9).2.2.trans hb10) ((unhide HM9).1.but hb10 hl)))
      clear h10 hb10
      go_wp2
      go_ret
      rw [← unhide HR3]
      exact ⟨_, _, rfl, (unhide H10).2.2, unhide HP9, (unhide H10).1, (unhide H10).2.1⟩
    | true =>
      have hlt := isNext_lt hb
      have hR3 : itemsR T k' (plainI m ++ [(nm, ds)]) (q2 + 1) eq2 = R := by have := unhide HR2; rw [hb] at this; exact this
      have HR3 := hide hR3
      have HTK := hide (fun W hW => takesT T L rb W q2 eq2 [44] hW hb)
      have hfu := (unhide HMM).fuel
      clear hR3 hb
      go_wp2_with (at_builtin; refine wpList_append_runG ITS rfl _ _ rfl rfl _ _ rfl rfl _ _ hr9 ?_)
      refine (unhide HTK w9 (unhide HM9).2.1).mono ?_
      rintro e w10 ⟨rfl, h10, hb10⟩
      have H10 : Hid (MidI T L rb w w10 R (.slice a9 (ln + 1) c9) (m ++ [(nm, ds, .slice da dn dc)]) (q2 + 1) eq2 k') := hide ⟨(unhide HM9).1.but hb10 hl, h10, (unhide HM9).2.2.trans hb10, by rw [unhide HP9]; exact unhide HR3, by omega, by rw [unhide HL9]; omega, fun e => by simp at e⟩
      clear h10 hb10
      go_wp2_with fail
      go_roundg k'
      case measure => omega
      case rel => exact ⟨_, _, _, H10⟩
end Go.Proofs.YthkbchefjagbbaaGreatDoor.Line
