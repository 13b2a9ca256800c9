/- The contract of the project's Line. -/
import Derived.Test.YtmdifoejacogpaaDoorTokD
import Derived.Test.YtmdifoejacogpaaDoorIndentB
import Derived.Test.YtmdifoejacogpaaDoorTokSpec
namespace Go.Proofs.YtmdifoejacogpaaDoor.Line
open Go.ChangeShapes Go.WideShapes Go.ChangeAt Go.RowKit
set_option linter.unusedVariables false

/-- one word more (the project's) -/
theorem append_tok {base : Nat} {w : World} {s : Value} {l : List Words.T} (hs : OwnT 36 base w s l) (t : Words.T) (hb : base ≤ w.heap.size) (hl : l.length + 1 ≤ 1000000) :
    ∃ v' w', (Builtin.append_ #[23, 23] 23 #[s, .slice (some ⟨w.heap.size, 0, none⟩) 1 1]).run Tryd.prog (w.alloc (.cells #[.int .i64 t.kind, .string ⟨t.text.toArray⟩, .int .i64 t.pos, .int .i64 t.n] 36)) = .ok v' w' ∧ OwnT 36 base w' v' (l ++ [t]) ∧ (w.alloc (.cells #[.int .i64 t.kind, .string ⟨t.text.toArray⟩, .int .i64 t.pos, .int .i64 t.n] 36)).grownBy w' s.ownBlock := by
  obtain ⟨i0, hi, hz0, hz1, hz2⟩ := info_parts infoTok
  obtain ⟨v', w', hr, ho, hgr, _⟩ := run_append_own (P := Tryd.prog) (w.alloc (.cells #[.int .i64 t.kind, .string ⟨t.text.toArray⟩, .int .i64 t.pos, .int .i64 t.n] 36)) base 23 23 36 i0 _ 4 40 Tryd.underlying23 hi hz0 hz1 hz2 rfl (by decide) s l.length (flatT l) (World.ownsRow.alloc hs _) ⟨w.heap.size, 0, none⟩ 1 1 (tokV t) rfl
    (World.news_of_block (cs := #[.int .i64 t.kind, .string ⟨t.text.toArray⟩, .int .i64 t.pos, .int .i64 t.n]) (t := 36) (fr := (0, 0)) (by show (w.heap.push _)[w.heap.size]? = _; exact Array.getElem?_push_size))
    (by intro u hu; simp [tokV] at hu; rcases hu with rfl | rfl | rfl | rfl <;> rfl) (by unfold maxLen; omega) (by omega) (by simp; omega)
  refine ⟨v', w', hr, ?_, hgr⟩
  unfold OwnT
  rw [flatT_snoc, List.length_append]
  exact ho
/-- an append of such words in a plain region, by its run -/
theorem wpList_append_runD {ops : Array Oper} {rest : List Oper} {o : Oper} {a : Act} {w : World} {Q : Exit → Act → World → Prop} (hgd : o.guard = none) (s x : Operand)
    (ho : o.op = .call { callee := .builtin .append, args := #[s, x], argTypes := #[23, 23] }) (hty : o.type = 23) (sv xv : Value) (hs : a.eval s = sv) (hx : a.eval x = xv) (v' : Value) (w' : World)
    (hr : (Builtin.append_ #[23, 23] 23 #[sv, xv]).run Tryd.prog w = .ok v' w') (h : wpList Tryd.prog ops Q rest (a.put o.dst v') w') : wpList Tryd.prog ops Q (o :: rest) a w := by
  refine wpList_plain hgd fun K hK => ?_
  unfold Oper.wp execOp
  simp only [ho, hty, resolve, invoke, builtin, Sem.run_bind, Sem.run_pure, Result.andThen_ok, List.map_toArray, List.map_cons, List.map_nil, hs, hx, hr]
  exact hK _ _ h

set_option maxHeartbeats 8000000 in
set_option maxRecDepth 100000 in
theorem line_any : LineSpec := by
  intro l w hl
  have HR0 := hide (Words.round l)
  have HI0 := hide (Words.inv_start l)
  generalize Words.toks l = R at *
  go_enter Tryd.func9, Tryd.ntmps9
  go_wp2_with fail
  go_loopw [4, 5] (fun x y wr => ∃ (e : Nat) (done : List Words.T), e ≤ l.length ∧ y = .int .i64 e ∧ done.length ≤ e ∧ Hid (Words.Inv l done e) ∧ Hid (OwnT 36 w.heap.size wr x done) ∧ Hid (Below w.heap.size w wr)) (fun _ y _ => l.length - (intOf y).toNat)
  case atStart => exact ⟨0, [], Nat.zero_le _, rfl, Nat.le_refl _, HI0, hide (OwnT.nil _ _ _), hide (Below.refl _ _)⟩
  case round =>
    obtain ⟨e, done, he, rfl, hdl, HI, HO, HB⟩ := hrel
    have hel : (e : Int) ≤ l.length := by omega
    obtain ⟨Y, hY⟩ : ∃ Y, Plain.indentOf (l.drop e) = Y := ⟨_, rfl⟩
    have hYl : Y.length = ((l.drop e).takeWhile Words.blankB).length := by rw [← hY, indent_len]
    have hYb : Y.length ≤ l.length - e := by rw [hYl, ← List.length_drop]; exact (List.takeWhile_prefix _).length_le
    obtain ⟨a, ha⟩ : ∃ a, e + Y.length = a := ⟨_, rfl⟩
    have hR := unhide HR0 done e a (unhide HI) he (by rw [← hYl]; exact ha)
    have HR := hide hR
    have HIN := hide (fun W => indent_any (l.drop e) W (by rw [List.length_drop]; omega))
    rw [hY] at HIN
    clear hR hYl hY HR0 HI0
    obtain ⟨X, hX⟩ : ∃ X, l.drop e = X := ⟨_, rfl⟩
    have hxe : (⟨l.toArray⟩ : ByteArray).extract e l.length = ⟨X.toArray⟩ := by rw [ext_end, hX]
    rw [hX] at HIN
    clear hX
    have hae : (e : Int) + Y.length = a := by omega
    go_wp2_with fail
    refine (unhide HIN _).mono ?_
    rintro ev w1 ⟨rfl, hb1⟩
    have HB1 := hide hb1
    clear hb1
    obtain ⟨au, cu, rfl⟩ := (unhide HO).tks.shape
    by_cases hal : a = l.length
    · have HRR := hide ((unhide HR).1 hal)
      have q1 : ((a : Int) == l.length) = true := by rw [beq_iff_eq]; omega
      go_wp2
      go_ret2
      rw [unhide HRR]
      exact ⟨_, _, 0, rfl, (unhide HO).below (unhide HB1), .inl ⟨rfl, rfl⟩, .inl rfl, bthen (unhide HB) (unhide HB1)⟩
    · have hal2 : a < l.length := by omega
      have hal3 : (a : Int) ≤ l.length := by omega
      have q1 : ((a : Int) == l.length) = false := by rw [beq_eq_false_iff_ne]; omega
      have HF := hide (fun W => first_any (l.drop a) W (by rw [List.length_drop]; omega) (by rw [List.length_drop]; omega))
      have HRR := hide ((unhide HR).2 hal2)
      obtain ⟨Z, hZ⟩ : ∃ Z, l.drop a = Z := ⟨_, rfl⟩
      have hze : (⟨l.toArray⟩ : ByteArray).extract a l.length = ⟨Z.toArray⟩ := by rw [ext_end, hZ]
      rw [hZ] at HF HRR
      clear hZ HR
      go_wp2_with fail
      refine (unhide HF _).mono ?_
      rintro ev w2 ⟨rfl, hb2⟩
      have HB2 := hide hb2
      clear hb2
      rcases unhide HRR with ⟨⟨rk, rt, rp, rn⟩, f1, hae2, hcl, hR⟩ | ⟨⟨rk, rt, rp, rn⟩, f1, hncl, hinv, hpos, hlen⟩ | ⟨err, f1, he0, hr1, hr2, hr3⟩
      · rw [f1]
        clear HRR f1 HF
        subst hae2
        have HC := hide (fun W (hT : Tks W (.slice au done.length cu) done) => clings_any _ done ⟨rk, rt, rp, rn⟩ W hT (by omega))
        rw [hcl] at HC
        have HRR := hide hR
        clear hcl hR
        unfold tokA errV at *
        rw [if_pos rfl]
        have hb12 : Below wr.heap.size wr w2 := bthen (unhide HB1) (unhide HB2)
        have hb3 : Below wr.heap.size wr (w2.alloc (.cells #[.int .i64 rk, .string ⟨rt.toArray⟩, .int .i64 0, .int .i64 rn] 36)) := bthen hb12 (alloc_below _ _)
        have HT3 := hide ((unhide HO).below hb3).tks
        have HB3 := hide (bthen (unhide HB) hb3)
        clear hb12 hb3
        go_wp2_with fail
        refine (unhide HC _ (unhide HT3)).mono ?_
        rintro ev w4 ⟨rfl, hb4⟩
        have HB4 := hide (bthen (unhide HB3) hb4)
        clear hb4
        go_wp2
        go_ret2
        rw [unhide HRR]
        exact ⟨_, _, 3, rfl, OwnT.nil _ _ _, .inr ⟨by decide, w4.heap.size, (unhide HB4).size, rfl, by simp, by simp, by simp⟩, .inl rfl, bthen (unhide HB4) (alloc_below _ _)⟩
      · rw [f1]
        clear HRR f1 HF
        have HK := hide (And.intro hinv (And.intro hpos hlen))
        clear hinv
        have hs5 : wr.heap.size ≤ w2.heap.size := Nat.le_trans (unhide HB1).size (unhide HB2).size
        have hb12 : Below wr.heap.size wr w2 := bthen (unhide HB1) (unhide HB2)
        have hlen2 : a + rt.length ≤ l.length := hlen
        have hrt : rt.length ≤ 100000 := by omega
        have hrt2 : a + rt.length ≤ 100000 := by omega
        have hpos2 : 0 < rt.length := hpos
        unfold errV
        rw [if_pos rfl]
        by_cases hc : a = e
        · have q2 : ((a : Int) == e) = true := by rw [beq_iff_eq]; omega
          have HC := hide (fun W (hT : Tks W (.slice au done.length cu) done) => clings_any _ done ⟨rk, rt, rp, rn⟩ W hT (by omega))
          have hncl2 : Words.clingsB done rk = false := by
            cases h : Words.clingsB done rk
            · rfl
            · exact absurd ⟨hc, h⟩ hncl
          have HC2 : Hid (∀ W (hT : Tks W (.slice au done.length cu) done), Calls Tryd.prog 19 #[.slice au done.length cu, .agg #[.int .i64 rk, .string ⟨rt.toArray⟩, .int .i64 0, .int .i64 rn]] W fun e w' => e = .returned (.bool false) ∧ Below W.heap.size W w') := hide (fun W hT => by have := unhide HC W hT; rwa [show Words.clingsB done (Words.T.mk rk rt rp rn).kind = false from hncl2] at this)
          have hb3 : Below wr.heap.size wr (w2.alloc (.cells #[.int .i64 rk, .string ⟨rt.toArray⟩, .int .i64 0, .int .i64 rn] 36)) := bthen hb12 (alloc_below _ _)
          have HT3 := hide ((unhide HO).below hb3).tks
          have hc0 : (w2.alloc (.cells #[.int .i64 rk, .string ⟨rt.toArray⟩, .int .i64 0, .int .i64 rn] 36)).cell? ⟨w2.heap.size, 0, none⟩ = some (.int .i64 rk) := by simp
          have hc1 : (w2.alloc (.cells #[.int .i64 rk, .string ⟨rt.toArray⟩, .int .i64 0, .int .i64 rn] 36)).cell? ⟨w2.heap.size, 1, none⟩ = some (.string ⟨rt.toArray⟩) := by simp
          have hc2 : (w2.alloc (.cells #[.int .i64 rk, .string ⟨rt.toArray⟩, .int .i64 0, .int .i64 rn] 36)).cell? ⟨w2.heap.size, 2, none⟩ = some (.int .i64 0) := by simp
          have hc3 : (w2.alloc (.cells #[.int .i64 rk, .string ⟨rt.toArray⟩, .int .i64 0, .int .i64 rn] 36)).cell? ⟨w2.heap.size, 3, none⟩ = some (.int .i64 rn) := by simp
          have hf2 : (w2.alloc (.cells #[.int .i64 rk, .string ⟨rt.toArray⟩, .int .i64 0, .int .i64 rn] 36)).frozen? ⟨w2.heap.size, 2, none⟩ = false := by simp
          have hw3 : w2.heap.size < (w2.alloc (.cells #[.int .i64 rk, .string ⟨rt.toArray⟩, .int .i64 0, .int .i64 rn] 36)).heap.size := by simp
          have HW3 := hide (And.intro hb3 (And.intro hc0 (And.intro hc1 (And.intro hc2 (And.intro hc3 (And.intro hf2 hw3))))))
          clear hb3 hc0 hc1 hc2 hc3 hf2 hw3 hb12 hpos hlen HC hncl hncl2
          subst hc
          unfold tokA
          go_wp2_with fail
          refine (unhide HC2 _ (unhide HT3)).mono ?_
          rintro ev w4 ⟨rfl, hb4⟩
          obtain ⟨hb3, hc0, hc1, hc2, hc3, hf2, hw3⟩ := unhide HW3
          have k0 := (hb4.cell (p := ⟨w2.heap.size, 0, none⟩) hw3).trans hc0
          have k1 := (hb4.cell (p := ⟨w2.heap.size, 1, none⟩) hw3).trans hc1
          have k2 := (hb4.cell (p := ⟨w2.heap.size, 2, none⟩) hw3).trans hc2
          have k3 := (hb4.cell (p := ⟨w2.heap.size, 3, none⟩) hw3).trans hc3
          have z2 := (hb4.frozen (p := ⟨w2.heap.size, 2, none⟩) hw3).trans hf2
          have k1' : (w4.setCell ⟨w2.heap.size, 2, none⟩ (.int .i64 a)).cell? ⟨w2.heap.size, 1, none⟩ = some (.string ⟨rt.toArray⟩) := by simp [go_sem, k1]
          have HW5 := hide (And.intro ((bthen hb3 hb4).setCell (p := ⟨w2.heap.size, 2, none⟩) hs5 (.int .i64 a)) (And.intro k1' (show w2.heap.size.succ ≤ (w4.setCell ⟨w2.heap.size, 2, none⟩ (.int .i64 a)).heap.size from Nat.le_trans hw3 (by have := hb4.size; simpa using this))))
          clear hb3 hc0 hc1 hc2 hc3 hf2 hw3 hb4 k1' HW3 HT3 HC2
          have hown5 := (unhide HO).below (unhide HW5).1
          have hne : some w2.heap.size ≠ (Value.slice au done.length cu).ownBlock := fun h => absurd ((unhide HO).lt _ h.symm).2 (by omega)
          obtain ⟨v9, w9, hr9, ho9, hg9⟩ := append_tok hown5 ⟨rk, rt, a, rn⟩ (Nat.le_trans (unhide HB).size (unhide HW5).1.size) (by omega)
          have hB5 : Below w.heap.size w (w4.setCell ⟨w2.heap.size, 2, none⟩ (.int .i64 a)) := bthen (unhide HB) (unhide HW5).1
          have y9 : Below w.heap.size w w9 := ((hB5.alloc hB5.size _).grown hg9 (Nat.le_trans hB5.size (by simp)) (fun j hj => (World.ownsRow.lt hown5 j hj).1))
          have c9 : w9.cell? ⟨w2.heap.size, 1, none⟩ = some (.string ⟨rt.toArray⟩) := hg9.cell (by rw [((Below.refl w2.heap.size.succ (w4.setCell ⟨w2.heap.size, 2, none⟩ (.int .i64 a))).alloc (unhide HW5).2.2 _).cell (p := ⟨w2.heap.size, 1, none⟩) (Nat.lt_succ_self _)]; exact (unhide HW5).2.1) hne
          have H9 := hide (And.intro ho9 y9)
          rw [show (w4.setCell ⟨w2.heap.size, 2, none⟩ (.int .i64 a)).heap.size = w4.heap.size by simp] at hr9
          clear hown5 hne ho9 hg9 hB5 y9
          go_wp2_with (at_builtin; refine wpList_append_runD rfl _ _ rfl rfl _ _ rfl rfl v9 w9 hr9 ?_)
          go_roundw
          case rel => exact ⟨a + rt.length, done ++ [⟨rk, rt, a, rn⟩], (unhide HK).2.2, by first | rfl | go_num, by rw [List.length_append, List.length_singleton]; omega, hide (unhide HK).1, hide (unhide H9).1, hide (unhide H9).2⟩
          case measure => simp [intOf]; omega
        · have q2 : ((a : Int) == e) = false := by rw [beq_eq_false_iff_ne]; omega
          have HW5 := hide (And.intro (bthen hb12 (alloc_below w2 (.cells #[.int .i64 rk, .string ⟨rt.toArray⟩, .int .i64 a, .int .i64 rn] 36))) (And.intro (show (w2.alloc (.cells #[.int .i64 rk, .string ⟨rt.toArray⟩, .int .i64 a, .int .i64 rn] 36)).cell? ⟨w2.heap.size, 1, none⟩ = some (.string ⟨rt.toArray⟩) by simp) (show w2.heap.size.succ ≤ (w2.alloc (.cells #[.int .i64 rk, .string ⟨rt.toArray⟩, .int .i64 a, .int .i64 rn] 36)).heap.size by simp)))
          clear hb12 hpos hlen hncl
          unfold tokA
          have hown5 := (unhide HO).below (unhide HW5).1
          have hne : some w2.heap.size ≠ (Value.slice au done.length cu).ownBlock := fun h => absurd ((unhide HO).lt _ h.symm).2 (by omega)
          obtain ⟨v9, w9, hr9, ho9, hg9⟩ := append_tok hown5 ⟨rk, rt, a, rn⟩ (Nat.le_trans (unhide HB).size (unhide HW5).1.size) (by omega)
          have hB5 : Below w.heap.size w (w2.alloc (.cells #[.int .i64 rk, .string ⟨rt.toArray⟩, .int .i64 a, .int .i64 rn] 36)) := bthen (unhide HB) (unhide HW5).1
          have y9 : Below w.heap.size w w9 := ((hB5.alloc hB5.size _).grown hg9 (Nat.le_trans hB5.size (by simp)) (fun j hj => (World.ownsRow.lt hown5 j hj).1))
          have c9 : w9.cell? ⟨w2.heap.size, 1, none⟩ = some (.string ⟨rt.toArray⟩) := hg9.cell (by rw [((Below.refl w2.heap.size.succ (w2.alloc (.cells #[.int .i64 rk, .string ⟨rt.toArray⟩, .int .i64 a, .int .i64 rn] 36))).alloc (unhide HW5).2.2 _).cell (p := ⟨w2.heap.size, 1, none⟩) (Nat.lt_succ_self _)]; exact (unhide HW5).2.1) hne
          have H9 := hide (And.intro ho9 y9)
          rw [show (w2.alloc (.cells #[.int .i64 rk, .string ⟨rt.toArray⟩, .int .i64 a, .int .i64 rn] 36)).heap.size = w2.heap.size + 1 by simp] at hr9
          clear hown5 hne ho9 hg9 hB5 y9
          go_wp2_with (at_builtin; refine wpList_append_runD rfl _ _ rfl rfl _ _ rfl rfl v9 w9 hr9 ?_)
          go_roundw
          case rel => exact ⟨a + rt.length, done ++ [⟨rk, rt, a, rn⟩], (unhide HK).2.2, by first | rfl | go_num, by rw [List.length_append, List.length_singleton]; omega, hide (unhide HK).1, hide (unhide H9).1, hide (unhide H9).2⟩
          case measure => simp [intOf]; omega
      · rw [f1]
        clear HRR f1 HF
        have HRR := hide (And.intro hr1 (And.intro hr2 hr3))
        have HE := hide he0
        clear hr1 hr2 hr3
        unfold tokA errV at *
        rw [if_neg he0]
        clear he0
        have HB3 := hide (bthen (unhide HB) (bthen (unhide HB1) (unhide HB2)))
        go_wp2
        go_ret2
        rw [(unhide HRR).1, (unhide HRR).2.1]
        exact ⟨_, _, err, rfl, OwnT.nil _ _ _, .inr ⟨unhide HE, _, Nat.le_trans (unhide HB3).size (by simp), rfl, by simp, by simp, by simp⟩, (unhide HRR).2.2, bthen (bthen (unhide HB3) (alloc_below _ _)) (alloc_below _ _)⟩
end Go.Proofs.YtmdifoejacogpaaDoor.Line
