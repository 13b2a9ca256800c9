/- ExprWords, walked, over contracts of the project's Parse, ParseCond, of known and of Tells. -/
import Derived.Test.YtbpmfkikhackfaaGreatDoorExprSpec
import Derived.Test.YtbpmfkikhackfaaGreatDoorDeepAll
import Derived.Deep.RegionHeld3
namespace Go.Proofs.YtbpmfkikhackfaaGreatDoor.Line
open Go.ChangeShapes Go.WideShapes Go.ChangeAt Go.RowKit
open Ex (E St)
set_option linter.unusedVariables false

abbrev PCTw : TypeId := 44
theorem told_agg2 {B : Nat} {w : World} {g : Value} {word : List UInt8} {k err : Nat} (h : Told B w g word k err) : ∃ a n, g = .agg #[.slice a n n, .int .i64 err] := by
  rcases h with ⟨rfl, rfl⟩ | ⟨_, b, _, rfl, _⟩
  · exact ⟨none, 0, rfl⟩
  · exact ⟨_, 1, rfl⟩
theorem held30 {w W W' : World} {P Q R U V Y : Nat} {v0 v1 v2 v3 v4 v5 v6 v7 v8 v9 v10 v11 v12 v13 v14 v15 v16 v17 v18 v19 v20 v21 v22 v23 v24 v25 v26 v27 v28 v29 : Value}
    (h : W.cell? ⟨P, 0, none⟩ = some v0 ∧ W.cell? ⟨P, 1, none⟩ = some v1 ∧ W.cell? ⟨P, 2, none⟩ = some v2 ∧ W.cell? ⟨P, 3, none⟩ = some v3 ∧ W.cell? ⟨Q, 0, none⟩ = some v4 ∧ W.cell? ⟨Q, 1, none⟩ = some v5 ∧ W.cell? ⟨Q, 2, none⟩ = some v6 ∧ W.cell? ⟨Q, 3, none⟩ = some v7 ∧ W.cell? ⟨R, 0, none⟩ = some v8 ∧ W.cell? ⟨R, 1, none⟩ = some v9 ∧ W.cell? ⟨U, 0, none⟩ = some v10 ∧ W.cell? ⟨U, 1, none⟩ = some v11 ∧ W.cell? ⟨U, 2, none⟩ = some v12 ∧ W.cell? ⟨U, 3, none⟩ = some v13 ∧ W.cell? ⟨U, 4, none⟩ = some v14 ∧ W.cell? ⟨U, 5, none⟩ = some v15 ∧ W.cell? ⟨U, 6, none⟩ = some v16 ∧ W.cell? ⟨U, 7, none⟩ = some v17 ∧ W.cell? ⟨U, 8, none⟩ = some v18 ∧ W.cell? ⟨V, 0, none⟩ = some v19 ∧ W.cell? ⟨V, 1, none⟩ = some v20 ∧ W.cell? ⟨V, 2, none⟩ = some v21 ∧ W.cell? ⟨V, 3, none⟩ = some v22 ∧ W.cell? ⟨V, 4, none⟩ = some v23 ∧ W.cell? ⟨V, 5, none⟩ = some v24 ∧ W.cell? ⟨V, 6, none⟩ = some v25 ∧ W.cell? ⟨V, 7, none⟩ = some v26 ∧ W.cell? ⟨V, 8, none⟩ = some v27 ∧ W.cell? ⟨Y, 0, none⟩ = some v28 ∧ W.cell? ⟨Y, 1, none⟩ = some v29 ∧ Hid (Below w.heap.size w W))
    (hb : Hid (Below W.heap.size W W')) : W'.cell? ⟨P, 0, none⟩ = some v0 ∧ W'.cell? ⟨P, 1, none⟩ = some v1 ∧ W'.cell? ⟨P, 2, none⟩ = some v2 ∧ W'.cell? ⟨P, 3, none⟩ = some v3 ∧ W'.cell? ⟨Q, 0, none⟩ = some v4 ∧ W'.cell? ⟨Q, 1, none⟩ = some v5 ∧ W'.cell? ⟨Q, 2, none⟩ = some v6 ∧ W'.cell? ⟨Q, 3, none⟩ = some v7 ∧ W'.cell? ⟨R, 0, none⟩ = some v8 ∧ W'.cell? ⟨R, 1, none⟩ = some v9 ∧ W'.cell? ⟨U, 0, none⟩ = some v10 ∧ W'.cell? ⟨U, 1, none⟩ = some v11 ∧ W'.cell? ⟨U, 2, none⟩ = some v12 ∧ W'.cell? ⟨U, 3, none⟩ = some v13 ∧ W'.cell? ⟨U, 4, none⟩ = some v14 ∧ W'.cell? ⟨U, 5, none⟩ = some v15 ∧ W'.cell? ⟨U, 6, none⟩ = some v16 ∧ W'.cell? ⟨U, 7, none⟩ = some v17 ∧ W'.cell? ⟨U, 8, none⟩ = some v18 ∧ W'.cell? ⟨V, 0, none⟩ = some v19 ∧ W'.cell? ⟨V, 1, none⟩ = some v20 ∧ W'.cell? ⟨V, 2, none⟩ = some v21 ∧ W'.cell? ⟨V, 3, none⟩ = some v22 ∧ W'.cell? ⟨V, 4, none⟩ = some v23 ∧ W'.cell? ⟨V, 5, none⟩ = some v24 ∧ W'.cell? ⟨V, 6, none⟩ = some v25 ∧ W'.cell? ⟨V, 7, none⟩ = some v26 ∧ W'.cell? ⟨V, 8, none⟩ = some v27 ∧ W'.cell? ⟨Y, 0, none⟩ = some v28 ∧ W'.cell? ⟨Y, 1, none⟩ = some v29 ∧ Hid (Below w.heap.size w W') := by
  obtain ⟨h0, h1, h2, h3, h4, h5, h6, h7, h8, h9, h10, h11, h12, h13, h14, h15, h16, h17, h18, h19, h20, h21, h22, h23, h24, h25, h26, h27, h28, h29, hB⟩ := h
  have hc : ∀ {b o : Nat} {v : Value}, W.cell? ⟨b, o, none⟩ = some v → W'.cell? ⟨b, o, none⟩ = some v := fun {b o v} h => (hb.cell (p := ⟨b, o, none⟩) (cell_lt h)).trans h
  exact ⟨hc h0, hc h1, hc h2, hc h3, hc h4, hc h5, hc h6, hc h7, hc h8, hc h9, hc h10, hc h11, hc h12, hc h13, hc h14, hc h15, hc h16, hc h17, hc h18, hc h19, hc h20, hc h21, hc h22, hc h23, hc h24, hc h25, hc h26, hc h27, hc h28, hc h29, hide (bthen (unhide hB) (unhide hb))⟩
set_option maxHeartbeats 16000000 in
set_option maxRecDepth 100000 in
theorem exprWords_walk (HPARSE : ParseSpec) (HCOND : CondSpec) (HKNOWN : KnownTSpec) (HTELLS : TellsESpec) (l : List UInt8) (w : World) (hl : l.length ≤ 9223372036854775807) (hG : Glob w) (hT : Tab w) : Calls Tryz.prog 3 #[.string ⟨l.toArray⟩] w fun e w' => e = .returned (.bool true) ∧ Below w.heap.size w w' := by
  have HG := hide hG
  have HKN := hide (HKNOWN w hG hT)
  have HSP := hide (And.intro HPARSE (And.intro HCOND HTELLS))
  clear hG hT HKNOWN HPARSE HCOND HTELLS
  by_cases g1 : 300 < l.length
  · have q1 : decide (300 < l.length) = true := decide_eq_true g1
    go_enter Tryz.func3, Tryz.ntmps3
    go_wp2_with fail
    refine (unhide HKN).mono ?_
    rintro e w1 ⟨rfl, hb1⟩
    have H1 := hide hb1
    clear hb1
    go_wp2
    go_ret
    exact ⟨rfl, unhide H1⟩
  have q1 : decide (300 < l.length) = false := decide_eq_false g1
  go_enter Tryz.func3, Tryz.ntmps3
  go_wp2_with fail
  refine (unhide HKN).mono ?_
  rintro e w1 ⟨rfl, hb1⟩
  have H1 := hide hb1
  clear hb1
  go_wp2_with fail
  refine (refToks_any l (by omega) _).mono ?_
  rintro e w2 ⟨u, g3, rfl, ho2, ht2, hb2⟩
  obtain ⟨ga, gn, rfl⟩ := told_agg2 ht2
  have ba := alloc_below w2 (.cells #[.slice ga gn gn, .int .i64 ((Words.toks l).2.1 : Int)] WrT)
  have H2 := hide (And.intro (ho2.below ba) (bthen (bthen (unhide H1) hb2) ba))
  obtain ⟨a3, c3, rfl⟩ := ho2.tks.shape
  have hcnt : (Words.toks l).1.length ≤ 300 := by have := toks_countW l; omega
  clear ho2 ht2 hb2 ba
  by_cases her : ¬ (Words.toks l).2.1 = 0
  · have t1 : (((Words.toks l).2.1 : Int) != 0) = true := by rw [bne_iff_ne]; omega
    have t2 : ¬ ((Words.toks l).2.1 : Int) = 0 := by omega
    clear her
    generalize (Words.toks l).2.1 = er at *
    go_wp2
    go_ret
    exact ⟨rfl, (unhide H2).2⟩
  replace her := Decidable.not_not.1 her
  rw [her] at H2 ⊢
  clear her
  generalize (Words.toks l).1 = T at *
  go_wp2_with fail
  generalize w2.alloc (.cells #[.slice ga gn gn, .int .i64 ((0 : Nat) : Int)] WrT) = W2 at *
  refine (to_any _ T W2 (unhide H2).1.tks (by omega)).mono ?_
  rintro e w3 ⟨v, rfl, ho3, hb3⟩
  have H3 := hide (And.intro ho3 hb3)
  obtain ⟨a4, c4, rfl⟩ := ho3.tks.shape
  clear ho3 hb3
  go_wp2_with fail
  refine ((unhide HSP).1 T _ w3 (by omega) (unhide H3).1.tks (unhide H3).1.ownLt).mono ?_
  rintro e w4 ⟨x, s, sx, f4, hr4, rfl, hf4, hs4, hb4⟩
  obtain ⟨xa, xc, rfl⟩ := hf4.shape
  have H4 := hide (And.intro hr4 (And.intro hf4 (And.intro hs4 hb4)))
  clear hr4 hf4 hs4 hb4
  generalize hX : ansE x s = X at *
  generalize hN : ansN s = N at *
  generalize hxn : X.a.length = xn at *
  have H4' := hide (And.intro hX (And.intro hN hxn))
  clear hX hN hxn
  have ba4 := alloc_below w4 (.cells #[.int .i64 X.kind, .int .i64 X.n, .string ⟨X.name.toArray⟩, .slice xa xn xc] PET)
  have hbx := box_new w4 X (.slice xa xn xc) PET
  have HB4 := hide (And.intro hbx (bthen (unhide H4).2.2.2 ba4))
  clear ba4 hbx
  go_wp2_with fail
  generalize hq4 : w4.heap.size = p6 at *
  have HBA := hide (alloc_below w4 (.cells #[.int .i64 X.kind, .int .i64 X.n, .string ⟨X.name.toArray⟩, .slice xa xn xc] PET))
  generalize w4.alloc (.cells #[.int .i64 X.kind, .int .i64 X.n, .string ⟨X.name.toArray⟩, .slice xa xn xc] PET) = W4 at *
  refine (refParse_any T _ W4 (by omega) ((unhide H2).1.tks.below (bthen (unhide H3).2 (unhide HB4).2)) (fun p h => by have := (unhide H2).1.ownLt p h; have := (bthen (unhide H3).2 (unhide HB4).2).size; omega)).mono ?_
  rintro e w5 ⟨x5, s5, sy, f5, hr5, rfl, hf5, hs5, hb5, hp5⟩
  obtain ⟨h51, h52⟩ : x5 = x ∧ s5 = s := by
    have := Ex.RExpr.det hr5 (unhide H4).1
    injection this with h1 h2
    exact ⟨h1, h2⟩
  subst h51
  subst h52
  rw [(unhide H4').1] at hf5
  obtain ⟨fa, fn, hf5e⟩ := told_agg2 hs5
  subst hf5e
  obtain ⟨ya, yc, hsy⟩ := hf5.shape
  generalize hyn : X.a.length = yn at hsy
  subst hsy
  clear hyn hr5
  rw [(unhide H4').1, (unhide H4').2.1]
  generalize x5 = x at *
  generalize s5 = s at *
  have b5 := alloc_below w5 (.cells #[.int .i64 X.kind, .int .i64 X.n, .string ⟨X.name.toArray⟩, .slice ya yn yc] ET)
  have b5b := alloc_below (w5.alloc (.cells #[.int .i64 X.kind, .int .i64 X.n, .string ⟨X.name.toArray⟩, .slice ya yn yc] ET)) (.cells #[.slice fa fn fn, .int .i64 s.err] WrT)
  have z5 : (w5.alloc (.cells #[.int .i64 X.kind, .int .i64 X.n, .string ⟨X.name.toArray⟩, .slice ya yn yc] ET)).heap.size = w5.heap.size + 1 := by simp
  have k9 := (box_new w5 X (.slice ya yn yc) ET).keep (b5b.block _ (by omega)) b5b.size
  have k11 := boxW_new (w5.alloc (.cells #[.int .i64 X.kind, .int .i64 X.n, .string ⟨X.name.toArray⟩, .slice ya yn yc] ET)) (.slice fa fn fn) s.err WrT
  rw [z5] at k11
  have HB5 := hide (And.intro k9 (And.intro k11 (And.intro (hf5.old (bthen b5 b5b)) (And.intro (hs5.below (bthen b5 b5b)) (bthen hb5 (bthen b5 b5b))))))
  clear b5 b5b z5 k9 k11 hf5 hs5 hb5
  go_wp2_with fail
  generalize (w5.alloc (.cells #[.int .i64 X.kind, .int .i64 X.n, .string ⟨X.name.toArray⟩, .slice ya yn yc] ET)).alloc (.cells #[.slice fa fn fn, .int .i64 s.err] WrT) = W5 at *
  have B35 : Hid (Below w3.heap.size w3 W5) := hide (bthen (unhide HB4).2 (unhide HB5).2.2.2.2)
  refine ((unhide HSP).2.1 T _ W5 (by omega) ((unhide H3).1.tks.below (unhide B35)) (fun p h => by have := (unhide H3).1.ownLt p h; have := (unhide B35).size; omega)).mono ?_
  rintro e w6 ⟨c, cx, cy, cs, sa, sb, f6, hr6, rfl, hfa6, hfb6, hs6, hb6⟩
  obtain ⟨ca, cc, hsa⟩ := hfa6.shape
  generalize hcn : cx.a.length = cn at hsa
  subst hsa
  obtain ⟨da, dc, hsb⟩ := hfb6.shape
  generalize hdn : cy.a.length = dn at hsb
  subst hsb
  clear hcn hdn
  have b6 := alloc_below w6 (.cells #[.string ⟨c.toArray⟩, .int .i64 cx.kind, .int .i64 cx.n, .string ⟨cx.name.toArray⟩, (.slice ca cn cc), .int .i64 cy.kind, .int .i64 cy.n, .string ⟨cy.name.toArray⟩, (.slice da dn dc)] PCTw)
  have k12 := boxC_new w6 c cx (.slice ca cn cc) cy (.slice da dn dc) PCTw
  have HB6 := hide (And.intro hr6 (And.intro k12 (And.intro (hfa6.old b6) (And.intro (hfb6.old b6) (And.intro (hs6.below b6) (bthen hb6 b6))))))
  clear hr6 k12 hfa6 hfb6 hs6 hb6 b6
  go_wp2_with fail
  generalize w6.alloc (.cells #[.string ⟨c.toArray⟩, .int .i64 cx.kind, .int .i64 cx.n, .string ⟨cx.name.toArray⟩, (.slice ca cn cc), .int .i64 cy.kind, .int .i64 cy.n, .string ⟨cy.name.toArray⟩, (.slice da dn dc)] PCTw) = W6 at *
  have B26 : Hid (Below W2.heap.size W2 W6) := hide (bthen (unhide H3).2 (bthen (unhide B35) (unhide HB6).2.2.2.2.2))
  refine (refCond_any T _ W6 (by omega) ((unhide H2).1.tks.below (unhide B26)) (fun p h => by have := (unhide H2).1.ownLt p h; have := (unhide B26).size; omega)).mono ?_
  rintro e w7 ⟨c', cx', cy', cs', sa7, sb7, f7, hr7, rfl, hfa7, hfb7, hs7, hb7⟩
  obtain ⟨j1, j2, j3, j4⟩ := RCond.det hr7 (unhide HB6).1
  subst j1
  subst j2
  subst j3
  subst j4
  obtain ⟨ka, kn, hf7e⟩ := told_agg2 hs7
  subst hf7e
  obtain ⟨ea, ec, hsa⟩ := hfa7.shape
  generalize hen : cx'.a.length = en at hsa
  subst hsa
  obtain ⟨ha, hc, hsb⟩ := hfb7.shape
  generalize hhn : cy'.a.length = hn at hsb
  subst hsb
  clear hen hhn hr7
  generalize cx' = cx at *
  generalize cy' = cy at *
  generalize c' = c at *
  generalize cs' = cs at *
  have b7 := alloc_below w7 (.cells #[.string ⟨c.toArray⟩, .int .i64 cx.kind, .int .i64 cx.n, .string ⟨cx.name.toArray⟩, (.slice ea en ec), .int .i64 cy.kind, .int .i64 cy.n, .string ⟨cy.name.toArray⟩, (.slice ha hn hc)] CdT)
  have b7b := alloc_below (w7.alloc (.cells #[.string ⟨c.toArray⟩, .int .i64 cx.kind, .int .i64 cx.n, .string ⟨cx.name.toArray⟩, (.slice ea en ec), .int .i64 cy.kind, .int .i64 cy.n, .string ⟨cy.name.toArray⟩, (.slice ha hn hc)] CdT)) (.cells #[.slice ka kn kn, .int .i64 cs.err] WrT)
  have z7 : (w7.alloc (.cells #[.string ⟨c.toArray⟩, .int .i64 cx.kind, .int .i64 cx.n, .string ⟨cx.name.toArray⟩, (.slice ea en ec), .int .i64 cy.kind, .int .i64 cy.n, .string ⟨cy.name.toArray⟩, (.slice ha hn hc)] CdT)).heap.size = w7.heap.size + 1 := by simp
  have k15 := (boxC_new w7 c cx (.slice ea en ec) cy (.slice ha hn hc) CdT).keep (b7b.block _ (by omega)) b7b.size
  have k17 := boxW_new (w7.alloc (.cells #[.string ⟨c.toArray⟩, .int .i64 cx.kind, .int .i64 cx.n, .string ⟨cx.name.toArray⟩, (.slice ea en ec), .int .i64 cy.kind, .int .i64 cy.n, .string ⟨cy.name.toArray⟩, (.slice ha hn hc)] CdT)) (.slice ka kn kn) cs.err WrT
  rw [z7] at k17
  have HB7 := hide (And.intro k15 (And.intro k17 (And.intro (hfa7.old (bthen b7 b7b)) (And.intro (hfb7.old (bthen b7 b7b)) (And.intro (hs7.below (bthen b7 b7b)) (bthen hb7 (bthen b7 b7b)))))))
  clear b7 b7b z7 k15 k17 hfa7 hfb7 hs7 hb7
  go_wp2_with fail
  generalize (w7.alloc (.cells #[.string ⟨c.toArray⟩, .int .i64 cx.kind, .int .i64 cx.n, .string ⟨cx.name.toArray⟩, (.slice ea en ec), .int .i64 cy.kind, .int .i64 cy.n, .string ⟨cy.name.toArray⟩, (.slice ha hn hc)] CdT)).alloc (.cells #[.slice ka kn kn, .int .i64 cs.err] WrT) = W7 at *
  have B67 := (unhide HB7).2.2.2.2.2
  have B57 := bthen (unhide HB6).2.2.2.2.2 B67
  have B47 := bthen (unhide HB5).2.2.2.2 B57
  have B07 := bthen (unhide H4).2.2.2 (bthen (unhide HBA) B47)
  have j6 := (unhide HB4).1.keep (B47.block _ (unhide HB4).1.lt) B47.size
  have j9 := (unhide HB5).1.keep (B57.block _ (unhide HB5).1.lt) B57.size
  have j11 := (unhide HB5).2.1.keep (B57.block _ (unhide HB5).2.1.lt) B57.size
  have j12 := (unhide HB6).2.1.keep (B67.block _ (unhide HB6).2.1.lt) B67.size
  have j15 := (unhide HB7).1
  have j17 := (unhide HB7).2.1
  have hG7 : Glob W7 := (unhide HG).below (bthen (unhide H2).2 (bthen (unhide H3).2 B07))
  have HEND := hide (bthen (unhide H2).2 (bthen (unhide H3).2 B07))
  have HFX := hide (And.intro (((unhide H4).2.1.old (unhide HBA)).old B47) (And.intro ((unhide HB5).2.2.1.old B57) (And.intro (((unhide H4).2.2.1.below (unhide HBA)).below B47) ((unhide HB5).2.2.2.1.below B57))))
  have HFC := hide (And.intro ((unhide HB6).2.2.1.old B67) (And.intro ((unhide HB6).2.2.2.1.old B67) (And.intro (unhide HB7).2.2.1 (And.intro (unhide HB7).2.2.2.1 (And.intro ((unhide HB6).2.2.2.2.1.below B67) (unhide HB7).2.2.2.2.1)))))
  have HSM := hide (And.intro (rexpr_smA (unhide H4).1) (unhide HB6).1.sm)
  rw [(unhide H4').1] at HSM
  generalize hp9 : w5.heap.size = p9 at *
  generalize hp12 : w6.heap.size = p12 at *
  generalize hp15 : w7.heap.size = p15 at *
  have HS0 : Hid (W7.cell? ⟨p6, 0, none⟩ = some (.int .i64 X.kind) ∧ W7.cell? ⟨p6, 1, none⟩ = some (.int .i64 X.n) ∧ W7.cell? ⟨p6, 2, none⟩ = some (.string ⟨X.name.toArray⟩) ∧ W7.cell? ⟨p6, 3, none⟩ = some (.slice xa xn xc) ∧ W7.cell? ⟨p9, 0, none⟩ = some (.int .i64 X.kind) ∧ W7.cell? ⟨p9, 1, none⟩ = some (.int .i64 X.n) ∧ W7.cell? ⟨p9, 2, none⟩ = some (.string ⟨X.name.toArray⟩) ∧ W7.cell? ⟨p9, 3, none⟩ = some (.slice ya yn yc) ∧ W7.cell? ⟨p9 + 1, 0, none⟩ = some (.slice fa fn fn) ∧ W7.cell? ⟨p9 + 1, 1, none⟩ = some (.int .i64 s.err) ∧ W7.cell? ⟨p12, 0, none⟩ = some (.string ⟨c.toArray⟩) ∧ W7.cell? ⟨p12, 1, none⟩ = some (.int .i64 cx.kind) ∧ W7.cell? ⟨p12, 2, none⟩ = some (.int .i64 cx.n) ∧ W7.cell? ⟨p12, 3, none⟩ = some (.string ⟨cx.name.toArray⟩) ∧ W7.cell? ⟨p12, 4, none⟩ = some (.slice ca cn cc) ∧ W7.cell? ⟨p12, 5, none⟩ = some (.int .i64 cy.kind) ∧ W7.cell? ⟨p12, 6, none⟩ = some (.int .i64 cy.n) ∧ W7.cell? ⟨p12, 7, none⟩ = some (.string ⟨cy.name.toArray⟩) ∧ W7.cell? ⟨p12, 8, none⟩ = some (.slice da dn dc) ∧ W7.cell? ⟨p15, 0, none⟩ = some (.string ⟨c.toArray⟩) ∧ W7.cell? ⟨p15, 1, none⟩ = some (.int .i64 cx.kind) ∧ W7.cell? ⟨p15, 2, none⟩ = some (.int .i64 cx.n) ∧ W7.cell? ⟨p15, 3, none⟩ = some (.string ⟨cx.name.toArray⟩) ∧ W7.cell? ⟨p15, 4, none⟩ = some (.slice ea en ec) ∧ W7.cell? ⟨p15, 5, none⟩ = some (.int .i64 cy.kind) ∧ W7.cell? ⟨p15, 6, none⟩ = some (.int .i64 cy.n) ∧ W7.cell? ⟨p15, 7, none⟩ = some (.string ⟨cy.name.toArray⟩) ∧ W7.cell? ⟨p15, 8, none⟩ = some (.slice ha hn hc) ∧ W7.cell? ⟨p15 + 1, 0, none⟩ = some (.slice ka kn kn) ∧ W7.cell? ⟨p15 + 1, 1, none⟩ = some (.int .i64 cs.err) ∧ Hid (Below W7.heap.size W7 W7)) := hide ⟨j6.c0, j6.c1, j6.c2, j6.c3, j9.c0, j9.c1, j9.c2, j9.c3, j11.c0, j11.c1, j12.c0, j12.c1, j12.c2, j12.c3, j12.c4, j12.c5, j12.c6, j12.c7, j12.c8, j15.c0, j15.c1, j15.c2, j15.c3, j15.c4, j15.c5, j15.c6, j15.c7, j15.c8, j17.c0, j17.c1, hide (Below.refl _ _)⟩
  have HG7 := hide hG7
  have HX1 := hide (unhide HFX).1
  have HX2 := hide (unhide HFX).2.1
  have HX3 := hide (unhide HFX).2.2.1
  have HX4 := hide (unhide HFX).2.2.2
  have HC1 := hide (unhide HFC).1
  have HC2 := hide (unhide HFC).2.1
  have HC3 := hide (unhide HFC).2.2.1
  have HC4 := hide (unhide HFC).2.2.2.1
  have HC5 := hide (unhide HFC).2.2.2.2.1
  have HC6 := hide (unhide HFC).2.2.2.2.2
  clear B67 B57 B47 B07 j6 j9 j11 j12 j15 j17 hG7 HFX HFC HB4 HB5 HB6 HB7 H4 H4' HBA B35 B26 H1 H2 H3 HKN HG hq4 hp9 hp12 hp15
  generalize ansN cs = CN at *
  have HT1 : Hid (∀ W, Hid (Below W7.heap.size W7 W) → Calls Tryz.prog 14 #[f4, .agg #[.slice fa fn fn, .int .i64 s.err]] W fun e w' => e = .returned (.bool true) ∧ Below W.heap.size W w') := hide (fun W h => (unhide HSP).2.2 W _ _ s.bad s.err _ _ ((unhide HG7).below (unhide h)) ((unhide HX3).below (unhide h)) ((unhide HX4).below (unhide h)))
  have HT2 : Hid (∀ W, Hid (Below W7.heap.size W7 W) → Calls Tryz.prog 14 #[f6, .agg #[.slice ka kn kn, .int .i64 cs.err]] W fun e w' => e = .returned (.bool true) ∧ Below W.heap.size W w') := hide (fun W h => (unhide HSP).2.2 W _ _ cs.bad cs.err _ _ ((unhide HG7).below (unhide h)) ((unhide HC5).below (unhide h)) ((unhide HC6).below (unhide h)))
  have HO1 : Hid (∀ W, Hid (Below W7.heap.size W7 W) → Calls Tryz.prog 16 #[treeV X (.slice xa xn xc)] W fun e w' => ∃ a n cap, e = .returned (treeV X (.slice a n cap)) ∧ Forest w' (fun b => W.heap.size ≤ b) X.a (.slice a n cap) ∧ Below W.heap.size W w') := hide (fun W h => (of_any X W _ _ ((unhide HX1).old (unhide h)) (unhide HSM).1).mono (by rintro e w' ⟨sy, rfl, hf, hb⟩; obtain ⟨a, cap, rfl⟩ := hf.shape; exact ⟨a, _, cap, rfl, hf, hb⟩))
  have HO2 : Hid (∀ W, Hid (Below W7.heap.size W7 W) → Calls Tryz.prog 16 #[treeV cx (.slice ca cn cc)] W fun e w' => ∃ a n cap, e = .returned (treeV cx (.slice a n cap)) ∧ Forest w' (fun b => W.heap.size ≤ b) cx.a (.slice a n cap) ∧ Below W.heap.size W w') := hide (fun W h => (of_any cx W _ _ ((unhide HC1).old (unhide h)) (unhide HSM).2.1).mono (by rintro e w' ⟨sy, rfl, hf, hb⟩; obtain ⟨a, cap, rfl⟩ := hf.shape; exact ⟨a, _, cap, rfl, hf, hb⟩))
  have HO3 : Hid (∀ W, Hid (Below W7.heap.size W7 W) → Calls Tryz.prog 16 #[treeV cy (.slice da dn dc)] W fun e w' => ∃ a n cap, e = .returned (treeV cy (.slice a n cap)) ∧ Forest w' (fun b => W.heap.size ≤ b) cy.a (.slice a n cap) ∧ Below W.heap.size W w') := hide (fun W h => (of_any cy W _ _ ((unhide HC2).old (unhide h)) (unhide HSM).2.2).mono (by rintro e w' ⟨sy, rfl, hf, hb⟩; obtain ⟨a, cap, rfl⟩ := hf.shape; exact ⟨a, _, cap, rfl, hf, hb⟩))
  have HE1 : Hid (∀ W S a n cap, Hid (Below W7.heap.size W7 W) → Hid (Forest W S X.a (.slice a n cap)) → Calls Tryz.prog 15 #[treeV X (.slice a n cap), treeV X (.slice ya yn yc)] W fun e w' => e = .returned (.bool true) ∧ Below W.heap.size W w') := hide (fun W S a n cap h hf => refSame_true X W _ _ _ _ (unhide hf) ((unhide HX2).old (unhide h)))
  have HE2 : Hid (∀ W S a n cap, Hid (Below W7.heap.size W7 W) → Hid (Forest W S cx.a (.slice a n cap)) → Calls Tryz.prog 15 #[treeV cx (.slice a n cap), treeV cx (.slice ea en ec)] W fun e w' => e = .returned (.bool true) ∧ Below W.heap.size W w') := hide (fun W S a n cap h hf => refSame_true cx W _ _ _ _ (unhide hf) ((unhide HC3).old (unhide h)))
  have HE3 : Hid (∀ W S a n cap, Hid (Below W7.heap.size W7 W) → Hid (Forest W S cy.a (.slice a n cap)) → Calls Tryz.prog 15 #[treeV cy (.slice a n cap), treeV cy (.slice ha hn hc)] W fun e w' => e = .returned (.bool true) ∧ Below W.heap.size W w') := hide (fun W S a n cap h hf => refSame_true cy W _ _ _ _ (unhide hf) ((unhide HC4).old (unhide h)))
  clear HX1 HX2 HX3 HX4 HC1 HC2 HC3 HC4 HC5 HC6 HG7 HSM HSP
  have HD : Hid (Below W7.heap.size W7 W7.drew) := hide (below_drewN (Below.refl _ _) 1)
  go_region_held3 (fun W => W.cell? ⟨p6, 0, none⟩ = some (.int .i64 X.kind) ∧ W.cell? ⟨p6, 1, none⟩ = some (.int .i64 X.n) ∧ W.cell? ⟨p6, 2, none⟩ = some (.string ⟨X.name.toArray⟩) ∧ W.cell? ⟨p6, 3, none⟩ = some (.slice xa xn xc) ∧ W.cell? ⟨p9, 0, none⟩ = some (.int .i64 X.kind) ∧ W.cell? ⟨p9, 1, none⟩ = some (.int .i64 X.n) ∧ W.cell? ⟨p9, 2, none⟩ = some (.string ⟨X.name.toArray⟩) ∧ W.cell? ⟨p9, 3, none⟩ = some (.slice ya yn yc) ∧ W.cell? ⟨p9 + 1, 0, none⟩ = some (.slice fa fn fn) ∧ W.cell? ⟨p9 + 1, 1, none⟩ = some (.int .i64 s.err) ∧ W.cell? ⟨p12, 0, none⟩ = some (.string ⟨c.toArray⟩) ∧ W.cell? ⟨p12, 1, none⟩ = some (.int .i64 cx.kind) ∧ W.cell? ⟨p12, 2, none⟩ = some (.int .i64 cx.n) ∧ W.cell? ⟨p12, 3, none⟩ = some (.string ⟨cx.name.toArray⟩) ∧ W.cell? ⟨p12, 4, none⟩ = some (.slice ca cn cc) ∧ W.cell? ⟨p12, 5, none⟩ = some (.int .i64 cy.kind) ∧ W.cell? ⟨p12, 6, none⟩ = some (.int .i64 cy.n) ∧ W.cell? ⟨p12, 7, none⟩ = some (.string ⟨cy.name.toArray⟩) ∧ W.cell? ⟨p12, 8, none⟩ = some (.slice da dn dc) ∧ W.cell? ⟨p15, 0, none⟩ = some (.string ⟨c.toArray⟩) ∧ W.cell? ⟨p15, 1, none⟩ = some (.int .i64 cx.kind) ∧ W.cell? ⟨p15, 2, none⟩ = some (.int .i64 cx.n) ∧ W.cell? ⟨p15, 3, none⟩ = some (.string ⟨cx.name.toArray⟩) ∧ W.cell? ⟨p15, 4, none⟩ = some (.slice ea en ec) ∧ W.cell? ⟨p15, 5, none⟩ = some (.int .i64 cy.kind) ∧ W.cell? ⟨p15, 6, none⟩ = some (.int .i64 cy.n) ∧ W.cell? ⟨p15, 7, none⟩ = some (.string ⟨cy.name.toArray⟩) ∧ W.cell? ⟨p15, 8, none⟩ = some (.slice ha hn hc) ∧ W.cell? ⟨p15 + 1, 0, none⟩ = some (.slice ka kn kn) ∧ W.cell? ⟨p15 + 1, 1, none⟩ = some (.int .i64 cs.err) ∧ Hid (Below W7.heap.size W7 W))
    (first | exact held30 (unhide HS0) HD | exact held30 (by assumption) (by assumption))
    (first
    | (go_at_call 14; with_reducible refine (unhide HT1 _ (by go_split_ands; assumption)).mono ?_; rintro ev w8 ⟨rfl, hb8⟩; replace hb8 := hide hb8; dsimp only)
    | (go_at_call 14; with_reducible refine (unhide HT2 _ (by go_split_ands; assumption)).mono ?_; rintro ev w8 ⟨rfl, hb8⟩; replace hb8 := hide hb8; dsimp only)
    | (go_at_call 16; with_reducible refine (unhide HO1 _ (by go_split_ands; assumption)).mono ?_; rintro ev w8 ⟨a8, n8, c8, rfl, hF8, hb8⟩; replace hF8 := hide hF8; replace hb8 := hide hb8; dsimp only)
    | (go_at_call 16; with_reducible refine (unhide HO2 _ (by go_split_ands; assumption)).mono ?_; rintro ev w8 ⟨a8, n8, c8, rfl, hF8, hb8⟩; replace hF8 := hide hF8; replace hb8 := hide hb8; dsimp only)
    | (go_at_call 16; with_reducible refine (unhide HO3 _ (by go_split_ands; assumption)).mono ?_; rintro ev w8 ⟨a8, n8, c8, rfl, hF8, hb8⟩; replace hF8 := hide hF8; replace hb8 := hide hb8; dsimp only)
    | (go_at_call 15; with_reducible refine (unhide HE1 _ _ _ _ _ (by go_split_ands; assumption) (by assumption)).mono ?_; rintro ev w8 ⟨rfl, hb8⟩; replace hb8 := hide hb8; dsimp only)
    | (go_at_call 15; with_reducible refine (unhide HE2 _ _ _ _ _ (by go_split_ands; assumption) (by assumption)).mono ?_; rintro ev w8 ⟨rfl, hb8⟩; replace hb8 := hide hb8; dsimp only)
    | (go_at_call 15; with_reducible refine (unhide HE3 _ _ _ _ _ (by go_split_ands; assumption) (by assumption)).mono ?_; rintro ev w8 ⟨rfl, hb8⟩; replace hb8 := hide hb8; dsimp only))
  all_goals (
    go_wp2
    go_ret
    exact ⟨rfl, by go_split_ands; exact bthen (unhide HEND) (unhide (by assumption))⟩)
end Go.Proofs.YtbpmfkikhackfaaGreatDoor.Line
