/- FormSums, walked. -/
import Derived.Test.YtmbhamnkbpcljaaDoorLnKn
import Derived.Test.YtmbhamnkbpcljaaDoorLnRSc
namespace Go.Proofs.YtmbhamnkbpcljaaDoor.Line
open Go.ChangeShapes Go.WideShapes Go.ChangeAt Go.RowKit
set_option linter.unusedVariables false

theorem Ints.otherN {w : World} {v : Value} {l : List Int} (h : Ints w v l) (a : Addr) (x : Value) (ha : l ≠ [] → ∀ b o m c, v = .slice (some ⟨b, o, none⟩) m c → a.block ≠ b) : Ints (w.setCell a x) v l := by
  cases hl : l with
  | nil =>
    subst hl
    obtain ⟨aa, cap, h1, h2, h3, _⟩ := h
    exact ⟨aa, cap, h1, h2, h3, .inl rfl⟩
  | cons y r =>
    rw [← hl]
    exact h.other a x (fun b o c hv => ha (by rw [hl]; simp) b o _ c hv)
theorem Ints.blt {w : World} {v : Value} {l : List Int} (h : Ints w v l) (hl : l ≠ []) {b o m c : Nat} (hv : v = .slice (some ⟨b, o, none⟩) m c) : b < w.heap.size := by
  obtain ⟨b2, o2, c2, hv2, _, _, hc⟩ := h.at (List.length_pos_iff.2 hl)
  rw [hv] at hv2
  injection hv2 with e1
  injection e1 with e1
  injection e1 with e1 e2
  rw [e1]
  exact cell_lt (hc 0 (List.length_pos_iff.2 hl))
theorem Told.otherN {B : Nat} {w : World} {ga : Option Addr} {gn gc : Nat} {word : List UInt8} {k E b : Nat} {v : Value} (h : Told B w (.agg #[.slice ga gn gc, .int .i64 E]) word k E) (hb : Bx w b (.slice none 0 0) v) (x y : Value) : Told B ((w.setCell ⟨b, 0, none⟩ x).setCell ⟨b, 1, none⟩ y) (.agg #[.slice ga gn gc, .int .i64 E]) word k E := by
  rcases h with h | ⟨h0, b', h1, h2, h3, h4⟩
  · exact .inl h
  · have hne : b' ≠ b := fun e => by
      rw [e, hb.c0] at h3
      cases h3
    have hk : ∀ o i, (⟨b', o, none⟩ : Addr).block ≠ (⟨b, i, none⟩ : Addr).block := fun o i => hne
    exact .inr ⟨h0, b', h1, h2, by rw [World.cell?_of_block (Below.heap_setCell _ _ _ _ (hk 0 1)), World.cell?_of_block (Below.heap_setCell _ _ _ _ (hk 0 0))]; exact h3, by rw [World.cell?_of_block (Below.heap_setCell _ _ _ _ (hk 1 1)), World.cell?_of_block (Below.heap_setCell _ _ _ _ (hk 1 0))]; exact h4⟩
/-- a told error is in no box of the call's own -/
theorem Told.ne {B : Nat} {w : World} {ga : Option Addr} {gn gc : Nat} {word : List UInt8} {k E b : Nat} {v : Value} (h : Told B w (.agg #[.slice ga gn gc, .int .i64 E]) word k E) (hb : Bx w b (.slice none 0 0) v) (x : Value) : ∀ i, Told B (w.setCell ⟨b, i, none⟩ x) (.agg #[.slice ga gn gc, .int .i64 E]) word k E := by
  intro i
  rcases h with h | ⟨h0, b', h1, h2, h3, h4⟩
  · exact .inl h
  · have hne : b' ≠ b := fun e => by
      rw [e, hb.c0] at h3
      cases h3
    have hk : ∀ o, (⟨b', o, none⟩ : Addr).block ≠ (⟨b, i, none⟩ : Addr).block := fun o => hne
    exact .inr ⟨h0, b', h1, h2, by rw [World.cell?_of_block (Below.heap_setCell _ _ _ _ (hk 0))]; exact h3, by rw [World.cell?_of_block (Below.heap_setCell _ _ _ _ (hk 1))]; exact h4⟩

structure QS (W : World) (x0 xb b7 b9 b10 b11 b13 b14 : Nat) (v0 v1 v7 v9 v10 v11 v13 v14 : Value) (ka kb K1 K2 : Int) (E1 E2 : Nat) : Prop where
  q0 : Bx W x0 v0 (.int .i64 ka)
  q1 : Bx W xb v1 (.int .i64 kb)
  q7 : Bx W b7 v7 (.int .i64 K1)
  q9 : Bx W b9 v9 (.int .i64 K1)
  q10 : Bx W b10 v10 (.int .i64 E1)
  q11 : Bx W b11 v11 (.int .i64 K2)
  q13 : Bx W b13 v13 (.int .i64 K2)
  q14 : Bx W b14 v14 (.int .i64 E2)
theorem QS.keep {W W' : World} {x0 xb b7 b9 b10 b11 b13 b14 : Nat} {v0 v1 v7 v9 v10 v11 v13 v14 : Value} {ka kb K1 K2 : Int} {E1 E2 : Nat} (h : QS W x0 xb b7 b9 b10 b11 b13 b14 v0 v1 v7 v9 v10 v11 v13 v14 ka kb K1 K2 E1 E2) (hb : Below W.heap.size W W') : QS W' x0 xb b7 b9 b10 b11 b13 b14 v0 v1 v7 v9 v10 v11 v13 v14 ka kb K1 K2 E1 E2 :=
  ⟨h.q0.keep hb, h.q1.keep hb, h.q7.keep hb, h.q9.keep hb, h.q10.keep hb, h.q11.keep hb, h.q13.keep hb, h.q14.keep hb⟩

set_option maxHeartbeats 32000000 in
set_option maxRecDepth 1000000 in
theorem formSums_walk (w : World) (av bv : Value) (a b : List Int) (ka kb k : Int) (hG : Glob w) (hT : Tab w) (ha : Ints w av a) (hb : Ints w bv b) (ra : Rng a) (rb : Rng b) (ia : In64 ka) (ib : In64 kb) (ik : In64 k) :
    Calls Tryd.prog 3 #[formV av ka, formV bv kb, .int .i64 k] w fun e w' => e = .returned (.bool true) ∧ Below w.heap.size w w' := by
  have HO := hide (And.intro ha hb)
  have HR := hide (And.intro ra (And.intro rb (And.intro ia (And.intro ib ik))))
  obtain ⟨aa, ac, rfl⟩ := ha.shape
  obtain ⟨ba, bc, rfl⟩ := hb.shape
  have hb0 := alloc_below w (.cells #[.slice aa a.length ac, .int .i64 ka] FmT)
  have hb1 := alloc_below (w.alloc (.cells #[.slice aa a.length ac, .int .i64 ka] FmT)) (.cells #[.slice ba b.length bc, .int .i64 kb] FmT)
  have hx0 := (Bx.new w (.slice aa a.length ac) (.int .i64 ka) FmT).keep hb1
  have hx1 := Bx.new (w.alloc (.cells #[.slice aa a.length ac, .int .i64 ka] FmT)) (.slice ba b.length bc) (.int .i64 kb) FmT
  rw [size_ac] at hx1
  have HKN := hide (known_any ((w.alloc (.cells #[.slice aa a.length ac, .int .i64 ka] FmT)).alloc (.cells #[.slice ba b.length bc, .int .i64 kb] FmT)) (hG.below (bthen hb0 hb1)) (hT.below (bthen hb0 hb1)))
  have HK0 := hide (And.intro (bthen hb0 hb1) (And.intro hx0 hx1))
  have HG := hide hG
  clear ha hb ra rb ia ib ik hb0 hb1 hx0 hx1 hG hT
  generalize hna : a.length = n at *
  generalize hnb : b.length = m at *
  have HLS := hide (And.intro hna hnb)
  clear hna hnb
  have HFA := hide (fun W => few_any W aa n ac ka)
  have HFB := hide (fun W => few_any W ba m bc kb)
  go_enter Tryd.func3, Tryd.ntmps3
  go_wp2_with fail
  generalize (w.alloc (.cells #[.slice aa n ac, .int .i64 ka] FmT)).alloc (.cells #[.slice ba m bc, .int .i64 kb] FmT) = W0 at *
  generalize hxb : w.heap.size + 1 = xb at *
  refine (unhide HKN).mono ?_
  rintro ev w1 ⟨rfl, hb1⟩
  have HK1 := hide (And.intro (bthen (unhide HK0).1 hb1) (And.intro ((unhide HK0).2.1.keep hb1) ((unhide HK0).2.2.keep hb1)))
  clear hb1 HK0 HKN
  obtain ⟨c0, c1, c2, c3, c4⟩ := (unhide HK1).2.1
  go_wp2_with fail
  refine (unhide HFA w1).mono ?_
  rintro ev w2 ⟨rfl, hb2⟩
  have HK2 := hide (And.intro (bthen (unhide HK1).1 hb2) (And.intro ((unhide HK1).2.1.keep hb2) ((unhide HK1).2.2.keep hb2)))
  clear hb2 c0 c1 c2 c3 c4 HK1 HFA
  by_cases h1 : n ≤ 20
  · have d1 : decide ((n : Int) ≤ 20) = true := decide_eq_true (by omega)
    rw [d1]
    obtain ⟨c0, c1, c2, c3, c4⟩ := (unhide HK2).2.2
    go_wp2_with fail
    refine (unhide HFB w2).mono ?_
    rintro ev w3 ⟨rfl, hb3⟩
    have HK3 := hide (And.intro (bthen (unhide HK2).1 hb3) (And.intro ((unhide HK2).2.1.keep hb3) ((unhide HK2).2.2.keep hb3)))
    clear hb3 c0 c1 c2 c3 c4 HK2 HFB
    by_cases h2 : m ≤ 20
    · have d2 : decide ((m : Int) ≤ 20) = true := decide_eq_true (by omega)
      rw [d2]
      have HAD := hide (fun W (hW : Below w.heap.size w W) => linAdd_any W (.slice aa n ac) (.slice ba m bc) a b ka kb ((unhide HO).1.below hW) ((unhide HO).2.below hW) (unhide HR).1 (unhide HR).2.1 (unhide HR).2.2.1 (unhide HR).2.2.2.1 (by rw [(unhide HLS).1]; omega) (by rw [(unhide HLS).2]; omega))
      have HAD' := hide (fun W (hW : Below w.heap.size w W) => refAddF_any W (.slice aa n ac) (.slice ba m bc) a b ka kb ((unhide HO).1.below hW) ((unhide HO).2.below hW) (unhide HR).1 (unhide HR).2.1 (unhide HR).2.2.1 (unhide HR).2.2.2.1 (by rw [(unhide HLS).1]; omega) (by rw [(unhide HLS).2]; omega))
      have HSC := hide (fun W (hW : Below w.heap.size w W) => linScale_any W (.slice aa n ac) a ka k ((unhide HO).1.below hW) (unhide HR).1 (unhide HR).2.2.1 (unhide HR).2.2.2.2 (by rw [(unhide HLS).1]; omega))
      have HSC' := hide (fun W (hW : Below w.heap.size w W) => refScaleF_any W (.slice aa n ac) a ka k ((unhide HO).1.below hW) (unhide HR).1 (unhide HR).2.2.1 (unhide HR).2.2.2.2 (by rw [(unhide HLS).1]; omega))
      have HC1 : Hid ((addC a b ka kb).length ≤ 1000) := hide (by
        unfold addC
        split
        · rename_i h
          have hl : a.length = b.length := Decidable.byContradiction fun e => by
            have := (addE_ne (a := a) (b := b) (ka := ka) (kb := kb) e).1
            omega
          rw [sumL_len a b hl, (unhide HLS).1]; omega
        · simp)
      have HC2 : Hid ((mulC a ka k).length ≤ 1000) := hide (by
        unfold mulC
        split
        · rw [mulL_len, (unhide HLS).1]; omega
        · simp)
      generalize addE a b ka kb = E1 at *
      generalize addC a b ka kb = C1 at *
      generalize addK a b ka kb = K1 at *
      generalize mulE a ka k = E2 at *
      generalize mulC a ka k = C2 at *
      generalize mulK a ka k = K2 at *
      obtain ⟨c0, c1, c2, c3, c4⟩ := (unhide HK3).2.1
      obtain ⟨d0, d1', d2', d3, d4⟩ := (unhide HK3).2.2
      go_upto_region 6 with (go_at_call 11; refine (unhide HAD w3 (unhide HK3).1).mono ?_; rintro ev w4 ⟨cv, f1, rfl, hi1, hs1, hb4⟩; obtain ⟨sa, sc, rfl⟩ := hi1.shape)
      have hal := alloc_below w4 (.cells #[.slice sa C1.length sc, .int .i64 K1] FmT)
      have HK4 : Hid (Below w.heap.size w (w4.alloc (.cells #[.slice sa C1.length sc, .int .i64 K1] FmT)) ∧ Bx (w4.alloc (.cells #[.slice sa C1.length sc, .int .i64 K1] FmT)) w.heap.size (.slice aa n ac) (.int .i64 ka) ∧ Bx (w4.alloc (.cells #[.slice sa C1.length sc, .int .i64 K1] FmT)) xb (.slice ba m bc) (.int .i64 kb) ∧ Bx (w4.alloc (.cells #[.slice sa C1.length sc, .int .i64 K1] FmT)) w4.heap.size (.slice sa C1.length sc) (.int .i64 K1) ∧ Ints (w4.alloc (.cells #[.slice sa C1.length sc, .int .i64 K1] FmT)) (.slice sa C1.length sc) C1 ∧ Says 0 (w4.alloc (.cells #[.slice sa C1.length sc, .int .i64 K1] FmT)) f1 wForm 0 E1) := hide ⟨bthen (unhide HK3).1 (bthen hb4 hal), (unhide HK3).2.1.keep (bthen hb4 hal), (unhide HK3).2.2.keep (bthen hb4 hal), Bx.new _ _ _ _, hi1.below hal, (hs1.mono (Nat.zero_le _)).below hal⟩
      clear c0 c1 c2 c3 c4 d0 d1' d2' d3 d4 hi1 hs1 hb4 hal HK3 HAD
      generalize w4.alloc (.cells #[.slice sa C1.length sc, .int .i64 K1] FmT) = w6 at *
      generalize w4.heap.size = b7 at *
      go_cut [9, 10] (fun s9 s10 wx => ∃ b9 b10 ca cc g gn gc, s9 = .pointer (some ⟨b9, 0, none⟩) ∧ s10 = .pointer (some ⟨b10, 0, none⟩) ∧ Hid (Below w6.heap.size w6 wx ∧ Bx wx b9 (.slice ca C1.length cc) (.int .i64 K1) ∧ Ints wx (.slice ca C1.length cc) C1 ∧ Bx wx b10 (.slice g gn gc) (.int .i64 E1) ∧ Told 0 wx (.agg #[.slice g gn gc, .int .i64 E1]) wForm 0 E1))
      case first =>
        have hd : Below w6.heap.size w6 w6.drew := below_drewN (Below.refl _ _) 1
        have HB := hide hd
        refine wp_regionE (fun W => Bx W w.heap.size (.slice aa n ac) (.int .i64 ka) ∧ Bx W xb (.slice ba m bc) (.int .i64 kb)) (fun j => decide (j < 11)) (by kernel_rfl) ⟨(unhide HK4).2.1.keep hd, (unhide HK4).2.2.1.keep hd⟩ (fun hS => ?_)
        clear hd
        generalize w6.drew = w7 at *
        refine anyE_take 0 (v := ?_) rfl (by kernel_rfl) (by kernel_rfl) (by kernel_rfl) (by kernel_rfl) (fun _ _ _ h => h) hS (Or.inl ⟨by rfl, ?_⟩) ?_
        rotate_left
        · intro w' hS'
          obtain ⟨⟨e0, e1, _, _, _⟩, ⟨g0, g1, _, _, _⟩⟩ := hS'
          go_simp
          try with_reducible rfl
        try simp only [List.getElem_toArray, List.getElem_cons_zero, Act.put, List.setIfInBounds_toArray, List.set_cons_zero, List.set_cons_succ]
        refine anyE_take 2 (v := ?_) rfl (by kernel_rfl) (by kernel_rfl) (by kernel_rfl) (by kernel_rfl) (fun _ _ _ h => h) hS (Or.inl ⟨by rfl, ?_⟩) ?_
        rotate_left
        · intro w' hS'
          obtain ⟨⟨e0, e1, _, _, _⟩, ⟨g0, g1, _, _, _⟩⟩ := hS'
          go_simp
          try with_reducible rfl
        try simp only [List.getElem_toArray, List.getElem_cons_succ, List.getElem_cons_zero, Act.put, List.setIfInBounds_toArray, List.set_cons_zero, List.set_cons_succ]
        refine anyE_ready [1, 8, 9] (by kernel_rfl) (by simp) (ReadyE.cons rfl (fun K' hK => ?_) (ReadyE.cons rfl (fun K' hK => ?_) (ReadyE.cons rfl (fun K' hK => ?_) ReadyE.nil)))
        ·
          go_simp
          go_at_call 13
          refine (ofF_any w7 aa n ac ka).mono ?_
          rintro ev W8 ⟨rfl, hb⟩
          dsimp only
          try go_simp
          have hS2 : Bx W8 w.heap.size (.slice aa n ac) (.int .i64 ka) ∧ Bx W8 xb (.slice ba m bc) (.int .i64 kb) := ⟨hS.1.keep hb, hS.2.keep hb⟩
          have HBn := hide (bthen (unhide HB) hb)
          refine hK _ _ (fun _ => hS2) ?_
          clear hK K' hS HB hb
          try simp only [List.getElem_toArray, List.getElem_cons_succ, List.getElem_cons_zero, Act.put, List.setIfInBounds_toArray, List.set_cons_zero, List.set_cons_succ]
          have hS := hS2
          have HB := HBn
          clear hS2 HBn
          refine anyE_ready [3, 8, 9] (by kernel_rfl) (by simp) (ReadyE.cons rfl (fun K' hK => ?_) (ReadyE.cons rfl (fun K' hK => ?_) (ReadyE.cons rfl (fun K' hK => ?_) ReadyE.nil)))
          ·
            go_simp
            go_at_call 13
            refine (ofF_any W8 ba m bc kb).mono ?_
            rintro ev W9 ⟨rfl, hb⟩
            dsimp only
            try go_simp
            have hS2 : Bx W9 w.heap.size (.slice aa n ac) (.int .i64 ka) ∧ Bx W9 xb (.slice ba m bc) (.int .i64 kb) := ⟨hS.1.keep hb, hS.2.keep hb⟩
            have HBn := hide (bthen (unhide HB) hb)
            refine hK _ _ (fun _ => hS2) ?_
            clear hK K' hS HB hb
            try simp only [List.getElem_toArray, List.getElem_cons_succ, List.getElem_cons_zero, Act.put, List.setIfInBounds_toArray, List.set_cons_zero, List.set_cons_succ]
            have hS := hS2
            have HB := HBn
            clear hS2 HBn
            refine anyE_ready [4, 8, 9] (by kernel_rfl) (by simp) (ReadyE.cons rfl (fun K' hK => ?_) (ReadyE.cons rfl (fun K' hK => ?_) (ReadyE.cons rfl (fun K' hK => ?_) ReadyE.nil)))
            ·
              go_simp
              go_at_call 12
              refine (unhide HAD' W9 (bthen (unhide HK4).1 (unhide HB))).mono ?_
              rintro ev W10 ⟨cv, g, gn, gc, rfl, hic, hfr, htd0, hb⟩
              have htd : Told 0 W10 (.agg #[.slice g gn gc, .int .i64 E1]) wForm 0 E1 := htd0.mono (Nat.zero_le _)
              clear htd0
              obtain ⟨ca, cc, rfl⟩ := hic.shape
              dsimp only
              try go_simp
              clear hfr
              have hS2 : Bx W10 w.heap.size (.slice aa n ac) (.int .i64 ka) ∧ Bx W10 xb (.slice ba m bc) (.int .i64 kb) := ⟨hS.1.keep hb, hS.2.keep hb⟩
              have HBn := hide (bthen (unhide HB) hb)
              refine hK _ _ (fun _ => hS2) ?_
              clear hK K' hS HB hb
              try simp only [List.getElem_toArray, List.getElem_cons_succ, List.getElem_cons_zero, Act.put, List.setIfInBounds_toArray, List.set_cons_zero, List.set_cons_succ]
              have hS := hS2
              have HB := HBn
              clear hS2 HBn
              refine anyE_take 5 (v := ?_) rfl (by kernel_rfl) (by kernel_rfl) (by kernel_rfl) (by kernel_rfl) (fun _ _ _ h => h) hS (Or.inl ⟨by rfl, ?_⟩) ?_
              rotate_left
              · intro w' hS'
                obtain ⟨⟨e0, e1, _, _, _⟩, ⟨g0, g1, _, _, _⟩⟩ := hS'
                go_simp
                try with_reducible rfl
              try simp only [List.getElem_toArray, List.getElem_cons_succ, List.getElem_cons_zero, Act.put, List.setIfInBounds_toArray, List.set_cons_zero, List.set_cons_succ]
              refine anyE_take 6 (v := ?_) rfl (by kernel_rfl) (by kernel_rfl) (by kernel_rfl) (by kernel_rfl) (fun _ _ _ h => h) hS (Or.inl ⟨by rfl, ?_⟩) ?_
              rotate_left
              · intro w' hS'
                obtain ⟨⟨e0, e1, _, _, _⟩, ⟨g0, g1, _, _, _⟩⟩ := hS'
                go_simp
                try with_reducible rfl
              try simp only [List.getElem_toArray, List.getElem_cons_succ, List.getElem_cons_zero, Act.put, List.setIfInBounds_toArray, List.set_cons_zero, List.set_cons_succ]
              refine anyE_take 7 (v := ?_) rfl (by kernel_rfl) (by kernel_rfl) (by kernel_rfl) (by kernel_rfl) (fun _ _ _ h => h) hS (Or.inl ⟨by rfl, ?_⟩) ?_
              rotate_left
              · intro w' hS'
                obtain ⟨⟨e0, e1, _, _, _⟩, ⟨g0, g1, _, _, _⟩⟩ := hS'
                go_simp
                try with_reducible rfl
              try simp only [List.getElem_toArray, List.getElem_cons_succ, List.getElem_cons_zero, Act.put, List.setIfInBounds_toArray, List.set_cons_zero, List.set_cons_succ]
              refine anyE_ready [8, 9] (by kernel_rfl) (by simp) (ReadyE.cons rfl (fun K' hK => ?_) (ReadyE.cons rfl (fun K' hK => ?_) ReadyE.nil))
              ·
                go_simp
                have hb := alloc_below W10 (.cells #[.slice none 0 0, .int .i64 0] RfT)
                have hnew := Bx.new W10 (.slice none 0 0) (.int .i64 0) RfT
                have hge := (unhide HB).size
                have hNb9 : C1 ≠ [] → ∀ b o m c, Value.slice ca C1.length cc = .slice (some ⟨b, o, none⟩) m c → W10.heap.size ≠ b := fun hne b o m c hv e => by have := hic.blt hne hv; omega
                have hic2 := hic.below hb
                have htd2 := htd.below hb
                clear hic htd
                have hic := hic2
                have htd := htd2
                clear hic2 htd2
                have hS2 : Bx (W10.alloc (.cells #[.slice none 0 0, .int .i64 0] RfT)) w.heap.size (.slice aa n ac) (.int .i64 ka) ∧ Bx (W10.alloc (.cells #[.slice none 0 0, .int .i64 0] RfT)) xb (.slice ba m bc) (.int .i64 kb) := ⟨hS.1.keep hb, hS.2.keep hb⟩
                have HBn := hide (bthen (unhide HB) hb)
                refine hK _ _ (fun _ => hS2) ?_
                clear hK K' hS HB hb
                try simp only [List.getElem_toArray, List.getElem_cons_succ, List.getElem_cons_zero, Act.put, List.setIfInBounds_toArray, List.set_cons_zero, List.set_cons_succ]
                have hS := hS2
                have HB := HBn
                clear hS2 HBn
                generalize W10.alloc (.cells #[.slice none 0 0, .int .i64 0] RfT) = W11 at *
                generalize W10.heap.size = b9 at *
                have h9 := hnew
                have hgb9 := hge
                clear hnew hge
                refine anyE_ready [9] (by kernel_rfl) (by simp) (ReadyE.cons rfl (fun K' hK => ?_) ReadyE.nil)
                ·
                  go_simp
                  have hb := alloc_below W11 (.cells #[.slice none 0 0, .int .i64 0] WrT)
                  have hnew := Bx.new W11 (.slice none 0 0) (.int .i64 0) WrT
                  have hge := (unhide HB).size
                  have hNb10 : C1 ≠ [] → ∀ b o m c, Value.slice ca C1.length cc = .slice (some ⟨b, o, none⟩) m c → W11.heap.size ≠ b := fun hne b o m c hv e => by have := hic.blt hne hv; omega
                  have hd9 : W11.heap.size ≠ b9 := Nat.ne_of_gt h9.lt
                  have h9b := h9.keep hb
                  clear h9
                  have h9 := h9b
                  clear h9b
                  have hic2 := hic.below hb
                  have htd2 := htd.below hb
                  clear hic htd
                  have hic := hic2
                  have htd := htd2
                  clear hic2 htd2
                  have hS2 : Bx (W11.alloc (.cells #[.slice none 0 0, .int .i64 0] WrT)) w.heap.size (.slice aa n ac) (.int .i64 ka) ∧ Bx (W11.alloc (.cells #[.slice none 0 0, .int .i64 0] WrT)) xb (.slice ba m bc) (.int .i64 kb) := ⟨hS.1.keep hb, hS.2.keep hb⟩
                  have HBn := hide (bthen (unhide HB) hb)
                  refine hK _ _ (fun _ => hS2) ?_
                  clear hK K' hS HB hb
                  try simp only [List.getElem_toArray, List.getElem_cons_succ, List.getElem_cons_zero, Act.put, List.setIfInBounds_toArray, List.set_cons_zero, List.set_cons_succ]
                  have hS := hS2
                  have HB := HBn
                  clear hS2 HBn
                  generalize W11.alloc (.cells #[.slice none 0 0, .int .i64 0] WrT) = W12 at *
                  generalize W11.heap.size = b10 at *
                  have h10 := hnew
                  have hgb10 := hge
                  clear hnew hge
                  obtain ⟨f0, f1', f2, f3, f4⟩ := h9
                  have h9 := Bx.mk f0 f1' f2 f3 f4
                  refine anyE_ready [10] (by kernel_rfl) (by simp) (ReadyE.cons rfl (fun K' hK => ?_) ReadyE.nil)
                  go_simp
                  have hic2 := (hic.otherN ⟨b9, 0, none⟩ (.slice ca C1.length cc) hNb9).otherN ⟨b9, 1, none⟩ (.int .i64 K1) hNb9
                  have htd2 := htd.otherN h9 (.slice ca C1.length cc) (.int .i64 K1)
                  have h9b := (h9.set0 (.slice ca C1.length cc)).set1 (.int .i64 K1)
                  have hd9' : b9 ≠ b10 := by first | exact hd9 | exact Ne.symm hd9
                  have h10b := (h10.other ⟨b9, 0, none⟩ hd9' (.slice ca C1.length cc)).other ⟨b9, 1, none⟩ hd9' (.int .i64 K1)
                  have HB2 := hide (((unhide HB).setCell (p := ⟨b9, 0, none⟩) hgb9 (.slice ca C1.length cc)).setCell (p := ⟨b9, 1, none⟩) hgb9 (.int .i64 K1))
                  have k1 : b9 ≠ w.heap.size := by have := (unhide HK4).2.1.lt; omega
                  have k2 : b9 ≠ xb := by have := (unhide HK4).2.2.1.lt; omega
                  have hS9 : Bx ((W12.setCell ⟨b9, 0, none⟩ (.slice ca C1.length cc)).setCell ⟨b9, 1, none⟩ (.int .i64 K1)) w.heap.size (.slice aa n ac) (.int .i64 ka) ∧ Bx ((W12.setCell ⟨b9, 0, none⟩ (.slice ca C1.length cc)).setCell ⟨b9, 1, none⟩ (.int .i64 K1)) xb (.slice ba m bc) (.int .i64 kb) := ⟨(hS.1.other ⟨b9, 0, none⟩ k1 _).other ⟨b9, 1, none⟩ k1 _, (hS.2.other ⟨b9, 0, none⟩ k2 _).other ⟨b9, 1, none⟩ k2 _⟩
                  refine hK _ _ (fun _ => hS9) ?_
                  clear hK K' f0 f1' f2 f3 f4 h9 h10 hic htd HB hS k1 k2
                  try simp only [List.getElem_toArray, List.getElem_cons_succ, List.getElem_cons_zero, Act.put, List.setIfInBounds_toArray, List.set_cons_zero, List.set_cons_succ]
                  generalize (W12.setCell ⟨b9, 0, none⟩ (.slice ca C1.length cc)).setCell ⟨b9, 1, none⟩ (.int .i64 K1) = WX at *
                  have hS := hS9
                  clear hS9
                  obtain ⟨f0, f1', f2, f3, f4⟩ := h10b
                  have h10 := Bx.mk f0 f1' f2 f3 f4
                  refine anyE_ready [11] (by kernel_rfl) (by simp) (ReadyE.cons rfl (fun K' hK => ?_) ReadyE.nil)
                  go_simp
                  have HFIN := hide (And.intro (((unhide HB2).setCell (p := ⟨b10, 0, none⟩) hgb10 (.slice g gn gc)).setCell (p := ⟨b10, 1, none⟩) hgb10 (.int .i64 E1)) (And.intro ((h9b.other ⟨b10, 0, none⟩ (Ne.symm hd9') (.slice g gn gc)).other ⟨b10, 1, none⟩ (Ne.symm hd9') (.int .i64 E1)) (And.intro ((hic2.otherN ⟨b10, 0, none⟩ (.slice g gn gc) hNb10).otherN ⟨b10, 1, none⟩ (.int .i64 E1) hNb10) (And.intro ((h10.set0 (.slice g gn gc)).set1 (.int .i64 E1)) (htd2.otherN h10 (.slice g gn gc) (.int .i64 E1))))))
                  refine hK _ _ (fun h => by exact absurd h (by decide)) ?_
                  clear hK K' f0 f1' f2 f3 f4 h10 h9b hic2 htd2 HB2
                  try simp only [List.getElem_toArray, List.getElem_cons_succ, List.getElem_cons_zero, Act.put, List.setIfInBounds_toArray, List.set_cons_zero, List.set_cons_succ]
                  refine anyE_done (by kernel_rfl) ?_ _
                  go_wp2_with fail
                  go_meet
                  case rel => exact ⟨b9, b10, ca, cc, g, gn, gc, rfl, rfl, HFIN⟩
              ·
                go_simp
                have hb := alloc_below W10 (.cells #[.slice none 0 0, .int .i64 0] WrT)
                have hnew := Bx.new W10 (.slice none 0 0) (.int .i64 0) WrT
                have hge := (unhide HB).size
                have hNb10 : C1 ≠ [] → ∀ b o m c, Value.slice ca C1.length cc = .slice (some ⟨b, o, none⟩) m c → W10.heap.size ≠ b := fun hne b o m c hv e => by have := hic.blt hne hv; omega
                have hic2 := hic.below hb
                have htd2 := htd.below hb
                clear hic htd
                have hic := hic2
                have htd := htd2
                clear hic2 htd2
                have hS2 : Bx (W10.alloc (.cells #[.slice none 0 0, .int .i64 0] WrT)) w.heap.size (.slice aa n ac) (.int .i64 ka) ∧ Bx (W10.alloc (.cells #[.slice none 0 0, .int .i64 0] WrT)) xb (.slice ba m bc) (.int .i64 kb) := ⟨hS.1.keep hb, hS.2.keep hb⟩
                have HBn := hide (bthen (unhide HB) hb)
                refine hK _ _ (fun _ => hS2) ?_
                clear hK K' hS HB hb
                try simp only [List.getElem_toArray, List.getElem_cons_succ, List.getElem_cons_zero, Act.put, List.setIfInBounds_toArray, List.set_cons_zero, List.set_cons_succ]
                have hS := hS2
                have HB := HBn
                clear hS2 HBn
                generalize W10.alloc (.cells #[.slice none 0 0, .int .i64 0] WrT) = W11 at *
                generalize W10.heap.size = b10 at *
                have h10 := hnew
                have hgb10 := hge
                clear hnew hge
                refine anyE_ready [8] (by kernel_rfl) (by simp) (ReadyE.cons rfl (fun K' hK => ?_) ReadyE.nil)
                ·
                  go_simp
                  have hb := alloc_below W11 (.cells #[.slice none 0 0, .int .i64 0] RfT)
                  have hnew := Bx.new W11 (.slice none 0 0) (.int .i64 0) RfT
                  have hge := (unhide HB).size
                  have hNb9 : C1 ≠ [] → ∀ b o m c, Value.slice ca C1.length cc = .slice (some ⟨b, o, none⟩) m c → W11.heap.size ≠ b := fun hne b o m c hv e => by have := hic.blt hne hv; omega
                  have hd9 : W11.heap.size ≠ b10 := Nat.ne_of_gt h10.lt
                  have h10b := h10.keep hb
                  clear h10
                  have h10 := h10b
                  clear h10b
                  have hic2 := hic.below hb
                  have htd2 := htd.below hb
                  clear hic htd
                  have hic := hic2
                  have htd := htd2
                  clear hic2 htd2
                  have hS2 : Bx (W11.alloc (.cells #[.slice none 0 0, .int .i64 0] RfT)) w.heap.size (.slice aa n ac) (.int .i64 ka) ∧ Bx (W11.alloc (.cells #[.slice none 0 0, .int .i64 0] RfT)) xb (.slice ba m bc) (.int .i64 kb) := ⟨hS.1.keep hb, hS.2.keep hb⟩
                  have HBn := hide (bthen (unhide HB) hb)
                  refine hK _ _ (fun _ => hS2) ?_
                  clear hK K' hS HB hb
                  try simp only [List.getElem_toArray, List.getElem_cons_succ, List.getElem_cons_zero, Act.put, List.setIfInBounds_toArray, List.set_cons_zero, List.set_cons_succ]
                  have hS := hS2
                  have HB := HBn
                  clear hS2 HBn
                  generalize W11.alloc (.cells #[.slice none 0 0, .int .i64 0] RfT) = W12 at *
                  generalize W11.heap.size = b9 at *
                  have h9 := hnew
                  have hgb9 := hge
                  clear hnew hge
                  obtain ⟨f0, f1', f2, f3, f4⟩ := h9
                  have h9 := Bx.mk f0 f1' f2 f3 f4
                  refine anyE_ready [10] (by kernel_rfl) (by simp) (ReadyE.cons rfl (fun K' hK => ?_) ReadyE.nil)
                  go_simp
                  have hic2 := (hic.otherN ⟨b9, 0, none⟩ (.slice ca C1.length cc) hNb9).otherN ⟨b9, 1, none⟩ (.int .i64 K1) hNb9
                  have htd2 := htd.otherN h9 (.slice ca C1.length cc) (.int .i64 K1)
                  have h9b := (h9.set0 (.slice ca C1.length cc)).set1 (.int .i64 K1)
                  have hd9' : b9 ≠ b10 := by first | exact hd9 | exact Ne.symm hd9
                  have h10b := (h10.other ⟨b9, 0, none⟩ hd9' (.slice ca C1.length cc)).other ⟨b9, 1, none⟩ hd9' (.int .i64 K1)
                  have HB2 := hide (((unhide HB).setCell (p := ⟨b9, 0, none⟩) hgb9 (.slice ca C1.length cc)).setCell (p := ⟨b9, 1, none⟩) hgb9 (.int .i64 K1))
                  have k1 : b9 ≠ w.heap.size := by have := (unhide HK4).2.1.lt; omega
                  have k2 : b9 ≠ xb := by have := (unhide HK4).2.2.1.lt; omega
                  have hS9 : Bx ((W12.setCell ⟨b9, 0, none⟩ (.slice ca C1.length cc)).setCell ⟨b9, 1, none⟩ (.int .i64 K1)) w.heap.size (.slice aa n ac) (.int .i64 ka) ∧ Bx ((W12.setCell ⟨b9, 0, none⟩ (.slice ca C1.length cc)).setCell ⟨b9, 1, none⟩ (.int .i64 K1)) xb (.slice ba m bc) (.int .i64 kb) := ⟨(hS.1.other ⟨b9, 0, none⟩ k1 _).other ⟨b9, 1, none⟩ k1 _, (hS.2.other ⟨b9, 0, none⟩ k2 _).other ⟨b9, 1, none⟩ k2 _⟩
                  refine hK _ _ (fun _ => hS9) ?_
                  clear hK K' f0 f1' f2 f3 f4 h9 h10 hic htd HB hS k1 k2
                  try simp only [List.getElem_toArray, List.getElem_cons_succ, List.getElem_cons_zero, Act.put, List.setIfInBounds_toArray, List.set_cons_zero, List.set_cons_succ]
                  generalize (W12.setCell ⟨b9, 0, none⟩ (.slice ca C1.length cc)).setCell ⟨b9, 1, none⟩ (.int .i64 K1) = WX at *
                  have hS := hS9
                  clear hS9
                  obtain ⟨f0, f1', f2, f3, f4⟩ := h10b
                  have h10 := Bx.mk f0 f1' f2 f3 f4
                  refine anyE_ready [11] (by kernel_rfl) (by simp) (ReadyE.cons rfl (fun K' hK => ?_) ReadyE.nil)
                  go_simp
                  have HFIN := hide (And.intro (((unhide HB2).setCell (p := ⟨b10, 0, none⟩) hgb10 (.slice g gn gc)).setCell (p := ⟨b10, 1, none⟩) hgb10 (.int .i64 E1)) (And.intro ((h9b.other ⟨b10, 0, none⟩ (Ne.symm hd9') (.slice g gn gc)).other ⟨b10, 1, none⟩ (Ne.symm hd9') (.int .i64 E1)) (And.intro ((hic2.otherN ⟨b10, 0, none⟩ (.slice g gn gc) hNb10).otherN ⟨b10, 1, none⟩ (.int .i64 E1) hNb10) (And.intro ((h10.set0 (.slice g gn gc)).set1 (.int .i64 E1)) (htd2.otherN h10 (.slice g gn gc) (.int .i64 E1))))))
                  refine hK _ _ (fun h => by exact absurd h (by decide)) ?_
                  clear hK K' f0 f1' f2 f3 f4 h10 h9b hic2 htd2 HB2
                  try simp only [List.getElem_toArray, List.getElem_cons_succ, List.getElem_cons_zero, Act.put, List.setIfInBounds_toArray, List.set_cons_zero, List.set_cons_succ]
                  refine anyE_done (by kernel_rfl) ?_ _
                  go_wp2_with fail
                  go_meet
                  case rel => exact ⟨b9, b10, ca, cc, g, gn, gc, rfl, rfl, HFIN⟩
            ·
              go_simp
              have hb := alloc_below W9 (.cells #[.slice none 0 0, .int .i64 0] RfT)
              have hnew := Bx.new W9 (.slice none 0 0) (.int .i64 0) RfT
              have hge := (unhide HB).size
              have hS2 : Bx (W9.alloc (.cells #[.slice none 0 0, .int .i64 0] RfT)) w.heap.size (.slice aa n ac) (.int .i64 ka) ∧ Bx (W9.alloc (.cells #[.slice none 0 0, .int .i64 0] RfT)) xb (.slice ba m bc) (.int .i64 kb) := ⟨hS.1.keep hb, hS.2.keep hb⟩
              have HBn := hide (bthen (unhide HB) hb)
              refine hK _ _ (fun _ => hS2) ?_
              clear hK K' hS HB hb
              try simp only [List.getElem_toArray, List.getElem_cons_succ, List.getElem_cons_zero, Act.put, List.setIfInBounds_toArray, List.set_cons_zero, List.set_cons_succ]
              have hS := hS2
              have HB := HBn
              clear hS2 HBn
              generalize W9.alloc (.cells #[.slice none 0 0, .int .i64 0] RfT) = W10 at *
              generalize W9.heap.size = b9 at *
              have h9 := hnew
              have hgb9 := hge
              clear hnew hge
              refine anyE_ready [4, 9] (by kernel_rfl) (by simp) (ReadyE.cons rfl (fun K' hK => ?_) (ReadyE.cons rfl (fun K' hK => ?_) ReadyE.nil))
              ·
                go_simp
                go_at_call 12
                refine (unhide HAD' W10 (bthen (unhide HK4).1 (unhide HB))).mono ?_
                rintro ev W11 ⟨cv, g, gn, gc, rfl, hic, hfr, htd0, hb⟩
                have htd : Told 0 W11 (.agg #[.slice g gn gc, .int .i64 E1]) wForm 0 E1 := htd0.mono (Nat.zero_le _)
                clear htd0
                obtain ⟨ca, cc, rfl⟩ := hic.shape
                dsimp only
                try go_simp
                have hNb9 : C1 ≠ [] → ∀ b o m c, Value.slice ca C1.length cc = .slice (some ⟨b, o, none⟩) m c → b9 ≠ b := fun _ b o m c hv e => by have h1 := hfr b o m c hv; have h2 := h9.lt; omega
                clear hfr
                have h9b := h9.keep hb
                clear h9
                have h9 := h9b
                clear h9b
                have hS2 : Bx W11 w.heap.size (.slice aa n ac) (.int .i64 ka) ∧ Bx W11 xb (.slice ba m bc) (.int .i64 kb) := ⟨hS.1.keep hb, hS.2.keep hb⟩
                have HBn := hide (bthen (unhide HB) hb)
                refine hK _ _ (fun _ => hS2) ?_
                clear hK K' hS HB hb
                try simp only [List.getElem_toArray, List.getElem_cons_succ, List.getElem_cons_zero, Act.put, List.setIfInBounds_toArray, List.set_cons_zero, List.set_cons_succ]
                have hS := hS2
                have HB := HBn
                clear hS2 HBn
                refine anyE_take 5 (v := ?_) rfl (by kernel_rfl) (by kernel_rfl) (by kernel_rfl) (by kernel_rfl) (fun _ _ _ h => h) hS (Or.inl ⟨by rfl, ?_⟩) ?_
                rotate_left
                · intro w' hS'
                  obtain ⟨⟨e0, e1, _, _, _⟩, ⟨g0, g1, _, _, _⟩⟩ := hS'
                  go_simp
                  try with_reducible rfl
                try simp only [List.getElem_toArray, List.getElem_cons_succ, List.getElem_cons_zero, Act.put, List.setIfInBounds_toArray, List.set_cons_zero, List.set_cons_succ]
                refine anyE_take 6 (v := ?_) rfl (by kernel_rfl) (by kernel_rfl) (by kernel_rfl) (by kernel_rfl) (fun _ _ _ h => h) hS (Or.inl ⟨by rfl, ?_⟩) ?_
                rotate_left
                · intro w' hS'
                  obtain ⟨⟨e0, e1, _, _, _⟩, ⟨g0, g1, _, _, _⟩⟩ := hS'
                  go_simp
                  try with_reducible rfl
                try simp only [List.getElem_toArray, List.getElem_cons_succ, List.getElem_cons_zero, Act.put, List.setIfInBounds_toArray, List.set_cons_zero, List.set_cons_succ]
                refine anyE_take 7 (v := ?_) rfl (by kernel_rfl) (by kernel_rfl) (by kernel_rfl) (by kernel_rfl) (fun _ _ _ h => h) hS (Or.inl ⟨by rfl, ?_⟩) ?_
                rotate_left
                · intro w' hS'
                  obtain ⟨⟨e0, e1, _, _, _⟩, ⟨g0, g1, _, _, _⟩⟩ := hS'
                  go_simp
                  try with_reducible rfl
                try simp only [List.getElem_toArray, List.getElem_cons_succ, List.getElem_cons_zero, Act.put, List.setIfInBounds_toArray, List.set_cons_zero, List.set_cons_succ]
                refine anyE_ready [9] (by kernel_rfl) (by simp) (ReadyE.cons rfl (fun K' hK => ?_) ReadyE.nil)
                ·
                  go_simp
                  have hb := alloc_below W11 (.cells #[.slice none 0 0, .int .i64 0] WrT)
                  have hnew := Bx.new W11 (.slice none 0 0) (.int .i64 0) WrT
                  have hge := (unhide HB).size
                  have hNb10 : C1 ≠ [] → ∀ b o m c, Value.slice ca C1.length cc = .slice (some ⟨b, o, none⟩) m c → W11.heap.size ≠ b := fun hne b o m c hv e => by have := hic.blt hne hv; omega
                  have hd9 : W11.heap.size ≠ b9 := Nat.ne_of_gt h9.lt
                  have h9b := h9.keep hb
                  clear h9
                  have h9 := h9b
                  clear h9b
                  have hic2 := hic.below hb
                  have htd2 := htd.below hb
                  clear hic htd
                  have hic := hic2
                  have htd := htd2
                  clear hic2 htd2
                  have hS2 : Bx (W11.alloc (.cells #[.slice none 0 0, .int .i64 0] WrT)) w.heap.size (.slice aa n ac) (.int .i64 ka) ∧ Bx (W11.alloc (.cells #[.slice none 0 0, .int .i64 0] WrT)) xb (.slice ba m bc) (.int .i64 kb) := ⟨hS.1.keep hb, hS.2.keep hb⟩
                  have HBn := hide (bthen (unhide HB) hb)
                  refine hK _ _ (fun _ => hS2) ?_
                  clear hK K' hS HB hb
                  try simp only [List.getElem_toArray, List.getElem_cons_succ, List.getElem_cons_zero, Act.put, List.setIfInBounds_toArray, List.set_cons_zero, List.set_cons_succ]
                  have hS := hS2
                  have HB := HBn
                  clear hS2 HBn
                  generalize W11.alloc (.cells #[.slice none 0 0, .int .i64 0] WrT) = W12 at *
                  generalize W11.heap.size = b10 at *
                  have h10 := hnew
                  have hgb10 := hge
                  clear hnew hge
                  obtain ⟨f0, f1', f2, f3, f4⟩ := h9
                  have h9 := Bx.mk f0 f1' f2 f3 f4
                  refine anyE_ready [10] (by kernel_rfl) (by simp) (ReadyE.cons rfl (fun K' hK => ?_) ReadyE.nil)
                  go_simp
                  have hic2 := (hic.otherN ⟨b9, 0, none⟩ (.slice ca C1.length cc) hNb9).otherN ⟨b9, 1, none⟩ (.int .i64 K1) hNb9
                  have htd2 := htd.otherN h9 (.slice ca C1.length cc) (.int .i64 K1)
                  have h9b := (h9.set0 (.slice ca C1.length cc)).set1 (.int .i64 K1)
                  have hd9' : b9 ≠ b10 := by first | exact hd9 | exact Ne.symm hd9
                  have h10b := (h10.other ⟨b9, 0, none⟩ hd9' (.slice ca C1.length cc)).other ⟨b9, 1, none⟩ hd9' (.int .i64 K1)
                  have HB2 := hide (((unhide HB).setCell (p := ⟨b9, 0, none⟩) hgb9 (.slice ca C1.length cc)).setCell (p := ⟨b9, 1, none⟩) hgb9 (.int .i64 K1))
                  have k1 : b9 ≠ w.heap.size := by have := (unhide HK4).2.1.lt; omega
                  have k2 : b9 ≠ xb := by have := (unhide HK4).2.2.1.lt; omega
                  have hS9 : Bx ((W12.setCell ⟨b9, 0, none⟩ (.slice ca C1.length cc)).setCell ⟨b9, 1, none⟩ (.int .i64 K1)) w.heap.size (.slice aa n ac) (.int .i64 ka) ∧ Bx ((W12.setCell ⟨b9, 0, none⟩ (.slice ca C1.length cc)).setCell ⟨b9, 1, none⟩ (.int .i64 K1)) xb (.slice ba m bc) (.int .i64 kb) := ⟨(hS.1.other ⟨b9, 0, none⟩ k1 _).other ⟨b9, 1, none⟩ k1 _, (hS.2.other ⟨b9, 0, none⟩ k2 _).other ⟨b9, 1, none⟩ k2 _⟩
                  refine hK _ _ (fun _ => hS9) ?_
                  clear hK K' f0 f1' f2 f3 f4 h9 h10 hic htd HB hS k1 k2
                  try simp only [List.getElem_toArray, List.getElem_cons_succ, List.getElem_cons_zero, Act.put, List.setIfInBounds_toArray, List.set_cons_zero, List.set_cons_succ]
                  generalize (W12.setCell ⟨b9, 0, none⟩ (.slice ca C1.length cc)).setCell ⟨b9, 1, none⟩ (.int .i64 K1) = WX at *
                  have hS := hS9
                  clear hS9
                  obtain ⟨f0, f1', f2, f3, f4⟩ := h10b
                  have h10 := Bx.mk f0 f1' f2 f3 f4
                  refine anyE_ready [11] (by kernel_rfl) (by simp) (ReadyE.cons rfl (fun K' hK => ?_) ReadyE.nil)
                  go_simp
                  have HFIN := hide (And.intro (((unhide HB2).setCell (p := ⟨b10, 0, none⟩) hgb10 (.slice g gn gc)).setCell (p := ⟨b10, 1, none⟩) hgb10 (.int .i64 E1)) (And.intro ((h9b.other ⟨b10, 0, none⟩ (Ne.symm hd9') (.slice g gn gc)).other ⟨b10, 1, none⟩ (Ne.symm hd9') (.int .i64 E1)) (And.intro ((hic2.otherN ⟨b10, 0, none⟩ (.slice g gn gc) hNb10).otherN ⟨b10, 1, none⟩ (.int .i64 E1) hNb10) (And.intro ((h10.set0 (.slice g gn gc)).set1 (.int .i64 E1)) (htd2.otherN h10 (.slice g gn gc) (.int .i64 E1))))))
                  refine hK _ _ (fun h => by exact absurd h (by decide)) ?_
                  clear hK K' f0 f1' f2 f3 f4 h10 h9b hic2 htd2 HB2
                  try simp only [List.getElem_toArray, List.getElem_cons_succ, List.getElem_cons_zero, Act.put, List.setIfInBounds_toArray, List.set_cons_zero, List.set_cons_succ]
                  refine anyE_done (by kernel_rfl) ?_ _
                  go_wp2_with fail
                  go_meet
                  case rel => exact ⟨b9, b10, ca, cc, g, gn, gc, rfl, rfl, HFIN⟩
              ·
                go_simp
                have hb := alloc_below W10 (.cells #[.slice none 0 0, .int .i64 0] WrT)
                have hnew := Bx.new W10 (.slice none 0 0) (.int .i64 0) WrT
                have hge := (unhide HB).size
                have hd9 : W10.heap.size ≠ b9 := Nat.ne_of_gt h9.lt
                have h9b := h9.keep hb
                clear h9
                have h9 := h9b
                clear h9b
                have hS2 : Bx (W10.alloc (.cells #[.slice none 0 0, .int .i64 0] WrT)) w.heap.size (.slice aa n ac) (.int .i64 ka) ∧ Bx (W10.alloc (.cells #[.slice none 0 0, .int .i64 0] WrT)) xb (.slice ba m bc) (.int .i64 kb) := ⟨hS.1.keep hb, hS.2.keep hb⟩
                have HBn := hide (bthen (unhide HB) hb)
                refine hK _ _ (fun _ => hS2) ?_
                clear hK K' hS HB hb
                try simp only [List.getElem_toArray, List.getElem_cons_succ, List.getElem_cons_zero, Act.put, List.setIfInBounds_toArray, List.set_cons_zero, List.set_cons_succ]
                have hS := hS2
                have HB := HBn
                clear hS2 HBn
                generalize W10.alloc (.cells #[.slice none 0 0, .int .i64 0] WrT) = W11 at *
                generalize W10.heap.size = b10 at *
                have h10 := hnew
                have hgb10 := hge
                clear hnew hge
                refine anyE_ready [4] (by kernel_rfl) (by simp) (ReadyE.cons rfl (fun K' hK => ?_) ReadyE.nil)
                ·
                  go_simp
                  go_at_call 12
                  refine (unhide HAD' W11 (bthen (unhide HK4).1 (unhide HB))).mono ?_
                  rintro ev W12 ⟨cv, g, gn, gc, rfl, hic, hfr, htd0, hb⟩
                  have htd : Told 0 W12 (.agg #[.slice g gn gc, .int .i64 E1]) wForm 0 E1 := htd0.mono (Nat.zero_le _)
                  clear htd0
                  obtain ⟨ca, cc, rfl⟩ := hic.shape
                  dsimp only
                  try go_simp
                  have hNb9 : C1 ≠ [] → ∀ b o m c, Value.slice ca C1.length cc = .slice (some ⟨b, o, none⟩) m c → b9 ≠ b := fun _ b o m c hv e => by have h1 := hfr b o m c hv; have h2 := h9.lt; omega
                  have hNb10 : C1 ≠ [] → ∀ b o m c, Value.slice ca C1.length cc = .slice (some ⟨b, o, none⟩) m c → b10 ≠ b := fun _ b o m c hv e => by have h1 := hfr b o m c hv; have h2 := h10.lt; omega
                  clear hfr
                  have h9b := h9.keep hb
                  clear h9
                  have h9 := h9b
                  clear h9b
                  have h10b := h10.keep hb
                  clear h10
                  have h10 := h10b
                  clear h10b
                  have hS2 : Bx W12 w.heap.size (.slice aa n ac) (.int .i64 ka) ∧ Bx W12 xb (.slice ba m bc) (.int .i64 kb) := ⟨hS.1.keep hb, hS.2.keep hb⟩
                  have HBn := hide (bthen (unhide HB) hb)
                  refine hK _ _ (fun _ => hS2) ?_
                  clear hK K' hS HB hb
                  try simp only [List.getElem_toArray, List.getElem_cons_succ, List.getElem_cons_zero, Act.put, List.setIfInBounds_toArray, List.set_cons_zero, List.set_cons_succ]
                  have hS := hS2
                  have HB := HBn
                  clear hS2 HBn
                  refine anyE_take 5 (v := ?_) rfl (by kernel_rfl) (by kernel_rfl) (by kernel_rfl) (by kernel_rfl) (fun _ _ _ h => h) hS (Or.inl ⟨by rfl, ?_⟩) ?_
                  rotate_left
                  · intro w' hS'
                    obtain ⟨⟨e0, e1, _, _, _⟩, ⟨g0, g1, _, _, _⟩⟩ := hS'
                    go_simp
                    try with_reducible rfl
                  try simp only [List.getElem_toArray, List.getElem_cons_succ, List.getElem_cons_zero, Act.put, List.setIfInBounds_toArray, List.set_cons_zero, List.set_cons_succ]
                  refine anyE_take 6 (v := ?_) rfl (by kernel_rfl) (by kernel_rfl) (by kernel_rfl) (by kernel_rfl) (fun _ _ _ h => h) hS (Or.inl ⟨by rfl, ?_⟩) ?_
                  rotate_left
                  · intro w' hS'
                    obtain ⟨⟨e0, e1, _, _, _⟩, ⟨g0, g1, _, _, _⟩⟩ := hS'
                    go_simp
                    try with_reducible rfl
                  try simp only [List.getElem_toArray, List.getElem_cons_succ, List.getElem_cons_zero, Act.put, List.setIfInBounds_toArray, List.set_cons_zero, List.set_cons_succ]
                  refine anyE_take 7 (v := ?_) rfl (by kernel_rfl) (by kernel_rfl) (by kernel_rfl) (by kernel_rfl) (fun _ _ _ h => h) hS (Or.inl ⟨by rfl, ?_⟩) ?_
                  rotate_left
                  · intro w' hS'
                    obtain ⟨⟨e0, e1, _, _, _⟩, ⟨g0, g1, _, _, _⟩⟩ := hS'
                    go_simp
                    try with_reducible rfl
                  try simp only [List.getElem_toArray, List.getElem_cons_succ, List.getElem_cons_zero, Act.put, List.setIfInBounds_toArray, List.set_cons_zero, List.set_cons_succ]
                  obtain ⟨f0, f1', f2, f3, f4⟩ := h9
                  have h9 := Bx.mk f0 f1' f2 f3 f4
                  refine anyE_ready [10] (by kernel_rfl) (by simp) (ReadyE.cons rfl (fun K' hK => ?_) ReadyE.nil)
                  go_simp
                  have hic2 := (hic.otherN ⟨b9, 0, none⟩ (.slice ca C1.length cc) hNb9).otherN ⟨b9, 1, none⟩ (.int .i64 K1) hNb9
                  have htd2 := htd.otherN h9 (.slice ca C1.length cc) (.int .i64 K1)
                  have h9b := (h9.set0 (.slice ca C1.length cc)).set1 (.int .i64 K1)
                  have hd9' : b9 ≠ b10 := by first | exact hd9 | exact Ne.symm hd9
                  have h10b := (h10.other ⟨b9, 0, none⟩ hd9' (.slice ca C1.length cc)).other ⟨b9, 1, none⟩ hd9' (.int .i64 K1)
                  have HB2 := hide (((unhide HB).setCell (p := ⟨b9, 0, none⟩) hgb9 (.slice ca C1.length cc)).setCell (p := ⟨b9, 1, none⟩) hgb9 (.int .i64 K1))
                  have k1 : b9 ≠ w.heap.size := by have := (unhide HK4).2.1.lt; omega
                  have k2 : b9 ≠ xb := by have := (unhide HK4).2.2.1.lt; omega
                  have hS9 : Bx ((W12.setCell ⟨b9, 0, none⟩ (.slice ca C1.length cc)).setCell ⟨b9, 1, none⟩ (.int .i64 K1)) w.heap.size (.slice aa n ac) (.int .i64 ka) ∧ Bx ((W12.setCell ⟨b9, 0, none⟩ (.slice ca C1.length cc)).setCell ⟨b9, 1, none⟩ (.int .i64 K1)) xb (.slice ba m bc) (.int .i64 kb) := ⟨(hS.1.other ⟨b9, 0, none⟩ k1 _).other ⟨b9, 1, none⟩ k1 _, (hS.2.other ⟨b9, 0, none⟩ k2 _).other ⟨b9, 1, none⟩ k2 _⟩
                  refine hK _ _ (fun _ => hS9) ?_
                  clear hK K' f0 f1' f2 f3 f4 h9 h10 hic htd HB hS k1 k2
                  try simp only [List.getElem_toArray, List.getElem_cons_succ, List.getElem_cons_zero, Act.put, List.setIfInBounds_toArray, List.set_cons_zero, List.set_cons_succ]
                  generalize (W12.setCell ⟨b9, 0, none⟩ (.slice ca C1.length cc)).setCell ⟨b9, 1, none⟩ (.int .i64 K1) = WX at *
                  have hS := hS9
                  clear hS9
                  obtain ⟨f0, f1', f2, f3, f4⟩ := h10b
                  have h10 := Bx.mk f0 f1' f2 f3 f4
                  refine anyE_ready [11] (by kernel_rfl) (by simp) (ReadyE.cons rfl (fun K' hK => ?_) ReadyE.nil)
                  go_simp
                  have HFIN := hide (And.intro (((unhide HB2).setCell (p := ⟨b10, 0, none⟩) hgb10 (.slice g gn gc)).setCell (p := ⟨b10, 1, none⟩) hgb10 (.int .i64 E1)) (And.intro ((h9b.other ⟨b10, 0, none⟩ (Ne.symm hd9') (.slice g gn gc)).other ⟨b10, 1, none⟩ (Ne.symm hd9') (.int .i64 E1)) (And.intro ((hic2.otherN ⟨b10, 0, none⟩ (.slice g gn gc) hNb10).otherN ⟨b10, 1, none⟩ (.int .i64 E1) hNb10) (And.intro ((h10.set0 (.slice g gn gc)).set1 (.int .i64 E1)) (htd2.otherN h10 (.slice g gn gc) (.int .i64 E1))))))
                  refine hK _ _ (fun h => by exact absurd h (by decide)) ?_
                  clear hK K' f0 f1' f2 f3 f4 h10 h9b hic2 htd2 HB2
                  try simp only [List.getElem_toArray, List.getElem_cons_succ, List.getElem_cons_zero, Act.put, List.setIfInBounds_toArray, List.set_cons_zero, List.set_cons_succ]
                  refine anyE_done (by kernel_rfl) ?_ _
                  go_wp2_with fail
                  go_meet
                  case rel => exact ⟨b9, b10, ca, cc, g, gn, gc, rfl, rfl, HFIN⟩
            ·
              go_simp
              have hb := alloc_below W9 (.cells #[.slice none 0 0, .int .i64 0] WrT)
              have hnew := Bx.new W9 (.slice none 0 0) (.int .i64 0) WrT
              have hge := (unhide HB).size
              have hS2 : Bx (W9.alloc (.cells #[.slice none 0 0, .int .i64 0] WrT)) w.heap.size (.slice aa n ac) (.int .i64 ka) ∧ Bx (W9.alloc (.cells #[.slice none 0 0, .int .i64 0] WrT)) xb (.slice ba m bc) (.int .i64 kb) := ⟨hS.1.keep hb, hS.2.keep hb⟩
              have HBn := hide (bthen (unhide HB) hb)
              refine hK _ _ (fun _ => hS2) ?_
              clear hK K' hS HB hb
              try simp only [List.getElem_toArray, List.getElem_cons_succ, List.getElem_cons_zero, Act.put, List.setIfInBounds_toArray, List.set_cons_zero, List.set_cons_succ]
              have hS := hS2
              have HB := HBn
              clear hS2 HBn
              generalize W9.alloc (.cells #[.slice none 0 0, .int .i64 0] WrT) = W10 at *
              generalize W9.heap.size = b10 at *
              have h10 := hnew
              have hgb10 := hge
              clear hnew hge
              refine anyE_ready [4, 8] (by kernel_rfl) (by simp) (ReadyE.cons rfl (fun K' hK => ?_) (ReadyE.cons rfl (fun K' hK => ?_) ReadyE.nil))
              ·
                go_simp
                go_at_call 12
                refine (unhide HAD' W10 (bthen (unhide HK4).1 (unhide HB))).mono ?_
                rintro ev W11 ⟨cv, g, gn, gc, rfl, hic, hfr, htd0, hb⟩
                have htd : Told 0 W11 (.agg #[.slice g gn gc, .int .i64 E1]) wForm 0 E1 := htd0.mono (Nat.zero_le _)
                clear htd0
                obtain ⟨ca, cc, rfl⟩ := hic.shape
                dsimp only
                try go_simp
                have hNb10 : C1 ≠ [] → ∀ b o m c, Value.slice ca C1.length cc = .slice (some ⟨b, o, none⟩) m c → b10 ≠ b := fun _ b o m c hv e => by have h1 := hfr b o m c hv; have h2 := h10.lt; omega
                clear hfr
                have h10b := h10.keep hb
                clear h10
                have h10 := h10b
                clear h10b
                have hS2 : Bx W11 w.heap.size (.slice aa n ac) (.int .i64 ka) ∧ Bx W11 xb (.slice ba m bc) (.int .i64 kb) := ⟨hS.1.keep hb, hS.2.keep hb⟩
                have HBn := hide (bthen (unhide HB) hb)
                refine hK _ _ (fun _ => hS2) ?_
                clear hK K' hS HB hb
                try simp only [List.getElem_toArray, List.getElem_cons_succ, List.getElem_cons_zero, Act.put, List.setIfInBounds_toArray, List.set_cons_zero, List.set_cons_succ]
                have hS := hS2
                have HB := HBn
                clear hS2 HBn
                refine anyE_take 5 (v := ?_) rfl (by kernel_rfl) (by kernel_rfl) (by kernel_rfl) (by kernel_rfl) (fun _ _ _ h => h) hS (Or.inl ⟨by rfl, ?_⟩) ?_
                rotate_left
                · intro w' hS'
                  obtain ⟨⟨e0, e1, _, _, _⟩, ⟨g0, g1, _, _, _⟩⟩ := hS'
                  go_simp
                  try with_reducible rfl
                try simp only [List.getElem_toArray, List.getElem_cons_succ, List.getElem_cons_zero, Act.put, List.setIfInBounds_toArray, List.set_cons_zero, List.set_cons_succ]
                refine anyE_take 6 (v := ?_) rfl (by kernel_rfl) (by kernel_rfl) (by kernel_rfl) (by kernel_rfl) (fun _ _ _ h => h) hS (Or.inl ⟨by rfl, ?_⟩) ?_
                rotate_left
                · intro w' hS'
                  obtain ⟨⟨e0, e1, _, _, _⟩, ⟨g0, g1, _, _, _⟩⟩ := hS'
                  go_simp
                  try with_reducible rfl
                try simp only [List.getElem_toArray, List.getElem_cons_succ, List.getElem_cons_zero, Act.put, List.setIfInBounds_toArray, List.set_cons_zero, List.set_cons_succ]
                refine anyE_take 7 (v := ?_) rfl (by kernel_rfl) (by kernel_rfl) (by kernel_rfl) (by kernel_rfl) (fun _ _ _ h => h) hS (Or.inl ⟨by rfl, ?_⟩) ?_
                rotate_left
                · intro w' hS'
                  obtain ⟨⟨e0, e1, _, _, _⟩, ⟨g0, g1, _, _, _⟩⟩ := hS'
                  go_simp
                  try with_reducible rfl
                try simp only [List.getElem_toArray, List.getElem_cons_succ, List.getElem_cons_zero, Act.put, List.setIfInBounds_toArray, List.set_cons_zero, List.set_cons_succ]
                refine anyE_ready [8] (by kernel_rfl) (by simp) (ReadyE.cons rfl (fun K' hK => ?_) ReadyE.nil)
                ·
                  go_simp
                  have hb := alloc_below W11 (.cells #[.slice none 0 0, .int .i64 0] RfT)
                  have hnew := Bx.new W11 (.slice none 0 0) (.int .i64 0) RfT
                  have hge := (unhide HB).size
                  have hNb9 : C1 ≠ [] → ∀ b o m c, Value.slice ca C1.length cc = .slice (some ⟨b, o, none⟩) m c → W11.heap.size ≠ b := fun hne b o m c hv e => by have := hic.blt hne hv; omega
                  have hd9 : W11.heap.size ≠ b10 := Nat.ne_of_gt h10.lt
                  have h10b := h10.keep hb
                  clear h10
                  have h10 := h10b
                  clear h10b
                  have hic2 := hic.below hb
                  have htd2 := htd.below hb
                  clear hic htd
                  have hic := hic2
                  have htd := htd2
                  clear hic2 htd2
                  have hS2 : Bx (W11.alloc (.cells #[.slice none 0 0, .int .i64 0] RfT)) w.heap.size (.slice aa n ac) (.int .i64 ka) ∧ Bx (W11.alloc (.cells #[.slice none 0 0, .int .i64 0] RfT)) xb (.slice ba m bc) (.int .i64 kb) := ⟨hS.1.keep hb, hS.2.keep hb⟩
                  have HBn := hide (bthen (unhide HB) hb)
                  refine hK _ _ (fun _ => hS2) ?_
                  clear hK K' hS HB hb
                  try simp only [List.getElem_toArray, List.getElem_cons_succ, List.getElem_cons_zero, Act.put, List.setIfInBounds_toArray, List.set_cons_zero, List.set_cons_succ]
                  have hS := hS2
                  have HB := HBn
                  clear hS2 HBn
                  generalize W11.alloc (.cells #[.slice none 0 0, .int .i64 0] RfT) = W12 at *
                  generalize W11.heap.size = b9 at *
                  have h9 := hnew
                  have hgb9 := hge
                  clear hnew hge
                  obtain ⟨f0, f1', f2, f3, f4⟩ := h9
                  have h9 := Bx.mk f0 f1' f2 f3 f4
                  refine anyE_ready [10] (by kernel_rfl) (by simp) (ReadyE.cons rfl (fun K' hK => ?_) ReadyE.nil)
                  go_simp
                  have hic2 := (hic.otherN ⟨b9, 0, none⟩ (.slice ca C1.length cc) hNb9).otherN ⟨b9, 1, none⟩ (.int .i64 K1) hNb9
                  have htd2 := htd.otherN h9 (.slice ca C1.length cc) (.int .i64 K1)
                  have h9b := (h9.set0 (.slice ca C1.length cc)).set1 (.int .i64 K1)
                  have hd9' : b9 ≠ b10 := by first | exact hd9 | exact Ne.symm hd9
                  have h10b := (h10.other ⟨b9, 0, none⟩ hd9' (.slice ca C1.length cc)).other ⟨b9, 1, none⟩ hd9' (.int .i64 K1)
                  have HB2 := hide (((unhide HB).setCell (p := ⟨b9, 0, none⟩) hgb9 (.slice ca C1.length cc)).setCell (p := ⟨b9, 1, none⟩) hgb9 (.int .i64 K1))
                  have k1 : b9 ≠ w.heap.size := by have := (unhide HK4).2.1.lt; omega
                  have k2 : b9 ≠ xb := by have := (unhide HK4).2.2.1.lt; omega
                  have hS9 : Bx ((W12.setCell ⟨b9, 0, none⟩ (.slice ca C1.length cc)).setCell ⟨b9, 1, none⟩ (.int .i64 K1)) w.heap.size (.slice aa n ac) (.int .i64 ka) ∧ Bx ((W12.setCell ⟨b9, 0, none⟩ (.slice ca C1.length cc)).setCell ⟨b9, 1, none⟩ (.int .i64 K1)) xb (.slice ba m bc) (.int .i64 kb) := ⟨(hS.1.other ⟨b9, 0, none⟩ k1 _).other ⟨b9, 1, none⟩ k1 _, (hS.2.other ⟨b9, 0, none⟩ k2 _).other ⟨b9, 1, none⟩ k2 _⟩
                  refine hK _ _ (fun _ => hS9) ?_
                  clear hK K' f0 f1' f2 f3 f4 h9 h10 hic htd HB hS k1 k2
                  try simp only [List.getElem_toArray, List.getElem_cons_succ, List.getElem_cons_zero, Act.put, List.setIfInBounds_toArray, List.set_cons_zero, List.set_cons_succ]
                  generalize (W12.setCell ⟨b9, 0, none⟩ (.slice ca C1.length cc)).setCell ⟨b9, 1, none⟩ (.int .i64 K1) = WX at *
                  have hS := hS9
                  clear hS9
                  obtain ⟨f0, f1', f2, f3, f4⟩ := h10b
                  have h10 := Bx.mk f0 f1' f2 f3 f4
                  refine anyE_ready [11] (by kernel_rfl) (by simp) (ReadyE.cons rfl (fun K' hK => ?_) ReadyE.nil)
                  go_simp
                  have HFIN := hide (And.intro (((unhide HB2).setCell (p := ⟨b10, 0, none⟩) hgb10 (.slice g gn gc)).setCell (p := ⟨b10, 1, none⟩) hgb10 (.int .i64 E1)) (And.intro ((h9b.other ⟨b10, 0, none⟩ (Ne.symm hd9') (.slice g gn gc)).other ⟨b10, 1, none⟩ (Ne.symm hd9') (.int .i64 E1)) (And.intro ((hic2.otherN ⟨b10, 0, none⟩ (.slice g gn gc) hNb10).otherN ⟨b10, 1, none⟩ (.int .i64 E1) hNb10) (And.intro ((h10.set0 (.slice g gn gc)).set1 (.int .i64 E1)) (htd2.otherN h10 (.slice g gn gc) (.int .i64 E1))))))
                  refine hK _ _ (fun h => by exact absurd h (by decide)) ?_
                  clear hK K' f0 f1' f2 f3 f4 h10 h9b hic2 htd2 HB2
                  try simp only [List.getElem_toArray, List.getElem_cons_succ, List.getElem_cons_zero, Act.put, List.setIfInBounds_toArray, List.set_cons_zero, List.set_cons_succ]
                  refine anyE_done (by kernel_rfl) ?_ _
                  go_wp2_with fail
                  go_meet
                  case rel => exact ⟨b9, b10, ca, cc, g, gn, gc, rfl, rfl, HFIN⟩
              ·
                go_simp
                have hb := alloc_below W10 (.cells #[.slice none 0 0, .int .i64 0] RfT)
                have hnew := Bx.new W10 (.slice none 0 0) (.int .i64 0) RfT
                have hge := (unhide HB).size
                have hd9 : W10.heap.size ≠ b10 := Nat.ne_of_gt h10.lt
                have h10b := h10.keep hb
                clear h10
                have h10 := h10b
                clear h10b
                have hS2 : Bx (W10.alloc (.cells #[.slice none 0 0, .int .i64 0] RfT)) w.heap.size (.slice aa n ac) (.int .i64 ka) ∧ Bx (W10.alloc (.cells #[.slice none 0 0, .int .i64 0] RfT)) xb (.slice ba m bc) (.int .i64 kb) := ⟨hS.1.keep hb, hS.2.keep hb⟩
                have HBn := hide (bthen (unhide HB) hb)
                refine hK _ _ (fun _ => hS2) ?_
                clear hK K' hS HB hb
                try simp only [List.getElem_toArray, List.getElem_cons_succ, List.getElem_cons_zero, Act.put, List.setIfInBounds_toArray, List.set_cons_zero, List.set_cons_succ]
                have hS := hS2
                have HB := HBn
                clear hS2 HBn
                generalize W10.alloc (.cells #[.slice none 0 0, .int .i64 0] RfT) = W11 at *
                generalize W10.heap.size = b9 at *
                have h9 := hnew
                have hgb9 := hge
                clear hnew hge
                refine anyE_ready [4] (by kernel_rfl) (by simp) (ReadyE.cons rfl (fun K' hK => ?_) ReadyE.nil)
                ·
                  go_simp
                  go_at_call 12
                  refine (unhide HAD' W11 (bthen (unhide HK4).1 (unhide HB))).mono ?_
                  rintro ev W12 ⟨cv, g, gn, gc, rfl, hic, hfr, htd0, hb⟩
                  have htd : Told 0 W12 (.agg #[.slice g gn gc, .int .i64 E1]) wForm 0 E1 := htd0.mono (Nat.zero_le _)
                  clear htd0
                  obtain ⟨ca, cc, rfl⟩ := hic.shape
                  dsimp only
                  try go_simp
                  have hNb9 : C1 ≠ [] → ∀ b o m c, Value.slice ca C1.length cc = .slice (some ⟨b, o, none⟩) m c → b9 ≠ b := fun _ b o m c hv e => by have h1 := hfr b o m c hv; have h2 := h9.lt; omega
                  have hNb10 : C1 ≠ [] → ∀ b o m c, Value.slice ca C1.length cc = .slice (some ⟨b, o, none⟩) m c → b10 ≠ b := fun _ b o m c hv e => by have h1 := hfr b o m c hv; have h2 := h10.lt; omega
                  clear hfr
                  have h9b := h9.keep hb
                  clear h9
                  have h9 := h9b
                  clear h9b
                  have h10b := h10.keep hb
                  clear h10
                  have h10 := h10b
                  clear h10b
                  have hS2 : Bx W12 w.heap.size (.slice aa n ac) (.int .i64 ka) ∧ Bx W12 xb (.slice ba m bc) (.int .i64 kb) := ⟨hS.1.keep hb, hS.2.keep hb⟩
                  have HBn := hide (bthen (unhide HB) hb)
                  refine hK _ _ (fun _ => hS2) ?_
                  clear hK K' hS HB hb
                  try simp only [List.getElem_toArray, List.getElem_cons_succ, List.getElem_cons_zero, Act.put, List.setIfInBounds_toArray, List.set_cons_zero, List.set_cons_succ]
                  have hS := hS2
                  have HB := HBn
                  clear hS2 HBn
                  refine anyE_take 5 (v := ?_) rfl (by kernel_rfl) (by kernel_rfl) (by kernel_rfl) (by kernel_rfl) (fun _ _ _ h => h) hS (Or.inl ⟨by rfl, ?_⟩) ?_
                  rotate_left
                  · intro w' hS'
                    obtain ⟨⟨e0, e1, _, _, _⟩, ⟨g0, g1, _, _, _⟩⟩ := hS'
                    go_simp
                    try with_reducible rfl
                  try simp only [List.getElem_toArray, List.getElem_cons_succ, List.getElem_cons_zero, Act.put, List.setIfInBounds_toArray, List.set_cons_zero, List.set_cons_succ]
                  refine anyE_take 6 (v := ?_) rfl (by kernel_rfl) (by kernel_rfl) (by kernel_rfl) (by kernel_rfl) (fun _ _ _ h => h) hS (Or.inl ⟨by rfl, ?_⟩) ?_
                  rotate_left
                  · intro w' hS'
                    obtain ⟨⟨e0, e1, _, _, _⟩, ⟨g0, g1, _, _, _⟩⟩ := hS'
                    go_simp
                    try with_reducible rfl
                  try simp only [List.getElem_toArray, List.getElem_cons_succ, List.getElem_cons_zero, Act.put, List.setIfInBounds_toArray, List.set_cons_zero, List.set_cons_succ]
                  refine anyE_take 7 (v := ?_) rfl (by kernel_rfl) (by kernel_rfl) (by kernel_rfl) (by kernel_rfl) (fun _ _ _ h => h) hS (Or.inl ⟨by rfl, ?_⟩) ?_
                  rotate_left
                  · intro w' hS'
                    obtain ⟨⟨e0, e1, _, _, _⟩, ⟨g0, g1, _, _, _⟩⟩ := hS'
                    go_simp
                    try with_reducible rfl
                  try simp only [List.getElem_toArray, List.getElem_cons_succ, List.getElem_cons_zero, Act.put, List.setIfInBounds_toArray, List.set_cons_zero, List.set_cons_succ]
                  obtain ⟨f0, f1', f2, f3, f4⟩ := h9
                  have h9 := Bx.mk f0 f1' f2 f3 f4
                  refine anyE_ready [10] (by kernel_rfl) (by simp) (ReadyE.cons rfl (fun K' hK => ?_) ReadyE.nil)
                  go_simp
                  have hic2 := (hic.otherN ⟨b9, 0, none⟩ (.slice ca C1.length cc) hNb9).otherN ⟨b9, 1, none⟩ (.int .i64 K1) hNb9
                  have htd2 := htd.otherN h9 (.slice ca C1.length cc) (.int .i64 K1)
                  have h9b := (h9.set0 (.slice ca C1.length cc)).set1 (.int .i64 K1)
                  have hd9' : b9 ≠ b10 := by first | exact hd9 | exact Ne.symm hd9
                  have h10b := (h10.other ⟨b9, 0, none⟩ hd9' (.slice ca C1.length cc)).other ⟨b9, 1, none⟩ hd9' (.int .i64 K1)
                  have HB2 := hide (((unhide HB).setCell (p := ⟨b9, 0, none⟩) hgb9 (.slice ca C1.length cc)).setCell (p := ⟨b9, 1, none⟩) hgb9 (.int .i64 K1))
                  have k1 : b9 ≠ w.heap.size := by have := (unhide HK4).2.1.lt; omega
                  have k2 : b9 ≠ xb := by have := (unhide HK4).2.2.1.lt; omega
                  have hS9 : Bx ((W12.setCell ⟨b9, 0, none⟩ (.slice ca C1.length cc)).setCell ⟨b9, 1, none⟩ (.int .i64 K1)) w.heap.size (.slice aa n ac) (.int .i64 ka) ∧ Bx ((W12.setCell ⟨b9, 0, none⟩ (.slice ca C1.length cc)).setCell ⟨b9, 1, none⟩ (.int .i64 K1)) xb (.slice ba m bc) (.int .i64 kb) := ⟨(hS.1.other ⟨b9, 0, none⟩ k1 _).other ⟨b9, 1, none⟩ k1 _, (hS.2.other ⟨b9, 0, none⟩ k2 _).other ⟨b9, 1, none⟩ k2 _⟩
                  refine hK _ _ (fun _ => hS9) ?_
                  clear hK K' f0 f1' f2 f3 f4 h9 h10 hic htd HB hS k1 k2
                  try simp only [List.getElem_toArray, List.getElem_cons_succ, List.getElem_cons_zero, Act.put, List.setIfInBounds_toArray, List.set_cons_zero, List.set_cons_succ]
                  generalize (W12.setCell ⟨b9, 0, none⟩ (.slice ca C1.length cc)).setCell ⟨b9, 1, none⟩ (.int .i64 K1) = WX at *
                  have hS := hS9
                  clear hS9
                  obtain ⟨f0, f1', f2, f3, f4⟩ := h10b
                  have h10 := Bx.mk f0 f1' f2 f3 f4
                  refine anyE_ready [11] (by kernel_rfl) (by simp) (ReadyE.cons rfl (fun K' hK => ?_) ReadyE.nil)
                  go_simp
                  have HFIN := hide (And.intro (((unhide HB2).setCell (p := ⟨b10, 0, none⟩) hgb10 (.slice g gn gc)).setCell (p := ⟨b10, 1, none⟩) hgb10 (.int .i64 E1)) (And.intro ((h9b.other ⟨b10, 0, none⟩ (Ne.symm hd9') (.slice g gn gc)).other ⟨b10, 1, none⟩ (Ne.symm hd9') (.int .i64 E1)) (And.intro ((hic2.otherN ⟨b10, 0, none⟩ (.slice g gn gc) hNb10).otherN ⟨b10, 1, none⟩ (.int .i64 E1) hNb10) (And.intro ((h10.set0 (.slice g gn gc)).set1 (.int .i64 E1)) (htd2.otherN h10 (.slice g gn gc) (.int .i64 E1))))))
                  refine hK _ _ (fun h => by exact absurd h (by decide)) ?_
                  clear hK K' f0 f1' f2 f3 f4 h10 h9b hic2 htd2 HB2
                  try simp only [List.getElem_toArray, List.getElem_cons_succ, List.getElem_cons_zero, Act.put, List.setIfInBounds_toArray, List.set_cons_zero, List.set_cons_succ]
                  refine anyE_done (by kernel_rfl) ?_ _
                  go_wp2_with fail
                  go_meet
                  case rel => exact ⟨b9, b10, ca, cc, g, gn, gc, rfl, rfl, HFIN⟩
          ·
            go_simp
            have hb := alloc_below W8 (.cells #[.slice none 0 0, .int .i64 0] RfT)
            have hnew := Bx.new W8 (.slice none 0 0) (.int .i64 0) RfT
            have hge := (unhide HB).size
            have hS2 : Bx (W8.alloc (.cells #[.slice none 0 0, .int .i64 0] RfT)) w.heap.size (.slice aa n ac) (.int .i64 ka) ∧ Bx (W8.alloc (.cells #[.slice none 0 0, .int .i64 0] RfT)) xb (.slice ba m bc) (.int .i64 kb) := ⟨hS.1.keep hb, hS.2.keep hb⟩
            have HBn := hide (bthen (unhide HB) hb)
            refine hK _ _ (fun _ => hS2) ?_
            clear hK K' hS HB hb
            try simp only [List.getElem_toArray, List.getElem_cons_succ, List.getElem_cons_zero, Act.put, List.setIfInBounds_toArray, List.set_cons_zero, List.set_cons_succ]
            have hS := hS2
            have HB := HBn
            clear hS2 HBn
            generalize W8.alloc (.cells #[.slice none 0 0, .int .i64 0] RfT) = W9 at *
            generalize W8.heap.size = b9 at *
            have h9 := hnew
            have hgb9 := hge
            clear hnew hge
            refine anyE_ready [3, 9] (by kernel_rfl) (by simp) (ReadyE.cons rfl (fun K' hK => ?_) (ReadyE.cons rfl (fun K' hK => ?_) ReadyE.nil))
            ·
              go_simp
              go_at_call 13
              refine (ofF_any W9 ba m bc kb).mono ?_
              rintro ev W10 ⟨rfl, hb⟩
              dsimp only
              try go_simp
              have h9b := h9.keep hb
              clear h9
              have h9 := h9b
              clear h9b
              have hS2 : Bx W10 w.heap.size (.slice aa n ac) (.int .i64 ka) ∧ Bx W10 xb (.slice ba m bc) (.int .i64 kb) := ⟨hS.1.keep hb, hS.2.keep hb⟩
              have HBn := hide (bthen (unhide HB) hb)
              refine hK _ _ (fun _ => hS2) ?_
              clear hK K' hS HB hb
              try simp only [List.getElem_toArray, List.getElem_cons_succ, List.getElem_cons_zero, Act.put, List.setIfInBounds_toArray, List.set_cons_zero, List.set_cons_succ]
              have hS := hS2
              have HB := HBn
              clear hS2 HBn
              refine anyE_ready [4, 9] (by kernel_rfl) (by simp) (ReadyE.cons rfl (fun K' hK => ?_) (ReadyE.cons rfl (fun K' hK => ?_) ReadyE.nil))
              ·
                go_simp
                go_at_call 12
                refine (unhide HAD' W10 (bthen (unhide HK4).1 (unhide HB))).mono ?_
                rintro ev W11 ⟨cv, g, gn, gc, rfl, hic, hfr, htd0, hb⟩
                have htd : Told 0 W11 (.agg #[.slice g gn gc, .int .i64 E1]) wForm 0 E1 := htd0.mono (Nat.zero_le _)
                clear htd0
                obtain ⟨ca, cc, rfl⟩ := hic.shape
                dsimp only
                try go_simp
                have hNb9 : C1 ≠ [] → ∀ b o m c, Value.slice ca C1.length cc = .slice (some ⟨b, o, none⟩) m c → b9 ≠ b := fun _ b o m c hv e => by have h1 := hfr b o m c hv; have h2 := h9.lt; omega
                clear hfr
                have h9b := h9.keep hb
                clear h9
                have h9 := h9b
                clear h9b
                have hS2 : Bx W11 w.heap.size (.slice aa n ac) (.int .i64 ka) ∧ Bx W11 xb (.slice ba m bc) (.int .i64 kb) := ⟨hS.1.keep hb, hS.2.keep hb⟩
                have HBn := hide (bthen (unhide HB) hb)
                refine hK _ _ (fun _ => hS2) ?_
                clear hK K' hS HB hb
                try simp only [List.getElem_toArray, List.getElem_cons_succ, List.getElem_cons_zero, Act.put, List.setIfInBounds_toArray, List.set_cons_zero, List.set_cons_succ]
                have hS := hS2
                have HB := HBn
                clear hS2 HBn
                refine anyE_take 5 (v := ?_) rfl (by kernel_rfl) (by kernel_rfl) (by kernel_rfl) (by kernel_rfl) (fun _ _ _ h => h) hS (Or.inl ⟨by rfl, ?_⟩) ?_
                rotate_left
                · intro w' hS'
                  obtain ⟨⟨e0, e1, _, _, _⟩, ⟨g0, g1, _, _, _⟩⟩ := hS'
                  go_simp
                  try with_reducible rfl
                try simp only [List.getElem_toArray, List.getElem_cons_succ, List.getElem_cons_zero, Act.put, List.setIfInBounds_toArray, List.set_cons_zero, List.set_cons_succ]
                refine anyE_take 6 (v := ?_) rfl (by kernel_rfl) (by kernel_rfl) (by kernel_rfl) (by kernel_rfl) (fun _ _ _ h => h) hS (Or.inl ⟨by rfl, ?_⟩) ?_
                rotate_left
                · intro w' hS'
                  obtain ⟨⟨e0, e1, _, _, _⟩, ⟨g0, g1, _, _, _⟩⟩ := hS'
                  go_simp
                  try with_reducible rfl
                try simp only [List.getElem_toArray, List.getElem_cons_succ, List.getElem_cons_zero, Act.put, List.setIfInBounds_toArray, List.set_cons_zero, List.set_cons_succ]
                refine anyE_take 7 (v := ?_) rfl (by kernel_rfl) (by kernel_rfl) (by kernel_rfl) (by kernel_rfl) (fun _ _ _ h => h) hS (Or.inl ⟨by rfl, ?_⟩) ?_
                rotate_left
                · intro w' hS'
                  obtain ⟨⟨e0, e1, _, _, _⟩, ⟨g0, g1, _, _, _⟩⟩ := hS'
                  go_simp
                  try with_reducible rfl
                try simp only [List.getElem_toArray, List.getElem_cons_succ, List.getElem_cons_zero, Act.put, List.setIfInBounds_toArray, List.set_cons_zero, List.set_cons_succ]
                refine anyE_ready [9] (by kernel_rfl) (by simp) (ReadyE.cons rfl (fun K' hK => ?_) ReadyE.nil)
                ·
                  go_simp
                  have hb := alloc_below W11 (.cells #[.slice none 0 0, .int .i64 0] WrT)
                  have hnew := Bx.new W11 (.slice none 0 0) (.int .i64 0) WrT
                  have hge := (unhide HB).size
                  have hNb10 : C1 ≠ [] → ∀ b o m c, Value.slice ca C1.length cc = .slice (some ⟨b, o, none⟩) m c → W11.heap.size ≠ b := fun hne b o m c hv e => by have := hic.blt hne hv; omega
                  have hd9 : W11.heap.size ≠ b9 := Nat.ne_of_gt h9.lt
                  have h9b := h9.keep hb
                  clear h9
                  have h9 := h9b
                  clear h9b
                  have hic2 := hic.below hb
                  have htd2 := htd.below hb
                  clear hic htd
                  have hic := hic2
                  have htd := htd2
                  clear hic2 htd2
                  have hS2 : Bx (W11.alloc (.cells #[.slice none 0 0, .int .i64 0] WrT)) w.heap.size (.slice aa n ac) (.int .i64 ka) ∧ Bx (W11.alloc (.cells #[.slice none 0 0, .int .i64 0] WrT)) xb (.slice ba m bc) (.int .i64 kb) := ⟨hS.1.keep hb, hS.2.keep hb⟩
                  have HBn := hide (bthen (unhide HB) hb)
                  refine hK _ _ (fun _ => hS2) ?_
                  clear hK K' hS HB hb
                  try simp only [List.getElem_toArray, List.getElem_cons_succ, List.getElem_cons_zero, Act.put, List.setIfInBounds_toArray, List.set_cons_zero, List.set_cons_succ]
                  have hS := hS2
                  have HB := HBn
                  clear hS2 HBn
                  generalize W11.alloc (.cells #[.slice none 0 0, .int .i64 0] WrT) = W12 at *
                  generalize W11.heap.size = b10 at *
                  have h10 := hnew
                  have hgb10 := hge
                  clear hnew hge
                  obtain ⟨f0, f1', f2, f3, f4⟩ := h9
                  have h9 := Bx.mk f0 f1' f2 f3 f4
                  refine anyE_ready [10] (by kernel_rfl) (by simp) (ReadyE.cons rfl (fun K' hK => ?_) ReadyE.nil)
                  go_simp
                  have hic2 := (hic.otherN ⟨b9, 0, none⟩ (.slice ca C1.length cc) hNb9).otherN ⟨b9, 1, none⟩ (.int .i64 K1) hNb9
                  have htd2 := htd.otherN h9 (.slice ca C1.length cc) (.int .i64 K1)
                  have h9b := (h9.set0 (.slice ca C1.length cc)).set1 (.int .i64 K1)
                  have hd9' : b9 ≠ b10 := by first | exact hd9 | exact Ne.symm hd9
                  have h10b := (h10.other ⟨b9, 0, none⟩ hd9' (.slice ca C1.length cc)).other ⟨b9, 1, none⟩ hd9' (.int .i64 K1)
                  have HB2 := hide (((unhide HB).setCell (p := ⟨b9, 0, none⟩) hgb9 (.slice ca C1.length cc)).setCell (p := ⟨b9, 1, none⟩) hgb9 (.int .i64 K1))
                  have k1 : b9 ≠ w.heap.size := by have := (unhide HK4).2.1.lt; omega
                  have k2 : b9 ≠ xb := by have := (unhide HK4).2.2.1.lt; omega
                  have hS9 : Bx ((W12.setCell ⟨b9, 0, none⟩ (.slice ca C1.length cc)).setCell ⟨b9, 1, none⟩ (.int .i64 K1)) w.heap.size (.slice aa n ac) (.int .i64 ka) ∧ Bx ((W12.setCell ⟨b9, 0, none⟩ (.slice ca C1.length cc)).setCell ⟨b9, 1, none⟩ (.int .i64 K1)) xb (.slice ba m bc) (.int .i64 kb) := ⟨(hS.1.other ⟨b9, 0, none⟩ k1 _).other ⟨b9, 1, none⟩ k1 _, (hS.2.other ⟨b9, 0, none⟩ k2 _).other ⟨b9, 1, none⟩ k2 _⟩
                  refine hK _ _ (fun _ => hS9) ?_
                  clear hK K' f0 f1' f2 f3 f4 h9 h10 hic htd HB hS k1 k2
                  try simp only [List.getElem_toArray, List.getElem_cons_succ, List.getElem_cons_zero, Act.put, List.setIfInBounds_toArray, List.set_cons_zero, List.set_cons_succ]
                  generalize (W12.setCell ⟨b9, 0, none⟩ (.slice ca C1.length cc)).setCell ⟨b9, 1, none⟩ (.int .i64 K1) = WX at *
                  have hS := hS9
                  clear hS9
                  obtain ⟨f0, f1', f2, f3, f4⟩ := h10b
                  have h10 := Bx.mk f0 f1' f2 f3 f4
                  refine anyE_ready [11] (by kernel_rfl) (by simp) (ReadyE.cons rfl (fun K' hK => ?_) ReadyE.nil)
                  go_simp
                  have HFIN := hide (And.intro (((unhide HB2).setCell (p := ⟨b10, 0, none⟩) hgb10 (.slice g gn gc)).setCell (p := ⟨b10, 1, none⟩) hgb10 (.int .i64 E1)) (And.intro ((h9b.other ⟨b10, 0, none⟩ (Ne.symm hd9') (.slice g gn gc)).other ⟨b10, 1, none⟩ (Ne.symm hd9') (.int .i64 E1)) (And.intro ((hic2.otherN ⟨b10, 0, none⟩ (.slice g gn gc) hNb10).otherN ⟨b10, 1, none⟩ (.int .i64 E1) hNb10) (And.intro ((h10.set0 (.slice g gn gc)).set1 (.int .i64 E1)) (htd2.otherN h10 (.slice g gn gc) (.int .i64 E1))))))
                  refine hK _ _ (fun h => by exact absurd h (by decide)) ?_
                  clear hK K' f0 f1' f2 f3 f4 h10 h9b hic2 htd2 HB2
                  try simp only [List.getElem_toArray, List.getElem_cons_succ, List.getElem_cons_zero, Act.put, List.setIfInBounds_toArray, List.set_cons_zero, List.set_cons_succ]
                  refine anyE_done (by kernel_rfl) ?_ _
                  go_wp2_with fail
                  go_meet
                  case rel => exact ⟨b9, b10, ca, cc, g, gn, gc, rfl, rfl, HFIN⟩
              ·
                go_simp
                have hb := alloc_below W10 (.cells #[.slice none 0 0, .int .i64 0] WrT)
                have hnew := Bx.new W10 (.slice none 0 0) (.int .i64 0) WrT
                have hge := (unhide HB).size
                have hd9 : W10.heap.size ≠ b9 := Nat.ne_of_gt h9.lt
                have h9b := h9.keep hb
                clear h9
                have h9 := h9b
                clear h9b
                have hS2 : Bx (W10.alloc (.cells #[.slice none 0 0, .int .i64 0] WrT)) w.heap.size (.slice aa n ac) (.int .i64 ka) ∧ Bx (W10.alloc (.cells #[.slice none 0 0, .int .i64 0] WrT)) xb (.slice ba m bc) (.int .i64 kb) := ⟨hS.1.keep hb, hS.2.keep hb⟩
                have HBn := hide (bthen (unhide HB) hb)
                refine hK _ _ (fun _ => hS2) ?_
                clear hK K' hS HB hb
                try simp only [List.getElem_toArray, List.getElem_cons_succ, List.getElem_cons_zero, Act.put, List.setIfInBounds_toArray, List.set_cons_zero, List.set_cons_succ]
                have hS := hS2
                have HB := HBn
                clear hS2 HBn
                generalize W10.alloc (.cells #[.slice none 0 0, .int .i64 0] WrT) = W11 at *
                generalize W10.heap.size = b10 at *
                have h10 := hnew
                have hgb10 := hge
                clear hnew hge
                refine anyE_ready [4] (by kernel_rfl) (by simp) (ReadyE.cons rfl (fun K' hK => ?_) ReadyE.nil)
                ·
                  go_simp
                  go_at_call 12
                  refine (unhide HAD' W11 (bthen (unhide HK4).1 (unhide HB))).mono ?_
                  rintro ev W12 ⟨cv, g, gn, gc, rfl, hic, hfr, htd0, hb⟩
                  have htd : Told 0 W12 (.agg #[.slice g gn gc, .int .i64 E1]) wForm 0 E1 := htd0.mono (Nat.zero_le _)
                  clear htd0
                  obtain ⟨ca, cc, rfl⟩ := hic.shape
                  dsimp only
                  try go_simp
                  have hNb9 : C1 ≠ [] → ∀ b o m c, Value.slice ca C1.length cc = .slice (some ⟨b, o, none⟩) m c → b9 ≠ b := fun _ b o m c hv e => by have h1 := hfr b o m c hv; have h2 := h9.lt; omega
                  have hNb10 : C1 ≠ [] → ∀ b o m c, Value.slice ca C1.length cc = .slice (some ⟨b, o, none⟩) m c → b10 ≠ b := fun _ b o m c hv e => by have h1 := hfr b o m c hv; have h2 := h10.lt; omega
                  clear hfr
                  have h9b := h9.keep hb
                  clear h9
                  have h9 := h9b
                  clear h9b
                  have h10b := h10.keep hb
                  clear h10
                  have h10 := h10b
                  clear h10b
                  have hS2 : Bx W12 w.heap.size (.slice aa n ac) (.int .i64 ka) ∧ Bx W12 xb (.slice ba m bc) (.int .i64 kb) := ⟨hS.1.keep hb, hS.2.keep hb⟩
                  have HBn := hide (bthen (unhide HB) hb)
                  refine hK _ _ (fun _ => hS2) ?_
                  clear hK K' hS HB hb
                  try simp only [List.getElem_toArray, List.getElem_cons_succ, List.getElem_cons_zero, Act.put, List.setIfInBounds_toArray, List.set_cons_zero, List.set_cons_succ]
                  have hS := hS2
                  have HB := HBn
                  clear hS2 HBn
                  refine anyE_take 5 (v := ?_) rfl (by kernel_rfl) (by kernel_rfl) (by kernel_rfl) (by kernel_rfl) (fun _ _ _ h => h) hS (Or.inl ⟨by rfl, ?_⟩) ?_
                  rotate_left
                  · intro w' hS'
                    obtain ⟨⟨e0, e1, _, _, _⟩, ⟨g0, g1, _, _, _⟩⟩ := hS'
                    go_simp
                    try with_reducible rfl
                  try simp only [List.getElem_toArray, List.getElem_cons_succ, List.getElem_cons_zero, Act.put, List.setIfInBounds_toArray, List.set_cons_zero, List.set_cons_succ]
                  refine anyE_take 6 (v := ?_) rfl (by kernel_rfl) (by kernel_rfl) (by kernel_rfl) (by kernel_rfl) (fun _ _ _ h => h) hS (Or.inl ⟨by rfl, ?_⟩) ?_
                  rotate_left
                  · intro w' hS'
                    obtain ⟨⟨e0, e1, _, _, _⟩, ⟨g0, g1, _, _, _⟩⟩ := hS'
                    go_simp
                    try with_reducible rfl
                  try simp only [List.getElem_toArray, List.getElem_cons_succ, List.getElem_cons_zero, Act.put, List.setIfInBounds_toArray, List.set_cons_zero, List.set_cons_succ]
                  refine anyE_take 7 (v := ?_) rfl (by kernel_rfl) (by kernel_rfl) (by kernel_rfl) (by kernel_rfl) (fun _ _ _ h => h) hS (Or.inl ⟨by rfl, ?_⟩) ?_
                  rotate_left
                  · intro w' hS'
                    obtain ⟨⟨e0, e1, _, _, _⟩, ⟨g0, g1, _, _, _⟩⟩ := hS'
                    go_simp
                    try with_reducible rfl
                  try simp only [List.getElem_toArray, List.getElem_cons_succ, List.getElem_cons_zero, Act.put, List.setIfInBounds_toArray, List.set_cons_zero, List.set_cons_succ]
                  obtain ⟨f0, f1', f2, f3, f4⟩ := h9
                  have h9 := Bx.mk f0 f1' f2 f3 f4
                  refine anyE_ready [10] (by kernel_rfl) (by simp) (ReadyE.cons rfl (fun K' hK => ?_) ReadyE.nil)
                  go_simp
                  have hic2 := (hic.otherN ⟨b9, 0, none⟩ (.slice ca C1.length cc) hNb9).otherN ⟨b9, 1, none⟩ (.int .i64 K1) hNb9
                  have htd2 := htd.otherN h9 (.slice ca C1.length cc) (.int .i64 K1)
                  have h9b := (h9.set0 (.slice ca C1.length cc)).set1 (.int .i64 K1)
                  have hd9' : b9 ≠ b10 := by first | exact hd9 | exact Ne.symm hd9
                  have h10b := (h10.other ⟨b9, 0, none⟩ hd9' (.slice ca C1.length cc)).other ⟨b9, 1, none⟩ hd9' (.int .i64 K1)
                  have HB2 := hide (((unhide HB).setCell (p := ⟨b9, 0, none⟩) hgb9 (.slice ca C1.length cc)).setCell (p := ⟨b9, 1, none⟩) hgb9 (.int .i64 K1))
                  have k1 : b9 ≠ w.heap.size := by have := (unhide HK4).2.1.lt; omega
                  have k2 : b9 ≠ xb := by have := (unhide HK4).2.2.1.lt; omega
                  have hS9 : Bx ((W12.setCell ⟨b9, 0, none⟩ (.slice ca C1.length cc)).setCell ⟨b9, 1, none⟩ (.int .i64 K1)) w.heap.size (.slice aa n ac) (.int .i64 ka) ∧ Bx ((W12.setCell ⟨b9, 0, none⟩ (.slice ca C1.length cc)).setCell ⟨b9, 1, none⟩ (.int .i64 K1)) xb (.slice ba m bc) (.int .i64 kb) := ⟨(hS.1.other ⟨b9, 0, none⟩ k1 _).other ⟨b9, 1, none⟩ k1 _, (hS.2.other ⟨b9, 0, none⟩ k2 _).other ⟨b9, 1, none⟩ k2 _⟩
                  refine hK _ _ (fun _ => hS9) ?_
                  clear hK K' f0 f1' f2 f3 f4 h9 h10 hic htd HB hS k1 k2
                  try simp only [List.getElem_toArray, List.getElem_cons_succ, List.getElem_cons_zero, Act.put, List.setIfInBounds_toArray, List.set_cons_zero, List.set_cons_succ]
                  generalize (W12.setCell ⟨b9, 0, none⟩ (.slice ca C1.length cc)).setCell ⟨b9, 1, none⟩ (.int .i64 K1) = WX at *
                  have hS := hS9
                  clear hS9
                  obtain ⟨f0, f1', f2, f3, f4⟩ := h10b
                  have h10 := Bx.mk f0 f1' f2 f3 f4
                  refine anyE_ready [11] (by kernel_rfl) (by simp) (ReadyE.cons rfl (fun K' hK => ?_) ReadyE.nil)
                  go_simp
                  have HFIN := hide (And.intro (((unhide HB2).setCell (p := ⟨b10, 0, none⟩) hgb10 (.slice g gn gc)).setCell (p := ⟨b10, 1, none⟩) hgb10 (.int .i64 E1)) (And.intro ((h9b.other ⟨b10, 0, none⟩ (Ne.symm hd9') (.slice g gn gc)).other ⟨b10, 1, none⟩ (Ne.symm hd9') (.int .i64 E1)) (And.intro ((hic2.otherN ⟨b10, 0, none⟩ (.slice g gn gc) hNb10).otherN ⟨b10, 1, none⟩ (.int .i64 E1) hNb10) (And.intro ((h10.set0 (.slice g gn gc)).set1 (.int .i64 E1)) (htd2.otherN h10 (.slice g gn gc) (.int .i64 E1))))))
                  refine hK _ _ (fun h => by exact absurd h (by decide)) ?_
                  clear hK K' f0 f1' f2 f3 f4 h10 h9b hic2 htd2 HB2
                  try simp only [List.getElem_toArray, List.getElem_cons_succ, List.getElem_cons_zero, Act.put, List.setIfInBounds_toArray, List.set_cons_zero, List.set_cons_succ]
                  refine anyE_done (by kernel_rfl) ?_ _
                  go_wp2_with fail
                  go_meet
                  case rel => exact ⟨b9, b10, ca, cc, g, gn, gc, rfl, rfl, HFIN⟩
            ·
              go_simp
              have hb := alloc_below W9 (.cells #[.slice none 0 0, .int .i64 0] WrT)
              have hnew := Bx.new W9 (.slice none 0 0) (.int .i64 0) WrT
              have hge := (unhide HB).size
              have hd9 : W9.heap.size ≠ b9 := Nat.ne_of_gt h9.lt
              have h9b := h9.keep hb
              clear h9
              have h9 := h9b
              clear h9b
              have hS2 : Bx (W9.alloc (.cells #[.slice none 0 0, .int .i64 0] WrT)) w.heap.size (.slice aa n ac) (.int .i64 ka) ∧ Bx (W9.alloc (.cells #[.slice none 0 0, .int .i64 0] WrT)) xb (.slice ba m bc) (.int .i64 kb) := ⟨hS.1.keep hb, hS.2.keep hb⟩
              have HBn := hide (bthen (unhide HB) hb)
              refine hK _ _ (fun _ => hS2) ?_
              clear hK K' hS HB hb
              try simp only [List.getElem_toArray, List.getElem_cons_succ, List.getElem_cons_zero, Act.put, List.setIfInBounds_toArray, List.set_cons_zero, List.set_cons_succ]
              have hS := hS2
              have HB := HBn
              clear hS2 HBn
              generalize W9.alloc (.cells #[.slice none 0 0, .int .i64 0] WrT) = W10 at *
              generalize W9.heap.size = b10 at *
              have h10 := hnew
              have hgb10 := hge
              clear hnew hge
              refine anyE_ready [3] (by kernel_rfl) (by simp) (ReadyE.cons rfl (fun K' hK => ?_) ReadyE.nil)
              ·
                go_simp
                go_at_call 13
                refine (ofF_any W10 ba m bc kb).mono ?_
                rintro ev W11 ⟨rfl, hb⟩
                dsimp only
                try go_simp
                have h9b := h9.keep hb
                clear h9
                have h9 := h9b
                clear h9b
                have h10b := h10.keep hb
                clear h10
                have h10 := h10b
                clear h10b
                have hS2 : Bx W11 w.heap.size (.slice aa n ac) (.int .i64 ka) ∧ Bx W11 xb (.slice ba m bc) (.int .i64 kb) := ⟨hS.1.keep hb, hS.2.keep hb⟩
                have HBn := hide (bthen (unhide HB) hb)
                refine hK _ _ (fun _ => hS2) ?_
                clear hK K' hS HB hb
                try simp only [List.getElem_toArray, List.getElem_cons_succ, List.getElem_cons_zero, Act.put, List.setIfInBounds_toArray, List.set_cons_zero, List.set_cons_succ]
                have hS := hS2
                have HB := HBn
                clear hS2 HBn
                refine anyE_ready [4] (by kernel_rfl) (by simp) (ReadyE.cons rfl (fun K' hK => ?_) ReadyE.nil)
                ·
                  go_simp
                  go_at_call 12
                  refine (unhide HAD' W11 (bthen (unhide HK4).1 (unhide HB))).mono ?_
                  rintro ev W12 ⟨cv, g, gn, gc, rfl, hic, hfr, htd0, hb⟩
                  have htd : Told 0 W12 (.agg #[.slice g gn gc, .int .i64 E1]) wForm 0 E1 := htd0.mono (Nat.zero_le _)
                  clear htd0
                  obtain ⟨ca, cc, rfl⟩ := hic.shape
                  dsimp only
                  try go_simp
                  have hNb9 : C1 ≠ [] → ∀ b o m c, Value.slice ca C1.length cc = .slice (some ⟨b, o, none⟩) m c → b9 ≠ b := fun _ b o m c hv e => by have h1 := hfr b o m c hv; have h2 := h9.lt; omega
                  have hNb10 : C1 ≠ [] → ∀ b o m c, Value.slice ca C1.length cc = .slice (some ⟨b, o, none⟩) m c → b10 ≠ b := fun _ b o m c hv e => by have h1 := hfr b o m c hv; have h2 := h10.lt; omega
                  clear hfr
                  have h9b := h9.keep hb
                  clear h9
                  have h9 := h9b
                  clear h9b
                  have h10b := h10.keep hb
                  clear h10
                  have h10 := h10b
                  clear h10b
                  have hS2 : Bx W12 w.heap.size (.slice aa n ac) (.int .i64 ka) ∧ Bx W12 xb (.slice ba m bc) (.int .i64 kb) := ⟨hS.1.keep hb, hS.2.keep hb⟩
                  have HBn := hide (bthen (unhide HB) hb)
                  refine hK _ _ (fun _ => hS2) ?_
                  clear hK K' hS HB hb
                  try simp only [List.getElem_toArray, List.getElem_cons_succ, List.getElem_cons_zero, Act.put, List.setIfInBounds_toArray, List.set_cons_zero, List.set_cons_succ]
                  have hS := hS2
                  have HB := HBn
                  clear hS2 HBn
                  refine anyE_take 5 (v := ?_) rfl (by kernel_rfl) (by kernel_rfl) (by kernel_rfl) (by kernel_rfl) (fun _ _ _ h => h) hS (Or.inl ⟨by rfl, ?_⟩) ?_
                  rotate_left
                  · intro w' hS'
                    obtain ⟨⟨e0, e1, _, _, _⟩, ⟨g0, g1, _, _, _⟩⟩ := hS'
                    go_simp
                    try with_reducible rfl
                  try simp only [List.getElem_toArray, List.getElem_cons_succ, List.getElem_cons_zero, Act.put, List.setIfInBounds_toArray, List.set_cons_zero, List.set_cons_succ]
                  refine anyE_take 6 (v := ?_) rfl (by kernel_rfl) (by kernel_rfl) (by kernel_rfl) (by kernel_rfl) (fun _ _ _ h => h) hS (Or.inl ⟨by rfl, ?_⟩) ?_
                  rotate_left
                  · intro w' hS'
                    obtain ⟨⟨e0, e1, _, _, _⟩, ⟨g0, g1, _, _, _⟩⟩ := hS'
                    go_simp
                    try with_reducible rfl
                  try simp only [List.getElem_toArray, List.getElem_cons_succ, List.getElem_cons_zero, Act.put, List.setIfInBounds_toArray, List.set_cons_zero, List.set_cons_succ]
                  refine anyE_take 7 (v := ?_) rfl (by kernel_rfl) (by kernel_rfl) (by kernel_rfl) (by kernel_rfl) (fun _ _ _ h => h) hS (Or.inl ⟨by rfl, ?_⟩) ?_
                  rotate_left
                  · intro w' hS'
                    obtain ⟨⟨e0, e1, _, _, _⟩, ⟨g0, g1, _, _, _⟩⟩ := hS'
                    go_simp
                    try with_reducible rfl
                  try simp only [List.getElem_toArray, List.getElem_cons_succ, List.getElem_cons_zero, Act.put, List.setIfInBounds_toArray, List.set_cons_zero, List.set_cons_succ]
                  obtain ⟨f0, f1', f2, f3, f4⟩ := h9
                  have h9 := Bx.mk f0 f1' f2 f3 f4
                  refine anyE_ready [10] (by kernel_rfl) (by simp) (ReadyE.cons rfl (fun K' hK => ?_) ReadyE.nil)
                  go_simp
                  have hic2 := (hic.otherN ⟨b9, 0, none⟩ (.slice ca C1.length cc) hNb9).otherN ⟨b9, 1, none⟩ (.int .i64 K1) hNb9
                  have htd2 := htd.otherN h9 (.slice ca C1.length cc) (.int .i64 K1)
                  have h9b := (h9.set0 (.slice ca C1.length cc)).set1 (.int .i64 K1)
                  have hd9' : b9 ≠ b10 := by first | exact hd9 | exact Ne.symm hd9
                  have h10b := (h10.other ⟨b9, 0, none⟩ hd9' (.slice ca C1.length cc)).other ⟨b9, 1, none⟩ hd9' (.int .i64 K1)
                  have HB2 := hide (((unhide HB).setCell (p := ⟨b9, 0, none⟩) hgb9 (.slice ca C1.length cc)).setCell (p := ⟨b9, 1, none⟩) hgb9 (.int .i64 K1))
                  have k1 : b9 ≠ w.heap.size := by have := (unhide HK4).2.1.lt; omega
                  have k2 : b9 ≠ xb := by have := (unhide HK4).2.2.1.lt; omega
                  have hS9 : Bx ((W12.setCell ⟨b9, 0, none⟩ (.slice ca C1.length cc)).setCell ⟨b9, 1, none⟩ (.int .i64 K1)) w.heap.size (.slice aa n ac) (.int .i64 ka) ∧ Bx ((W12.setCell ⟨b9, 0, none⟩ (.slice ca C1.length cc)).setCell ⟨b9, 1, none⟩ (.int .i64 K1)) xb (.slice ba m bc) (.int .i64 kb) := ⟨(hS.1.other ⟨b9, 0, none⟩ k1 _).other ⟨b9, 1, none⟩ k1 _, (hS.2.other ⟨b9, 0, none⟩ k2 _).other ⟨b9, 1, none⟩ k2 _⟩
                  refine hK _ _ (fun _ => hS9) ?_
                  clear hK K' f0 f1' f2 f3 f4 h9 h10 hic htd HB hS k1 k2
                  try simp only [List.getElem_toArray, List.getElem_cons_succ, List.getElem_cons_zero, Act.put, List.setIfInBounds_toArray, List.set_cons_zero, List.set_cons_succ]
                  generalize (W12.setCell ⟨b9, 0, none⟩ (.slice ca C1.length cc)).setCell ⟨b9, 1, none⟩ (.int .i64 K1) = WX at *
                  have hS := hS9
                  clear hS9
                  obtain ⟨f0, f1', f2, f3, f4⟩ := h10b
                  have h10 := Bx.mk f0 f1' f2 f3 f4
                  refine anyE_ready [11] (by kernel_rfl) (by simp) (ReadyE.cons rfl (fun K' hK => ?_) ReadyE.nil)
                  go_simp
                  have HFIN := hide (And.intro (((unhide HB2).setCell (p := ⟨b10, 0, none⟩) hgb10 (.slice g gn gc)).setCell (p := ⟨b10, 1, none⟩) hgb10 (.int .i64 E1)) (And.intro ((h9b.other ⟨b10, 0, none⟩ (Ne.symm hd9') (.slice g gn gc)).other ⟨b10, 1, none⟩ (Ne.symm hd9') (.int .i64 E1)) (And.intro ((hic2.otherN ⟨b10, 0, none⟩ (.slice g gn gc) hNb10).otherN ⟨b10, 1, none⟩ (.int .i64 E1) hNb10) (And.intro ((h10.set0 (.slice g gn gc)).set1 (.int .i64 E1)) (htd2.otherN h10 (.slice g gn gc) (.int .i64 E1))))))
                  refine hK _ _ (fun h => by exact absurd h (by decide)) ?_
                  clear hK K' f0 f1' f2 f3 f4 h10 h9b hic2 htd2 HB2
                  try simp only [List.getElem_toArray, List.getElem_cons_succ, List.getElem_cons_zero, Act.put, List.setIfInBounds_toArray, List.set_cons_zero, List.set_cons_succ]
                  refine anyE_done (by kernel_rfl) ?_ _
                  go_wp2_with fail
                  go_meet
                  case rel => exact ⟨b9, b10, ca, cc, g, gn, gc, rfl, rfl, HFIN⟩
          ·
            go_simp
            have hb := alloc_below W8 (.cells #[.slice none 0 0, .int .i64 0] WrT)
            have hnew := Bx.new W8 (.slice none 0 0) (.int .i64 0) WrT
            have hge := (unhide HB).size
            have hS2 : Bx (W8.alloc (.cells #[.slice none 0 0, .int .i64 0] WrT)) w.heap.size (.slice aa n ac) (.int .i64 ka) ∧ Bx (W8.alloc (.cells #[.slice none 0 0, .int .i64 0] WrT)) xb (.slice ba m bc) (.int .i64 kb) := ⟨hS.1.keep hb, hS.2.keep hb⟩
            have HBn := hide (bthen (unhide HB) hb)
            refine hK _ _ (fun _ => hS2) ?_
            clear hK K' hS HB hb
            try simp only [List.getElem_toArray, List.getElem_cons_succ, List.getElem_cons_zero, Act.put, List.setIfInBounds_toArray, List.set_cons_zero, List.set_cons_succ]
            have hS := hS2
            have HB := HBn
            clear hS2 HBn
            generalize W8.alloc (.cells #[.slice none 0 0, .int .i64 0] WrT) = W9 at *
            generalize W8.heap.size = b10 at *
            have h10 := hnew
            have hgb10 := hge
            clear hnew hge
            refine anyE_ready [3, 8] (by kernel_rfl) (by simp) (ReadyE.cons rfl (fun K' hK => ?_) (ReadyE.cons rfl (fun K' hK => ?_) ReadyE.nil))
            ·
              go_simp
              go_at_call 13
              refine (ofF_any W9 ba m bc kb).mono ?_
              rintro ev W10 ⟨rfl, hb⟩
              dsimp only
              try go_simp
              have h10b := h10.keep hb
              clear h10
              have h10 := h10b
              clear h10b
              have hS2 : Bx W10 w.heap.size (.slice aa n ac) (.int .i64 ka) ∧ Bx W10 xb (.slice ba m bc) (.int .i64 kb) := ⟨hS.1.keep hb, hS.2.keep hb⟩
              have HBn := hide (bthen (unhide HB) hb)
              refine hK _ _ (fun _ => hS2) ?_
              clear hK K' hS HB hb
              try simp only [List.getElem_toArray, List.getElem_cons_succ, List.getElem_cons_zero, Act.put, List.setIfInBounds_toArray, List.set_cons_zero, List.set_cons_succ]
              have hS := hS2
              have HB := HBn
              clear hS2 HBn
              refine anyE_ready [4, 8] (by kernel_rfl) (by simp) (ReadyE.cons rfl (fun K' hK => ?_) (ReadyE.cons rfl (fun K' hK => ?_) ReadyE.nil))
              ·
                go_simp
                go_at_call 12
                refine (unhide HAD' W10 (bthen (unhide HK4).1 (unhide HB))).mono ?_
                rintro ev W11 ⟨cv, g, gn, gc, rfl, hic, hfr, htd0, hb⟩
                have htd : Told 0 W11 (.agg #[.slice g gn gc, .int .i64 E1]) wForm 0 E1 := htd0.mono (Nat.zero_le _)
                clear htd0
                obtain ⟨ca, cc, rfl⟩ := hic.shape
                dsimp only
                try go_simp
                have hNb10 : C1 ≠ [] → ∀ b o m c, Value.slice ca C1.length cc = .slice (some ⟨b, o, none⟩) m c → b10 ≠ b := fun _ b o m c hv e => by have h1 := hfr b o m c hv; have h2 := h10.lt; omega
                clear hfr
                have h10b := h10.keep hb
                clear h10
                have h10 := h10b
                clear h10b
                have hS2 : Bx W11 w.heap.size (.slice aa n ac) (.int .i64 ka) ∧ Bx W11 xb (.slice ba m bc) (.int .i64 kb) := ⟨hS.1.keep hb, hS.2.keep hb⟩
                have HBn := hide (bthen (unhide HB) hb)
                refine hK _ _ (fun _ => hS2) ?_
                clear hK K' hS HB hb
                try simp only [List.getElem_toArray, List.getElem_cons_succ, List.getElem_cons_zero, Act.put, List.setIfInBounds_toArray, List.set_cons_zero, List.set_cons_succ]
                have hS := hS2
                have HB := HBn
                clear hS2 HBn
                refine anyE_take 5 (v := ?_) rfl (by kernel_rfl) (by kernel_rfl) (by kernel_rfl) (by kernel_rfl) (fun _ _ _ h => h) hS (Or.inl ⟨by rfl, ?_⟩) ?_
                rotate_left
                · intro w' hS'
                  obtain ⟨⟨e0, e1, _, _, _⟩, ⟨g0, g1, _, _, _⟩⟩ := hS'
                  go_simp
                  try with_reducible rfl
                try simp only [List.getElem_toArray, List.getElem_cons_succ, List.getElem_cons_zero, Act.put, List.setIfInBounds_toArray, List.set_cons_zero, List.set_cons_succ]
                refine anyE_take 6 (v := ?_) rfl (by kernel_rfl) (by kernel_rfl) (by kernel_rfl) (by kernel_rfl) (fun _ _ _ h => h) hS (Or.inl ⟨by rfl, ?_⟩) ?_
                rotate_left
                · intro w' hS'
                  obtain ⟨⟨e0, e1, _, _, _⟩, ⟨g0, g1, _, _, _⟩⟩ := hS'
                  go_simp
                  try with_reducible rfl
                try simp only [List.getElem_toArray, List.getElem_cons_succ, List.getElem_cons_zero, Act.put, List.setIfInBounds_toArray, List.set_cons_zero, List.set_cons_succ]
                refine anyE_take 7 (v := ?_) rfl (by kernel_rfl) (by kernel_rfl) (by kernel_rfl) (by kernel_rfl) (fun _ _ _ h => h) hS (Or.inl ⟨by rfl, ?_⟩) ?_
                rotate_left
                · intro w' hS'
                  obtain ⟨⟨e0, e1, _, _, _⟩, ⟨g0, g1, _, _, _⟩⟩ := hS'
                  go_simp
                  try with_reducible rfl
                try simp only [List.getElem_toArray, List.getElem_cons_succ, List.getElem_cons_zero, Act.put, List.setIfInBounds_toArray, List.set_cons_zero, List.set_cons_succ]
                refine anyE_ready [8] (by kernel_rfl) (by simp) (ReadyE.cons rfl (fun K' hK => ?_) ReadyE.nil)
                ·
                  go_simp
                  have hb := alloc_below W11 (.cells #[.slice none 0 0, .int .i64 0] RfT)
                  have hnew := Bx.new W11 (.slice none 0 0) (.int .i64 0) RfT
                  have hge := (unhide HB).size
                  have hNb9 : C1 ≠ [] → ∀ b o m c, Value.slice ca C1.length cc = .slice (some ⟨b, o, none⟩) m c → W11.heap.size ≠ b := fun hne b o m c hv e => by have := hic.blt hne hv; omega
                  have hd9 : W11.heap.size ≠ b10 := Nat.ne_of_gt h10.lt
                  have h10b := h10.keep hb
                  clear h10
                  have h10 := h10b
                  clear h10b
                  have hic2 := hic.below hb
                  have htd2 := htd.below hb
                  clear hic htd
                  have hic := hic2
                  have htd := htd2
                  clear hic2 htd2
                  have hS2 : Bx (W11.alloc (.cells #[.slice none 0 0, .int .i64 0] RfT)) w.heap.size (.slice aa n ac) (.int .i64 ka) ∧ Bx (W11.alloc (.cells #[.slice none 0 0, .int .i64 0] RfT)) xb (.slice ba m bc) (.int .i64 kb) := ⟨hS.1.keep hb, hS.2.keep hb⟩
                  have HBn := hide (bthen (unhide HB) hb)
                  refine hK _ _ (fun _ => hS2) ?_
                  clear hK K' hS HB hb
                  try simp only [List.getElem_toArray, List.getElem_cons_succ, List.getElem_cons_zero, Act.put, List.setIfInBounds_toArray, List.set_cons_zero, List.set_cons_succ]
                  have hS := hS2
                  have HB := HBn
                  clear hS2 HBn
                  generalize W11.alloc (.cells #[.slice none 0 0, .int .i64 0] RfT) = W12 at *
                  generalize W11.heap.size = b9 at *
                  have h9 := hnew
                  have hgb9 := hge
                  clear hnew hge
                  obtain ⟨f0, f1', f2, f3, f4⟩ := h9
                  have h9 := Bx.mk f0 f1' f2 f3 f4
                  refine anyE_ready [10] (by kernel_rfl) (by simp) (ReadyE.cons rfl (fun K' hK => ?_) ReadyE.nil)
                  go_simp
                  have hic2 := (hic.otherN ⟨b9, 0, none⟩ (.slice ca C1.length cc) hNb9).otherN ⟨b9, 1, none⟩ (.int .i64 K1) hNb9
                  have htd2 := htd.otherN h9 (.slice ca C1.length cc) (.int .i64 K1)
                  have h9b := (h9.set0 (.slice ca C1.length cc)).set1 (.int .i64 K1)
                  have hd9' : b9 ≠ b10 := by first | exact hd9 | exact Ne.symm hd9
                  have h10b := (h10.other ⟨b9, 0, none⟩ hd9' (.slice ca C1.length cc)).other ⟨b9, 1, none⟩ hd9' (.int .i64 K1)
                  have HB2 := hide (((unhide HB).setCell (p := ⟨b9, 0, none⟩) hgb9 (.slice ca C1.length cc)).setCell (p := ⟨b9, 1, none⟩) hgb9 (.int .i64 K1))
                  have k1 : b9 ≠ w.heap.size := by have := (unhide HK4).2.1.lt; omega
                  have k2 : b9 ≠ xb := by have := (unhide HK4).2.2.1.lt; omega
                  have hS9 : Bx ((W12.setCell ⟨b9, 0, none⟩ (.slice ca C1.length cc)).setCell ⟨b9, 1, none⟩ (.int .i64 K1)) w.heap.size (.slice aa n ac) (.int .i64 ka) ∧ Bx ((W12.setCell ⟨b9, 0, none⟩ (.slice ca C1.length cc)).setCell ⟨b9, 1, none⟩ (.int .i64 K1)) xb (.slice ba m bc) (.int .i64 kb) := ⟨(hS.1.other ⟨b9, 0, none⟩ k1 _).other ⟨b9, 1, none⟩ k1 _, (hS.2.other ⟨b9, 0, none⟩ k2 _).other ⟨b9, 1, none⟩ k2 _⟩
                  refine hK _ _ (fun _ => hS9) ?_
                  clear hK K' f0 f1' f2 f3 f4 h9 h10 hic htd HB hS k1 k2
                  try simp only [List.getElem_toArray, List.getElem_cons_succ, List.getElem_cons_zero, Act.put, List.setIfInBounds_toArray, List.set_cons_zero, List.set_cons_succ]
                  generalize (W12.setCell ⟨b9, 0, none⟩ (.slice ca C1.length cc)).setCell ⟨b9, 1, none⟩ (.int .i64 K1) = WX at *
                  have hS := hS9
                  clear hS9
                  obtain ⟨f0, f1', f2, f3, f4⟩ := h10b
                  have h10 := Bx.mk f0 f1' f2 f3 f4
                  refine anyE_ready [11] (by kernel_rfl) (by simp) (ReadyE.cons rfl (fun K' hK => ?_) ReadyE.nil)
                  go_simp
                  have HFIN := hide (And.intro (((unhide HB2).setCell (p := ⟨b10, 0, none⟩) hgb10 (.slice g gn gc)).setCell (p := ⟨b10, 1, none⟩) hgb10 (.int .i64 E1)) (And.intro ((h9b.other ⟨b10, 0, none⟩ (Ne.symm hd9') (.slice g gn gc)).other ⟨b10, 1, none⟩ (Ne.symm hd9') (.int .i64 E1)) (And.intro ((hic2.otherN ⟨b10, 0, none⟩ (.slice g gn gc) hNb10).otherN ⟨b10, 1, none⟩ (.int .i64 E1) hNb10) (And.intro ((h10.set0 (.slice g gn gc)).set1 (.int .i64 E1)) (htd2.otherN h10 (.slice g gn gc) (.int .i64 E1))))))
                  refine hK _ _ (fun h => by exact absurd h (by decide)) ?_
                  clear hK K' f0 f1' f2 f3 f4 h10 h9b hic2 htd2 HB2
                  try simp only [List.getElem_toArray, List.getElem_cons_succ, List.getElem_cons_zero, Act.put, List.setIfInBounds_toArray, List.set_cons_zero, List.set_cons_succ]
                  refine anyE_done (by kernel_rfl) ?_ _
                  go_wp2_with fail
                  go_meet
                  case rel => exact ⟨b9, b10, ca, cc, g, gn, gc, rfl, rfl, HFIN⟩
              ·
                go_simp
                have hb := alloc_below W10 (.cells #[.slice none 0 0, .int .i64 0] RfT)
                have hnew := Bx.new W10 (.slice none 0 0) (.int .i64 0) RfT
                have hge := (unhide HB).size
                have hd9 : W10.heap.size ≠ b10 := Nat.ne_of_gt h10.lt
                have h10b := h10.keep hb
                clear h10
                have h10 := h10b
                clear h10b
                have hS2 : Bx (W10.alloc (.cells #[.slice none 0 0, .int .i64 0] RfT)) w.heap.size (.slice aa n ac) (.int .i64 ka) ∧ Bx (W10.alloc (.cells #[.slice none 0 0, .int .i64 0] RfT)) xb (.slice ba m bc) (.int .i64 kb) := ⟨hS.1.keep hb, hS.2.keep hb⟩
                have HBn := hide (bthen (unhide HB) hb)
                refine hK _ _ (fun _ => hS2) ?_
                clear hK K' hS HB hb
                try simp only [List.getElem_toArray, List.getElem_cons_succ, List.getElem_cons_zero, Act.put, List.setIfInBounds_toArray, List.set_cons_zero, List.set_cons_succ]
                have hS := hS2
                have HB := HBn
                clear hS2 HBn
                generalize W10.alloc (.cells #[.slice none 0 0, .int .i64 0] RfT) = W11 at *
                generalize W10.heap.size = b9 at *
                have h9 := hnew
                have hgb9 := hge
                clear hnew hge
                refine anyE_ready [4] (by kernel_rfl) (by simp) (ReadyE.cons rfl (fun K' hK => ?_) ReadyE.nil)
                ·
                  go_simp
                  go_at_call 12
                  refine (unhide HAD' W11 (bthen (unhide HK4).1 (unhide HB))).mono ?_
                  rintro ev W12 ⟨cv, g, gn, gc, rfl, hic, hfr, htd0, hb⟩
                  have htd : Told 0 W12 (.agg #[.slice g gn gc, .int .i64 E1]) wForm 0 E1 := htd0.mono (Nat.zero_le _)
                  clear htd0
                  obtain ⟨ca, cc, rfl⟩ := hic.shape
                  dsimp only
                  try go_simp
                  have hNb9 : C1 ≠ [] → ∀ b o m c, Value.slice ca C1.length cc = .slice (some ⟨b, o, none⟩) m c → b9 ≠ b := fun _ b o m c hv e => by have h1 := hfr b o m c hv; have h2 := h9.lt; omega
                  have hNb10 : C1 ≠ [] → ∀ b o m c, Value.slice ca C1.length cc = .slice (some ⟨b, o, none⟩) m c → b10 ≠ b := fun _ b o m c hv e => by have h1 := hfr b o m c hv; have h2 := h10.lt; omega
                  clear hfr
                  have h9b := h9.keep hb
                  clear h9
                  have h9 := h9b
                  clear h9b
                  have h10b := h10.keep hb
                  clear h10
                  have h10 := h10b
                  clear h10b
                  have hS2 : Bx W12 w.heap.size (.slice aa n ac) (.int .i64 ka) ∧ Bx W12 xb (.slice ba m bc) (.int .i64 kb) := ⟨hS.1.keep hb, hS.2.keep hb⟩
                  have HBn := hide (bthen (unhide HB) hb)
                  refine hK _ _ (fun _ => hS2) ?_
                  clear hK K' hS HB hb
                  try simp only [List.getElem_toArray, List.getElem_cons_succ, List.getElem_cons_zero, Act.put, List.setIfInBounds_toArray, List.set_cons_zero, List.set_cons_succ]
                  have hS := hS2
                  have HB := HBn
                  clear hS2 HBn
                  refine anyE_take 5 (v := ?_) rfl (by kernel_rfl) (by kernel_rfl) (by kernel_rfl) (by kernel_rfl) (fun _ _ _ h => h) hS (Or.inl ⟨by rfl, ?_⟩) ?_
                  rotate_left
                  · intro w' hS'
                    obtain ⟨⟨e0, e1, _, _, _⟩, ⟨g0, g1, _, _, _⟩⟩ := hS'
                    go_simp
                    try with_reducible rfl
                  try simp only [List.getElem_toArray, List.getElem_cons_succ, List.getElem_cons_zero, Act.put, List.setIfInBounds_toArray, List.set_cons_zero, List.set_cons_succ]
                  refine anyE_take 6 (v := ?_) rfl (by kernel_rfl) (by kernel_rfl) (by kernel_rfl) (by kernel_rfl) (fun _ _ _ h => h) hS (Or.inl ⟨by rfl, ?_⟩) ?_
                  rotate_left
                  · intro w' hS'
                    obtain ⟨⟨e0, e1, _, _, _⟩, ⟨g0, g1, _, _, _⟩⟩ := hS'
                    go_simp
                    try with_reducible rfl
                  try simp only [List.getElem_toArray, List.getElem_cons_succ, List.getElem_cons_zero, Act.put, List.setIfInBounds_toArray, List.set_cons_zero, List.set_cons_succ]
                  refine anyE_take 7 (v := ?_) rfl (by kernel_rfl) (by kernel_rfl) (by kernel_rfl) (by kernel_rfl) (fun _ _ _ h => h) hS (Or.inl ⟨by rfl, ?_⟩) ?_
                  rotate_left
                  · intro w' hS'
                    obtain ⟨⟨e0, e1, _, _, _⟩, ⟨g0, g1, _, _, _⟩⟩ := hS'
                    go_simp
                    try with_reducible rfl
                  try simp only [List.getElem_toArray, List.getElem_cons_succ, List.getElem_cons_zero, Act.put, List.setIfInBounds_toArray, List.set_cons_zero, List.set_cons_succ]
                  obtain ⟨f0, f1', f2, f3, f4⟩ := h9
                  have h9 := Bx.mk f0 f1' f2 f3 f4
                  refine anyE_ready [10] (by kernel_rfl) (by simp) (ReadyE.cons rfl (fun K' hK => ?_) ReadyE.nil)
                  go_simp
                  have hic2 := (hic.otherN ⟨b9, 0, none⟩ (.slice ca C1.length cc) hNb9).otherN ⟨b9, 1, none⟩ (.int .i64 K1) hNb9
                  have htd2 := htd.otherN h9 (.slice ca C1.length cc) (.int .i64 K1)
                  have h9b := (h9.set0 (.slice ca C1.length cc)).set1 (.int .i64 K1)
                  have hd9' : b9 ≠ b10 := by first | exact hd9 | exact Ne.symm hd9
                  have h10b := (h10.other ⟨b9, 0, none⟩ hd9' (.slice ca C1.length cc)).other ⟨b9, 1, none⟩ hd9' (.int .i64 K1)
                  have HB2 := hide (((unhide HB).setCell (p := ⟨b9, 0, none⟩) hgb9 (.slice ca C1.length cc)).setCell (p := ⟨b9, 1, none⟩) hgb9 (.int .i64 K1))
                  have k1 : b9 ≠ w.heap.size := by have := (unhide HK4).2.1.lt; omega
                  have k2 : b9 ≠ xb := by have := (unhide HK4).2.2.1.lt; omega
                  have hS9 : Bx ((W12.setCell ⟨b9, 0, none⟩ (.slice ca C1.length cc)).setCell ⟨b9, 1, none⟩ (.int .i64 K1)) w.heap.size (.slice aa n ac) (.int .i64 ka) ∧ Bx ((W12.setCell ⟨b9, 0, none⟩ (.slice ca C1.length cc)).setCell ⟨b9, 1, none⟩ (.int .i64 K1)) xb (.slice ba m bc) (.int .i64 kb) := ⟨(hS.1.other ⟨b9, 0, none⟩ k1 _).other ⟨b9, 1, none⟩ k1 _, (hS.2.other ⟨b9, 0, none⟩ k2 _).other ⟨b9, 1, none⟩ k2 _⟩
                  refine hK _ _ (fun _ => hS9) ?_
                  clear hK K' f0 f1' f2 f3 f4 h9 h10 hic htd HB hS k1 k2
                  try simp only [List.getElem_toArray, List.getElem_cons_succ, List.getElem_cons_zero, Act.put, List.setIfInBounds_toArray, List.set_cons_zero, List.set_cons_succ]
                  generalize (W12.setCell ⟨b9, 0, none⟩ (.slice ca C1.length cc)).setCell ⟨b9, 1, none⟩ (.int .i64 K1) = WX at *
                  have hS := hS9
                  clear hS9
                  obtain ⟨f0, f1', f2, f3, f4⟩ := h10b
                  have h10 := Bx.mk f0 f1' f2 f3 f4
                  refine anyE_ready [11] (by kernel_rfl) (by simp) (ReadyE.cons rfl (fun K' hK => ?_) ReadyE.nil)
                  go_simp
                  have HFIN := hide (And.intro (((unhide HB2).setCell (p := ⟨b10, 0, none⟩) hgb10 (.slice g gn gc)).setCell (p := ⟨b10, 1, none⟩) hgb10 (.int .i64 E1)) (And.intro ((h9b.other ⟨b10, 0, none⟩ (Ne.symm hd9') (.slice g gn gc)).other ⟨b10, 1, none⟩ (Ne.symm hd9') (.int .i64 E1)) (And.intro ((hic2.otherN ⟨b10, 0, none⟩ (.slice g gn gc) hNb10).otherN ⟨b10, 1, none⟩ (.int .i64 E1) hNb10) (And.intro ((h10.set0 (.slice g gn gc)).set1 (.int .i64 E1)) (htd2.otherN h10 (.slice g gn gc) (.int .i64 E1))))))
                  refine hK _ _ (fun h => by exact absurd h (by decide)) ?_
                  clear hK K' f0 f1' f2 f3 f4 h10 h9b hic2 htd2 HB2
                  try simp only [List.getElem_toArray, List.getElem_cons_succ, List.getElem_cons_zero, Act.put, List.setIfInBounds_toArray, List.set_cons_zero, List.set_cons_succ]
                  refine anyE_done (by kernel_rfl) ?_ _
                  go_wp2_with fail
                  go_meet
                  case rel => exact ⟨b9, b10, ca, cc, g, gn, gc, rfl, rfl, HFIN⟩
            ·
              go_simp
              have hb := alloc_below W9 (.cells #[.slice none 0 0, .int .i64 0] RfT)
              have hnew := Bx.new W9 (.slice none 0 0) (.int .i64 0) RfT
              have hge := (unhide HB).size
              have hd9 : W9.heap.size ≠ b10 := Nat.ne_of_gt h10.lt
              have h10b := h10.keep hb
              clear h10
              have h10 := h10b
              clear h10b
              have hS2 : Bx (W9.alloc (.cells #[.slice none 0 0, .int .i64 0] RfT)) w.heap.size (.slice aa n ac) (.int .i64 ka) ∧ Bx (W9.alloc (.cells #[.slice none 0 0, .int .i64 0] RfT)) xb (.slice ba m bc) (.int .i64 kb) := ⟨hS.1.keep hb, hS.2.keep hb⟩
              have HBn := hide (bthen (unhide HB) hb)
              refine hK _ _ (fun _ => hS2) ?_
              clear hK K' hS HB hb
              try simp only [List.getElem_toArray, List.getElem_cons_succ, List.getElem_cons_zero, Act.put, List.setIfInBounds_toArray, List.set_cons_zero, List.set_cons_succ]
              have hS := hS2
              have HB := HBn
              clear hS2 HBn
              generalize W9.alloc (.cells #[.slice none 0 0, .int .i64 0] RfT) = W10 at *
              generalize W9.heap.size = b9 at *
              have h9 := hnew
              have hgb9 := hge
              clear hnew hge
              refine anyE_ready [3] (by kernel_rfl) (by simp) (ReadyE.cons rfl (fun K' hK => ?_) ReadyE.nil)
              ·
                go_simp
                go_at_call 13
                refine (ofF_any W10 ba m bc kb).mono ?_
                rintro ev W11 ⟨rfl, hb⟩
                dsimp only
                try go_simp
                have h9b := h9.keep hb
                clear h9
                have h9 := h9b
                clear h9b
                have h10b := h10.keep hb
                clear h10
                have h10 := h10b
                clear h10b
                have hS2 : Bx W11 w.heap.size (.slice aa n ac) (.int .i64 ka) ∧ Bx W11 xb (.slice ba m bc) (.int .i64 kb) := ⟨hS.1.keep hb, hS.2.keep hb⟩
                have HBn := hide (bthen (unhide HB) hb)
                refine hK _ _ (fun _ => hS2) ?_
                clear hK K' hS HB hb
                try simp only [List.getElem_toArray, List.getElem_cons_succ, List.getElem_cons_zero, Act.put, List.setIfInBounds_toArray, List.set_cons_zero, List.set_cons_succ]
                have hS := hS2
                have HB := HBn
                clear hS2 HBn
                refine anyE_ready [4] (by kernel_rfl) (by simp) (ReadyE.cons rfl (fun K' hK => ?_) ReadyE.nil)
                ·
                  go_simp
                  go_at_call 12
                  refine (unhide HAD' W11 (bthen (unhide HK4).1 (unhide HB))).mono ?_
                  rintro ev W12 ⟨cv, g, gn, gc, rfl, hic, hfr, htd0, hb⟩
                  have htd : Told 0 W12 (.agg #[.slice g gn gc, .int .i64 E1]) wForm 0 E1 := htd0.mono (Nat.zero_le _)
                  clear htd0
                  obtain ⟨ca, cc, rfl⟩ := hic.shape
                  dsimp only
                  try go_simp
                  have hNb9 : C1 ≠ [] → ∀ b o m c, Value.slice ca C1.length cc = .slice (some ⟨b, o, none⟩) m c → b9 ≠ b := fun _ b o m c hv e => by have h1 := hfr b o m c hv; have h2 := h9.lt; omega
                  have hNb10 : C1 ≠ [] → ∀ b o m c, Value.slice ca C1.length cc = .slice (some ⟨b, o, none⟩) m c → b10 ≠ b := fun _ b o m c hv e => by have h1 := hfr b o m c hv; have h2 := h10.lt; omega
                  clear hfr
                  have h9b := h9.keep hb
                  clear h9
                  have h9 := h9b
                  clear h9b
                  have h10b := h10.keep hb
                  clear h10
                  have h10 := h10b
                  clear h10b
                  have hS2 : Bx W12 w.heap.size (.slice aa n ac) (.int .i64 ka) ∧ Bx W12 xb (.slice ba m bc) (.int .i64 kb) := ⟨hS.1.keep hb, hS.2.keep hb⟩
                  have HBn := hide (bthen (unhide HB) hb)
                  refine hK _ _ (fun _ => hS2) ?_
                  clear hK K' hS HB hb
                  try simp only [List.getElem_toArray, List.getElem_cons_succ, List.getElem_cons_zero, Act.put, List.setIfInBounds_toArray, List.set_cons_zero, List.set_cons_succ]
                  have hS := hS2
                  have HB := HBn
                  clear hS2 HBn
                  refine anyE_take 5 (v := ?_) rfl (by kernel_rfl) (by kernel_rfl) (by kernel_rfl) (by kernel_rfl) (fun _ _ _ h => h) hS (Or.inl ⟨by rfl, ?_⟩) ?_
                  rotate_left
                  · intro w' hS'
                    obtain ⟨⟨e0, e1, _, _, _⟩, ⟨g0, g1, _, _, _⟩⟩ := hS'
                    go_simp
                    try with_reducible rfl
                  try simp only [List.getElem_toArray, List.getElem_cons_succ, List.getElem_cons_zero, Act.put, List.setIfInBounds_toArray, List.set_cons_zero, List.set_cons_succ]
                  refine anyE_take 6 (v := ?_) rfl (by kernel_rfl) (by kernel_rfl) (by kernel_rfl) (by kernel_rfl) (fun _ _ _ h => h) hS (Or.inl ⟨by rfl, ?_⟩) ?_
                  rotate_left
                  · intro w' hS'
                    obtain ⟨⟨e0, e1, _, _, _⟩, ⟨g0, g1, _, _, _⟩⟩ := hS'
                    go_simp
                    try with_reducible rfl
                  try simp only [List.getElem_toArray, List.getElem_cons_succ, List.getElem_cons_zero, Act.put, List.setIfInBounds_toArray, List.set_cons_zero, List.set_cons_succ]
                  refine anyE_take 7 (v := ?_) rfl (by kernel_rfl) (by kernel_rfl) (by kernel_rfl) (by kernel_rfl) (fun _ _ _ h => h) hS (Or.inl ⟨by rfl, ?_⟩) ?_
                  rotate_left
                  · intro w' hS'
                    obtain ⟨⟨e0, e1, _, _, _⟩, ⟨g0, g1, _, _, _⟩⟩ := hS'
                    go_simp
                    try with_reducible rfl
                  try simp only [List.getElem_toArray, List.getElem_cons_succ, List.getElem_cons_zero, Act.put, List.setIfInBounds_toArray, List.set_cons_zero, List.set_cons_succ]
                  obtain ⟨f0, f1', f2, f3, f4⟩ := h9
                  have h9 := Bx.mk f0 f1' f2 f3 f4
                  refine anyE_ready [10] (by kernel_rfl) (by simp) (ReadyE.cons rfl (fun K' hK => ?_) ReadyE.nil)
                  go_simp
                  have hic2 := (hic.otherN ⟨b9, 0, none⟩ (.slice ca C1.length cc) hNb9).otherN ⟨b9, 1, none⟩ (.int .i64 K1) hNb9
                  have htd2 := htd.otherN h9 (.slice ca C1.length cc) (.int .i64 K1)
                  have h9b := (h9.set0 (.slice ca C1.length cc)).set1 (.int .i64 K1)
                  have hd9' : b9 ≠ b10 := by first | exact hd9 | exact Ne.symm hd9
                  have h10b := (h10.other ⟨b9, 0, none⟩ hd9' (.slice ca C1.length cc)).other ⟨b9, 1, none⟩ hd9' (.int .i64 K1)
                  have HB2 := hide (((unhide HB).setCell (p := ⟨b9, 0, none⟩) hgb9 (.slice ca C1.length cc)).setCell (p := ⟨b9, 1, none⟩) hgb9 (.int .i64 K1))
                  have k1 : b9 ≠ w.heap.size := by have := (unhide HK4).2.1.lt; omega
                  have k2 : b9 ≠ xb := by have := (unhide HK4).2.2.1.lt; omega
                  have hS9 : Bx ((W12.setCell ⟨b9, 0, none⟩ (.slice ca C1.length cc)).setCell ⟨b9, 1, none⟩ (.int .i64 K1)) w.heap.size (.slice aa n ac) (.int .i64 ka) ∧ Bx ((W12.setCell ⟨b9, 0, none⟩ (.slice ca C1.length cc)).setCell ⟨b9, 1, none⟩ (.int .i64 K1)) xb (.slice ba m bc) (.int .i64 kb) := ⟨(hS.1.other ⟨b9, 0, none⟩ k1 _).other ⟨b9, 1, none⟩ k1 _, (hS.2.other ⟨b9, 0, none⟩ k2 _).other ⟨b9, 1, none⟩ k2 _⟩
                  refine hK _ _ (fun _ => hS9) ?_
                  clear hK K' f0 f1' f2 f3 f4 h9 h10 hic htd HB hS k1 k2
                  try simp only [List.getElem_toArray, List.getElem_cons_succ, List.getElem_cons_zero, Act.put, List.setIfInBounds_toArray, List.set_cons_zero, List.set_cons_succ]
                  generalize (W12.setCell ⟨b9, 0, none⟩ (.slice ca C1.length cc)).setCell ⟨b9, 1, none⟩ (.int .i64 K1) = WX at *
                  have hS := hS9
                  clear hS9
                  obtain ⟨f0, f1', f2, f3, f4⟩ := h10b
                  have h10 := Bx.mk f0 f1' f2 f3 f4
                  refine anyE_ready [11] (by kernel_rfl) (by simp) (ReadyE.cons rfl (fun K' hK => ?_) ReadyE.nil)
                  go_simp
                  have HFIN := hide (And.intro (((unhide HB2).setCell (p := ⟨b10, 0, none⟩) hgb10 (.slice g gn gc)).setCell (p := ⟨b10, 1, none⟩) hgb10 (.int .i64 E1)) (And.intro ((h9b.other ⟨b10, 0, none⟩ (Ne.symm hd9') (.slice g gn gc)).other ⟨b10, 1, none⟩ (Ne.symm hd9') (.int .i64 E1)) (And.intro ((hic2.otherN ⟨b10, 0, none⟩ (.slice g gn gc) hNb10).otherN ⟨b10, 1, none⟩ (.int .i64 E1) hNb10) (And.intro ((h10.set0 (.slice g gn gc)).set1 (.int .i64 E1)) (htd2.otherN h10 (.slice g gn gc) (.int .i64 E1))))))
                  refine hK _ _ (fun h => by exact absurd h (by decide)) ?_
                  clear hK K' f0 f1' f2 f3 f4 h10 h9b hic2 htd2 HB2
                  try simp only [List.getElem_toArray, List.getElem_cons_succ, List.getElem_cons_zero, Act.put, List.setIfInBounds_toArray, List.set_cons_zero, List.set_cons_succ]
                  refine anyE_done (by kernel_rfl) ?_ _
                  go_wp2_with fail
                  go_meet
                  case rel => exact ⟨b9, b10, ca, cc, g, gn, gc, rfl, rfl, HFIN⟩
        ·
          go_simp
          have hb := alloc_below w7 (.cells #[.slice none 0 0, .int .i64 0] RfT)
          have hnew := Bx.new w7 (.slice none 0 0) (.int .i64 0) RfT
          have hge := (unhide HB).size
          have hS2 : Bx (w7.alloc (.cells #[.slice none 0 0, .int .i64 0] RfT)) w.heap.size (.slice aa n ac) (.int .i64 ka) ∧ Bx (w7.alloc (.cells #[.slice none 0 0, .int .i64 0] RfT)) xb (.slice ba m bc) (.int .i64 kb) := ⟨hS.1.keep hb, hS.2.keep hb⟩
          have HBn := hide (bthen (unhide HB) hb)
          refine hK _ _ (fun _ => hS2) ?_
          clear hK K' hS HB hb
          try simp only [List.getElem_toArray, List.getElem_cons_succ, List.getElem_cons_zero, Act.put, List.setIfInBounds_toArray, List.set_cons_zero, List.set_cons_succ]
          have hS := hS2
          have HB := HBn
          clear hS2 HBn
          generalize w7.alloc (.cells #[.slice none 0 0, .int .i64 0] RfT) = W8 at *
          generalize w7.heap.size = b9 at *
          have h9 := hnew
          have hgb9 := hge
          clear hnew hge
          refine anyE_ready [1, 9] (by kernel_rfl) (by simp) (ReadyE.cons rfl (fun K' hK => ?_) (ReadyE.cons rfl (fun K' hK => ?_) ReadyE.nil))
          ·
            go_simp
            go_at_call 13
            refine (ofF_any W8 aa n ac ka).mono ?_
            rintro ev W9 ⟨rfl, hb⟩
            dsimp only
            try go_simp
            have h9b := h9.keep hb
            clear h9
            have h9 := h9b
            clear h9b
            have hS2 : Bx W9 w.heap.size (.slice aa n ac) (.int .i64 ka) ∧ Bx W9 xb (.slice ba m bc) (.int .i64 kb) := ⟨hS.1.keep hb, hS.2.keep hb⟩
            have HBn := hide (bthen (unhide HB) hb)
            refine hK _ _ (fun _ => hS2) ?_
            clear hK K' hS HB hb
            try simp only [List.getElem_toArray, List.getElem_cons_succ, List.getElem_cons_zero, Act.put, List.setIfInBounds_toArray, List.set_cons_zero, List.set_cons_succ]
            have hS := hS2
            have HB := HBn
            clear hS2 HBn
            refine anyE_ready [3, 9] (by kernel_rfl) (by simp) (ReadyE.cons rfl (fun K' hK => ?_) (ReadyE.cons rfl (fun K' hK => ?_) ReadyE.nil))
            ·
              go_simp
              go_at_call 13
              refine (ofF_any W9 ba m bc kb).mono ?_
              rintro ev W10 ⟨rfl, hb⟩
              dsimp only
              try go_simp
              have h9b := h9.keep hb
              clear h9
              have h9 := h9b
              clear h9b
              have hS2 : Bx W10 w.heap.size (.slice aa n ac) (.int .i64 ka) ∧ Bx W10 xb (.slice ba m bc) (.int .i64 kb) := ⟨hS.1.keep hb, hS.2.keep hb⟩
              have HBn := hide (bthen (unhide HB) hb)
              refine hK _ _ (fun _ => hS2) ?_
              clear hK K' hS HB hb
              try simp only [List.getElem_toArray, List.getElem_cons_succ, List.getElem_cons_zero, Act.put, List.setIfInBounds_toArray, List.set_cons_zero, List.set_cons_succ]
              have hS := hS2
              have HB := HBn
              clear hS2 HBn
              refine anyE_ready [4, 9] (by kernel_rfl) (by simp) (ReadyE.cons rfl (fun K' hK => ?_) (ReadyE.cons rfl (fun K' hK => ?_) ReadyE.nil))
              ·
                go_simp
                go_at_call 12
                refine (unhide HAD' W10 (bthen (unhide HK4).1 (unhide HB))).mono ?_
                rintro ev W11 ⟨cv, g, gn, gc, rfl, hic, hfr, htd0, hb⟩
                have htd : Told 0 W11 (.agg #[.slice g gn gc, .int .i64 E1]) wForm 0 E1 := htd0.mono (Nat.zero_le _)
                clear htd0
                obtain ⟨ca, cc, rfl⟩ := hic.shape
                dsimp only
                try go_simp
                have hNb9 : C1 ≠ [] → ∀ b o m c, Value.slice ca C1.length cc = .slice (some ⟨b, o, none⟩) m c → b9 ≠ b := fun _ b o m c hv e => by have h1 := hfr b o m c hv; have h2 := h9.lt; omega
                clear hfr
                have h9b := h9.keep hb
                clear h9
                have h9 := h9b
                clear h9b
                have hS2 : Bx W11 w.heap.size (.slice aa n ac) (.int .i64 ka) ∧ Bx W11 xb (.slice ba m bc) (.int .i64 kb) := ⟨hS.1.keep hb, hS.2.keep hb⟩
                have HBn := hide (bthen (unhide HB) hb)
                refine hK _ _ (fun _ => hS2) ?_
                clear hK K' hS HB hb
                try simp only [List.getElem_toArray, List.getElem_cons_succ, List.getElem_cons_zero, Act.put, List.setIfInBounds_toArray, List.set_cons_zero, List.set_cons_succ]
                have hS := hS2
                have HB := HBn
                clear hS2 HBn
                refine anyE_take 5 (v := ?_) rfl (by kernel_rfl) (by kernel_rfl) (by kernel_rfl) (by kernel_rfl) (fun _ _ _ h => h) hS (Or.inl ⟨by rfl, ?_⟩) ?_
                rotate_left
                · intro w' hS'
                  obtain ⟨⟨e0, e1, _, _, _⟩, ⟨g0, g1, _, _, _⟩⟩ := hS'
                  go_simp
                  try with_reducible rfl
                try simp only [List.getElem_toArray, List.getElem_cons_succ, List.getElem_cons_zero, Act.put, List.setIfInBounds_toArray, List.set_cons_zero, List.set_cons_succ]
                refine anyE_take 6 (v := ?_) rfl (by kernel_rfl) (by kernel_rfl) (by kernel_rfl) (by kernel_rfl) (fun _ _ _ h => h) hS (Or.inl ⟨by rfl, ?_⟩) ?_
                rotate_left
                · intro w' hS'
                  obtain ⟨⟨e0, e1, _, _, _⟩, ⟨g0, g1, _, _, _⟩⟩ := hS'
                  go_simp
                  try with_reducible rfl
                try simp only [List.getElem_toArray, List.getElem_cons_succ, List.getElem_cons_zero, Act.put, List.setIfInBounds_toArray, List.set_cons_zero, List.set_cons_succ]
                refine anyE_take 7 (v := ?_) rfl (by kernel_rfl) (by kernel_rfl) (by kernel_rfl) (by kernel_rfl) (fun _ _ _ h => h) hS (Or.inl ⟨by rfl, ?_⟩) ?_
                rotate_left
                · intro w' hS'
                  obtain ⟨⟨e0, e1, _, _, _⟩, ⟨g0, g1, _, _, _⟩⟩ := hS'
                  go_simp
                  try with_reducible rfl
                try simp only [List.getElem_toArray, List.getElem_cons_succ, List.getElem_cons_zero, Act.put, List.setIfInBounds_toArray, List.set_cons_zero, List.set_cons_succ]
                refine anyE_ready [9] (by kernel_rfl) (by simp) (ReadyE.cons rfl (fun K' hK => ?_) ReadyE.nil)
                ·
                  go_simp
                  have hb := alloc_below W11 (.cells #[.slice none 0 0, .int .i64 0] WrT)
                  have hnew := Bx.new W11 (.slice none 0 0) (.int .i64 0) WrT
                  have hge := (unhide HB).size
                  have hNb10 : C1 ≠ [] → ∀ b o m c, Value.slice ca C1.length cc = .slice (some ⟨b, o, none⟩) m c → W11.heap.size ≠ b := fun hne b o m c hv e => by have := hic.blt hne hv; omega
                  have hd9 : W11.heap.size ≠ b9 := Nat.ne_of_gt h9.lt
                  have h9b := h9.keep hb
                  clear h9
                  have h9 := h9b
                  clear h9b
                  have hic2 := hic.below hb
                  have htd2 := htd.below hb
                  clear hic htd
                  have hic := hic2
                  have htd := htd2
                  clear hic2 htd2
                  have hS2 : Bx (W11.alloc (.cells #[.slice none 0 0, .int .i64 0] WrT)) w.heap.size (.slice aa n ac) (.int .i64 ka) ∧ Bx (W11.alloc (.cells #[.slice none 0 0, .int .i64 0] WrT)) xb (.slice ba m bc) (.int .i64 kb) := ⟨hS.1.keep hb, hS.2.keep hb⟩
                  have HBn := hide (bthen (unhide HB) hb)
                  refine hK _ _ (fun _ => hS2) ?_
                  clear hK K' hS HB hb
                  try simp only [List.getElem_toArray, List.getElem_cons_succ, List.getElem_cons_zero, Act.put, List.setIfInBounds_toArray, List.set_cons_zero, List.set_cons_succ]
                  have hS := hS2
                  have HB := HBn
                  clear hS2 HBn
                  generalize W11.alloc (.cells #[.slice none 0 0, .int .i64 0] WrT) = W12 at *
                  generalize W11.heap.size = b10 at *
                  have h10 := hnew
                  have hgb10 := hge
                  clear hnew hge
                  obtain ⟨f0, f1', f2, f3, f4⟩ := h9
                  have h9 := Bx.mk f0 f1' f2 f3 f4
                  refine anyE_ready [10] (by kernel_rfl) (by simp) (ReadyE.cons rfl (fun K' hK => ?_) ReadyE.nil)
                  go_simp
                  have hic2 := (hic.otherN ⟨b9, 0, none⟩ (.slice ca C1.length cc) hNb9).otherN ⟨b9, 1, none⟩ (.int .i64 K1) hNb9
                  have htd2 := htd.otherN h9 (.slice ca C1.length cc) (.int .i64 K1)
                  have h9b := (h9.set0 (.slice ca C1.length cc)).set1 (.int .i64 K1)
                  have hd9' : b9 ≠ b10 := by first | exact hd9 | exact Ne.symm hd9
                  have h10b := (h10.other ⟨b9, 0, none⟩ hd9' (.slice ca C1.length cc)).other ⟨b9, 1, none⟩ hd9' (.int .i64 K1)
                  have HB2 := hide (((unhide HB).setCell (p := ⟨b9, 0, none⟩) hgb9 (.slice ca C1.length cc)).setCell (p := ⟨b9, 1, none⟩) hgb9 (.int .i64 K1))
                  have k1 : b9 ≠ w.heap.size := by have := (unhide HK4).2.1.lt; omega
                  have k2 : b9 ≠ xb := by have := (unhide HK4).2.2.1.lt; omega
                  have hS9 : Bx ((W12.setCell ⟨b9, 0, none⟩ (.slice ca C1.length cc)).setCell ⟨b9, 1, none⟩ (.int .i64 K1)) w.heap.size (.slice aa n ac) (.int .i64 ka) ∧ Bx ((W12.setCell ⟨b9, 0, none⟩ (.slice ca C1.length cc)).setCell ⟨b9, 1, none⟩ (.int .i64 K1)) xb (.slice ba m bc) (.int .i64 kb) := ⟨(hS.1.other ⟨b9, 0, none⟩ k1 _).other ⟨b9, 1, none⟩ k1 _, (hS.2.other ⟨b9, 0, none⟩ k2 _).other ⟨b9, 1, none⟩ k2 _⟩
                  refine hK _ _ (fun _ => hS9) ?_
                  clear hK K' f0 f1' f2 f3 f4 h9 h10 hic htd HB hS k1 k2
                  try simp only [List.getElem_toArray, List.getElem_cons_succ, List.getElem_cons_zero, Act.put, List.setIfInBounds_toArray, List.set_cons_zero, List.set_cons_succ]
                  generalize (W12.setCell ⟨b9, 0, none⟩ (.slice ca C1.length cc)).setCell ⟨b9, 1, none⟩ (.int .i64 K1) = WX at *
                  have hS := hS9
                  clear hS9
                  obtain ⟨f0, f1', f2, f3, f4⟩ := h10b
                  have h10 := Bx.mk f0 f1' f2 f3 f4
                  refine anyE_ready [11] (by kernel_rfl) (by simp) (ReadyE.cons rfl (fun K' hK => ?_) ReadyE.nil)
                  go_simp
                  have HFIN := hide (And.intro (((unhide HB2).setCell (p := ⟨b10, 0, none⟩) hgb10 (.slice g gn gc)).setCell (p := ⟨b10, 1, none⟩) hgb10 (.int .i64 E1)) (And.intro ((h9b.other ⟨b10, 0, none⟩ (Ne.symm hd9') (.slice g gn gc)).other ⟨b10, 1, none⟩ (Ne.symm hd9') (.int .i64 E1)) (And.intro ((hic2.otherN ⟨b10, 0, none⟩ (.slice g gn gc) hNb10).otherN ⟨b10, 1, none⟩ (.int .i64 E1) hNb10) (And.intro ((h10.set0 (.slice g gn gc)).set1 (.int .i64 E1)) (htd2.otherN h10 (.slice g gn gc) (.int .i64 E1))))))
                  refine hK _ _ (fun h => by exact absurd h (by decide)) ?_
                  clear hK K' f0 f1' f2 f3 f4 h10 h9b hic2 htd2 HB2
                  try simp only [List.getElem_toArray, List.getElem_cons_succ, List.getElem_cons_zero, Act.put, List.setIfInBounds_toArray, List.set_cons_zero, List.set_cons_succ]
                  refine anyE_done (by kernel_rfl) ?_ _
                  go_wp2_with fail
                  go_meet
                  case rel => exact ⟨b9, b10, ca, cc, g, gn, gc, rfl, rfl, HFIN⟩
              ·
                go_simp
                have hb := alloc_below W10 (.cells #[.slice none 0 0, .int .i64 0] WrT)
                have hnew := Bx.new W10 (.slice none 0 0) (.int .i64 0) WrT
                have hge := (unhide HB).size
                have hd9 : W10.heap.size ≠ b9 := Nat.ne_of_gt h9.lt
                have h9b := h9.keep hb
                clear h9
                have h9 := h9b
                clear h9b
                have hS2 : Bx (W10.alloc (.cells #[.slice none 0 0, .int .i64 0] WrT)) w.heap.size (.slice aa n ac) (.int .i64 ka) ∧ Bx (W10.alloc (.cells #[.slice none 0 0, .int .i64 0] WrT)) xb (.slice ba m bc) (.int .i64 kb) := ⟨hS.1.keep hb, hS.2.keep hb⟩
                have HBn := hide (bthen (unhide HB) hb)
                refine hK _ _ (fun _ => hS2) ?_
                clear hK K' hS HB hb
                try simp only [List.getElem_toArray, List.getElem_cons_succ, List.getElem_cons_zero, Act.put, List.setIfInBounds_toArray, List.set_cons_zero, List.set_cons_succ]
                have hS := hS2
                have HB := HBn
                clear hS2 HBn
                generalize W10.alloc (.cells #[.slice none 0 0, .int .i64 0] WrT) = W11 at *
                generalize W10.heap.size = b10 at *
                have h10 := hnew
                have hgb10 := hge
                clear hnew hge
                refine anyE_ready [4] (by kernel_rfl) (by simp) (ReadyE.cons rfl (fun K' hK => ?_) ReadyE.nil)
                ·
                  go_simp
                  go_at_call 12
                  refine (unhide HAD' W11 (bthen (unhide HK4).1 (unhide HB))).mono ?_
                  rintro ev W12 ⟨cv, g, gn, gc, rfl, hic, hfr, htd0, hb⟩
                  have htd : Told 0 W12 (.agg #[.slice g gn gc, .int .i64 E1]) wForm 0 E1 := htd0.mono (Nat.zero_le _)
                  clear htd0
                  obtain ⟨ca, cc, rfl⟩ := hic.shape
                  dsimp only
                  try go_simp
                  have hNb9 : C1 ≠ [] → ∀ b o m c, Value.slice ca C1.length cc = .slice (some ⟨b, o, none⟩) m c → b9 ≠ b := fun _ b o m c hv e => by have h1 := hfr b o m c hv; have h2 := h9.lt; omega
                  have hNb10 : C1 ≠ [] → ∀ b o m c, Value.slice ca C1.length cc = .slice (some ⟨b, o, none⟩) m c → b10 ≠ b := fun _ b o m c hv e => by have h1 := hfr b o m c hv; have h2 := h10.lt; omega
                  clear hfr
                  have h9b := h9.keep hb
                  clear h9
                  have h9 := h9b
                  clear h9b
                  have h10b := h10.keep hb
                  clear h10
                  have h10 := h10b
                  clear h10b
                  have hS2 : Bx W12 w.heap.size (.slice aa n ac) (.int .i64 ka) ∧ Bx W12 xb (.slice ba m bc) (.int .i64 kb) := ⟨hS.1.keep hb, hS.2.keep hb⟩
                  have HBn := hide (bthen (unhide HB) hb)
                  refine hK _ _ (fun _ => hS2) ?_
                  clear hK K' hS HB hb
                  try simp only [List.getElem_toArray, List.getElem_cons_succ, List.getElem_cons_zero, Act.put, List.setIfInBounds_toArray, List.set_cons_zero, List.set_cons_succ]
                  have hS := hS2
                  have HB := HBn
                  clear hS2 HBn
                  refine anyE_take 5 (v := ?_) rfl (by kernel_rfl) (by kernel_rfl) (by kernel_rfl) (by kernel_rfl) (fun _ _ _ h => h) hS (Or.inl ⟨by rfl, ?_⟩) ?_
                  rotate_left
                  · intro w' hS'
                    obtain ⟨⟨e0, e1, _, _, _⟩, ⟨g0, g1, _, _, _⟩⟩ := hS'
                    go_simp
                    try with_reducible rfl
                  try simp only [List.getElem_toArray, List.getElem_cons_succ, List.getElem_cons_zero, Act.put, List.setIfInBounds_toArray, List.set_cons_zero, List.set_cons_succ]
                  refine anyE_take 6 (v := ?_) rfl (by kernel_rfl) (by kernel_rfl) (by kernel_rfl) (by kernel_rfl) (fun _ _ _ h => h) hS (Or.inl ⟨by rfl, ?_⟩) ?_
                  rotate_left
                  · intro w' hS'
                    obtain ⟨⟨e0, e1, _, _, _⟩, ⟨g0, g1, _, _, _⟩⟩ := hS'
                    go_simp
                    try with_reducible rfl
                  try simp only [List.getElem_toArray, List.getElem_cons_succ, List.getElem_cons_zero, Act.put, List.setIfInBounds_toArray, List.set_cons_zero, List.set_cons_succ]
                  refine anyE_take 7 (v := ?_) rfl (by kernel_rfl) (by kernel_rfl) (by kernel_rfl) (by kernel_rfl) (fun _ _ _ h => h) hS (Or.inl ⟨by rfl, ?_⟩) ?_
                  rotate_left
                  · intro w' hS'
                    obtain ⟨⟨e0, e1, _, _, _⟩, ⟨g0, g1, _, _, _⟩⟩ := hS'
                    go_simp
                    try with_reducible rfl
                  try simp only [List.getElem_toArray, List.getElem_cons_succ, List.getElem_cons_zero, Act.put, List.setIfInBounds_toArray, List.set_cons_zero, List.set_cons_succ]
                  obtain ⟨f0, f1', f2, f3, f4⟩ := h9
                  have h9 := Bx.mk f0 f1' f2 f3 f4
                  refine anyE_ready [10] (by kernel_rfl) (by simp) (ReadyE.cons rfl (fun K' hK => ?_) ReadyE.nil)
                  go_simp
                  have hic2 := (hic.otherN ⟨b9, 0, none⟩ (.slice ca C1.length cc) hNb9).otherN ⟨b9, 1, none⟩ (.int .i64 K1) hNb9
                  have htd2 := htd.otherN h9 (.slice ca C1.length cc) (.int .i64 K1)
                  have h9b := (h9.set0 (.slice ca C1.length cc)).set1 (.int .i64 K1)
                  have hd9' : b9 ≠ b10 := by first | exact hd9 | exact Ne.symm hd9
                  have h10b := (h10.other ⟨b9, 0, none⟩ hd9' (.slice ca C1.length cc)).other ⟨b9, 1, none⟩ hd9' (.int .i64 K1)
                  have HB2 := hide (((unhide HB).setCell (p := ⟨b9, 0, none⟩) hgb9 (.slice ca C1.length cc)).setCell (p := ⟨b9, 1, none⟩) hgb9 (.int .i64 K1))
                  have k1 : b9 ≠ w.heap.size := by have := (unhide HK4).2.1.lt; omega
                  have k2 : b9 ≠ xb := by have := (unhide HK4).2.2.1.lt; omega
                  have hS9 : Bx ((W12.setCell ⟨b9, 0, none⟩ (.slice ca C1.length cc)).setCell ⟨b9, 1, none⟩ (.int .i64 K1)) w.heap.size (.slice aa n ac) (.int .i64 ka) ∧ Bx ((W12.setCell ⟨b9, 0, none⟩ (.slice ca C1.length cc)).setCell ⟨b9, 1, none⟩ (.int .i64 K1)) xb (.slice ba m bc) (.int .i64 kb) := ⟨(hS.1.other ⟨b9, 0, none⟩ k1 _).other ⟨b9, 1, none⟩ k1 _, (hS.2.other ⟨b9, 0, none⟩ k2 _).other ⟨b9, 1, none⟩ k2 _⟩
                  refine hK _ _ (fun _ => hS9) ?_
                  clear hK K' f0 f1' f2 f3 f4 h9 h10 hic htd HB hS k1 k2
                  try simp only [List.getElem_toArray, List.getElem_cons_succ, List.getElem_cons_zero, Act.put, List.setIfInBounds_toArray, List.set_cons_zero, List.set_cons_succ]
                  generalize (W12.setCell ⟨b9, 0, none⟩ (.slice ca C1.length cc)).setCell ⟨b9, 1, none⟩ (.int .i64 K1) = WX at *
                  have hS := hS9
                  clear hS9
                  obtain ⟨f0, f1', f2, f3, f4⟩ := h10b
                  have h10 := Bx.mk f0 f1' f2 f3 f4
                  refine anyE_ready [11] (by kernel_rfl) (by simp) (ReadyE.cons rfl (fun K' hK => ?_) ReadyE.nil)
                  go_simp
                  have HFIN := hide (And.intro (((unhide HB2).setCell (p := ⟨b10, 0, none⟩) hgb10 (.slice g gn gc)).setCell (p := ⟨b10, 1, none⟩) hgb10 (.int .i64 E1)) (And.intro ((h9b.other ⟨b10, 0, none⟩ (Ne.symm hd9') (.slice g gn gc)).other ⟨b10, 1, none⟩ (Ne.symm hd9') (.int .i64 E1)) (And.intro ((hic2.otherN ⟨b10, 0, none⟩ (.slice g gn gc) hNb10).otherN ⟨b10, 1, none⟩ (.int .i64 E1) hNb10) (And.intro ((h10.set0 (.slice g gn gc)).set1 (.int .i64 E1)) (htd2.otherN h10 (.slice g gn gc) (.int .i64 E1))))))
                  refine hK _ _ (fun h => by exact absurd h (by decide)) ?_
                  clear hK K' f0 f1' f2 f3 f4 h10 h9b hic2 htd2 HB2
                  try simp only [List.getElem_toArray, List.getElem_cons_succ, List.getElem_cons_zero, Act.put, List.setIfInBounds_toArray, List.set_cons_zero, List.set_cons_succ]
                  refine anyE_done (by kernel_rfl) ?_ _
                  go_wp2_with fail
                  go_meet
                  case rel => exact ⟨b9, b10, ca, cc, g, gn, gc, rfl, rfl, HFIN⟩
            ·
              go_simp
              have hb := alloc_below W9 (.cells #[.slice none 0 0, .int .i64 0] WrT)
              have hnew := Bx.new W9 (.slice none 0 0) (.int .i64 0) WrT
              have hge := (unhide HB).size
              have hd9 : W9.heap.size ≠ b9 := Nat.ne_of_gt h9.lt
              have h9b := h9.keep hb
              clear h9
              have h9 := h9b
              clear h9b
              have hS2 : Bx (W9.alloc (.cells #[.slice none 0 0, .int .i64 0] WrT)) w.heap.size (.slice aa n ac) (.int .i64 ka) ∧ Bx (W9.alloc (.cells #[.slice none 0 0, .int .i64 0] WrT)) xb (.slice ba m bc) (.int .i64 kb) := ⟨hS.1.keep hb, hS.2.keep hb⟩
              have HBn := hide (bthen (unhide HB) hb)
              refine hK _ _ (fun _ => hS2) ?_
              clear hK K' hS HB hb
              try simp only [List.getElem_toArray, List.getElem_cons_succ, List.getElem_cons_zero, Act.put, List.setIfInBounds_toArray, List.set_cons_zero, List.set_cons_succ]
              have hS := hS2
              have HB := HBn
              clear hS2 HBn
              generalize W9.alloc (.cells #[.slice none 0 0, .int .i64 0] WrT) = W10 at *
              generalize W9.heap.size = b10 at *
              have h10 := hnew
              have hgb10 := hge
              clear hnew hge
              refine anyE_ready [3] (by kernel_rfl) (by simp) (ReadyE.cons rfl (fun K' hK => ?_) ReadyE.nil)
              ·
                go_simp
                go_at_call 13
                refine (ofF_any W10 ba m bc kb).mono ?_
                rintro ev W11 ⟨rfl, hb⟩
                dsimp only
                try go_simp
                have h9b := h9.keep hb
                clear h9
                have h9 := h9b
                clear h9b
                have h10b := h10.keep hb
                clear h10
                have h10 := h10b
                clear h10b
                have hS2 : Bx W11 w.heap.size (.slice aa n ac) (.int .i64 ka) ∧ Bx W11 xb (.slice ba m bc) (.int .i64 kb) := ⟨hS.1.keep hb, hS.2.keep hb⟩
                have HBn := hide (bthen (unhide HB) hb)
                refine hK _ _ (fun _ => hS2) ?_
                clear hK K' hS HB hb
                try simp only [List.getElem_toArray, List.getElem_cons_succ, List.getElem_cons_zero, Act.put, List.setIfInBounds_toArray, List.set_cons_zero, List.set_cons_succ]
                have hS := hS2
                have HB := HBn
                clear hS2 HBn
                refine anyE_ready [4] (by kernel_rfl) (by simp) (ReadyE.cons rfl (fun K' hK => ?_) ReadyE.nil)
                ·
                  go_simp
                  go_at_call 12
                  refine (unhide HAD' W11 (bthen (unhide HK4).1 (unhide HB))).mono ?_
                  rintro ev W12 ⟨cv, g, gn, gc, rfl, hic, hfr, htd0, hb⟩
                  have htd : Told 0 W12 (.agg #[.slice g gn gc, .int .i64 E1]) wForm 0 E1 := htd0.mono (Nat.zero_le _)
                  clear htd0
                  obtain ⟨ca, cc, rfl⟩ := hic.shape
                  dsimp only
                  try go_simp
                  have hNb9 : C1 ≠ [] → ∀ b o m c, Value.slice ca C1.length cc = .slice (some ⟨b, o, none⟩) m c → b9 ≠ b := fun _ b o m c hv e => by have h1 := hfr b o m c hv; have h2 := h9.lt; omega
                  have hNb10 : C1 ≠ [] → ∀ b o m c, Value.slice ca C1.length cc = .slice (some ⟨b, o, none⟩) m c → b10 ≠ b := fun _ b o m c hv e => by have h1 := hfr b o m c hv; have h2 := h10.lt; omega
                  clear hfr
                  have h9b := h9.keep hb
                  clear h9
                  have h9 := h9b
                  clear h9b
                  have h10b := h10.keep hb
                  clear h10
                  have h10 := h10b
                  clear h10b
                  have hS2 : Bx W12 w.heap.size (.slice aa n ac) (.int .i64 ka) ∧ Bx W12 xb (.slice ba m bc) (.int .i64 kb) := ⟨hS.1.keep hb, hS.2.keep hb⟩
                  have HBn := hide (bthen (unhide HB) hb)
                  refine hK _ _ (fun _ => hS2) ?_
                  clear hK K' hS HB hb
                  try simp only [List.getElem_toArray, List.getElem_cons_succ, List.getElem_cons_zero, Act.put, List.setIfInBounds_toArray, List.set_cons_zero, List.set_cons_succ]
                  have hS := hS2
                  have HB := HBn
                  clear hS2 HBn
                  refine anyE_take 5 (v := ?_) rfl (by kernel_rfl) (by kernel_rfl) (by kernel_rfl) (by kernel_rfl) (fun _ _ _ h => h) hS (Or.inl ⟨by rfl, ?_⟩) ?_
                  rotate_left
                  · intro w' hS'
                    obtain ⟨⟨e0, e1, _, _, _⟩, ⟨g0, g1, _, _, _⟩⟩ := hS'
                    go_simp
                    try with_reducible rfl
                  try simp only [List.getElem_toArray, List.getElem_cons_succ, List.getElem_cons_zero, Act.put, List.setIfInBounds_toArray, List.set_cons_zero, List.set_cons_succ]
                  refine anyE_take 6 (v := ?_) rfl (by kernel_rfl) (by kernel_rfl) (by kernel_rfl) (by kernel_rfl) (fun _ _ _ h => h) hS (Or.inl ⟨by rfl, ?_⟩) ?_
                  rotate_left
                  · intro w' hS'
                    obtain ⟨⟨e0, e1, _, _, _⟩, ⟨g0, g1, _, _, _⟩⟩ := hS'
                    go_simp
                    try with_reducible rfl
                  try simp only [List.getElem_toArray, List.getElem_cons_succ, List.getElem_cons_zero, Act.put, List.setIfInBounds_toArray, List.set_cons_zero, List.set_cons_succ]
                  refine anyE_take 7 (v := ?_) rfl (by kernel_rfl) (by kernel_rfl) (by kernel_rfl) (by kernel_rfl) (fun _ _ _ h => h) hS (Or.inl ⟨by rfl, ?_⟩) ?_
                  rotate_left
                  · intro w' hS'
                    obtain ⟨⟨e0, e1, _, _, _⟩, ⟨g0, g1, _, _, _⟩⟩ := hS'
                    go_simp
                    try with_reducible rfl
                  try simp only [List.getElem_toArray, List.getElem_cons_succ, List.getElem_cons_zero, Act.put, List.setIfInBounds_toArray, List.set_cons_zero, List.set_cons_succ]
                  obtain ⟨f0, f1', f2, f3, f4⟩ := h9
                  have h9 := Bx.mk f0 f1' f2 f3 f4
                  refine anyE_ready [10] (by kernel_rfl) (by simp) (ReadyE.cons rfl (fun K' hK => ?_) ReadyE.nil)
                  go_simp
                  have hic2 := (hic.otherN ⟨b9, 0, none⟩ (.slice ca C1.length cc) hNb9).otherN ⟨b9, 1, none⟩ (.int .i64 K1) hNb9
                  have htd2 := htd.otherN h9 (.slice ca C1.length cc) (.int .i64 K1)
                  have h9b := (h9.set0 (.slice ca C1.length cc)).set1 (.int .i64 K1)
                  have hd9' : b9 ≠ b10 := by first | exact hd9 | exact Ne.symm hd9
                  have h10b := (h10.other ⟨b9, 0, none⟩ hd9' (.slice ca C1.length cc)).other ⟨b9, 1, none⟩ hd9' (.int .i64 K1)
                  have HB2 := hide (((unhide HB).setCell (p := ⟨b9, 0, none⟩) hgb9 (.slice ca C1.length cc)).setCell (p := ⟨b9, 1, none⟩) hgb9 (.int .i64 K1))
                  have k1 : b9 ≠ w.heap.size := by have := (unhide HK4).2.1.lt; omega
                  have k2 : b9 ≠ xb := by have := (unhide HK4).2.2.1.lt; omega
                  have hS9 : Bx ((W12.setCell ⟨b9, 0, none⟩ (.slice ca C1.length cc)).setCell ⟨b9, 1, none⟩ (.int .i64 K1)) w.heap.size (.slice aa n ac) (.int .i64 ka) ∧ Bx ((W12.setCell ⟨b9, 0, none⟩ (.slice ca C1.length cc)).setCell ⟨b9, 1, none⟩ (.int .i64 K1)) xb (.slice ba m bc) (.int .i64 kb) := ⟨(hS.1.other ⟨b9, 0, none⟩ k1 _).other ⟨b9, 1, none⟩ k1 _, (hS.2.other ⟨b9, 0, none⟩ k2 _).other ⟨b9, 1, none⟩ k2 _⟩
                  refine hK _ _ (fun _ => hS9) ?_
                  clear hK K' f0 f1' f2 f3 f4 h9 h10 hic htd HB hS k1 k2
                  try simp only [List.getElem_toArray, List.getElem_cons_succ, List.getElem_cons_zero, Act.put, List.setIfInBounds_toArray, List.set_cons_zero, List.set_cons_succ]
                  generalize (W12.setCell ⟨b9, 0, none⟩ (.slice ca C1.length cc)).setCell ⟨b9, 1, none⟩ (.int .i64 K1) = WX at *
                  have hS := hS9
                  clear hS9
                  obtain ⟨f0, f1', f2, f3, f4⟩ := h10b
                  have h10 := Bx.mk f0 f1' f2 f3 f4
                  refine anyE_ready [11] (by kernel_rfl) (by simp) (ReadyE.cons rfl (fun K' hK => ?_) ReadyE.nil)
                  go_simp
                  have HFIN := hide (And.intro (((unhide HB2).setCell (p := ⟨b10, 0, none⟩) hgb10 (.slice g gn gc)).setCell (p := ⟨b10, 1, none⟩) hgb10 (.int .i64 E1)) (And.intro ((h9b.other ⟨b10, 0, none⟩ (Ne.symm hd9') (.slice g gn gc)).other ⟨b10, 1, none⟩ (Ne.symm hd9') (.int .i64 E1)) (And.intro ((hic2.otherN ⟨b10, 0, none⟩ (.slice g gn gc) hNb10).otherN ⟨b10, 1, none⟩ (.int .i64 E1) hNb10) (And.intro ((h10.set0 (.slice g gn gc)).set1 (.int .i64 E1)) (htd2.otherN h10 (.slice g gn gc) (.int .i64 E1))))))
                  refine hK _ _ (fun h => by exact absurd h (by decide)) ?_
                  clear hK K' f0 f1' f2 f3 f4 h10 h9b hic2 htd2 HB2
                  try simp only [List.getElem_toArray, List.getElem_cons_succ, List.getElem_cons_zero, Act.put, List.setIfInBounds_toArray, List.set_cons_zero, List.set_cons_succ]
                  refine anyE_done (by kernel_rfl) ?_ _
                  go_wp2_with fail
                  go_meet
                  case rel => exact ⟨b9, b10, ca, cc, g, gn, gc, rfl, rfl, HFIN⟩
          ·
            go_simp
            have hb := alloc_below W8 (.cells #[.slice none 0 0, .int .i64 0] WrT)
            have hnew := Bx.new W8 (.slice none 0 0) (.int .i64 0) WrT
            have hge := (unhide HB).size
            have hd9 : W8.heap.size ≠ b9 := Nat.ne_of_gt h9.lt
            have h9b := h9.keep hb
            clear h9
            have h9 := h9b
            clear h9b
            have hS2 : Bx (W8.alloc (.cells #[.slice none 0 0, .int .i64 0] WrT)) w.heap.size (.slice aa n ac) (.int .i64 ka) ∧ Bx (W8.alloc (.cells #[.slice none 0 0, .int .i64 0] WrT)) xb (.slice ba m bc) (.int .i64 kb) := ⟨hS.1.keep hb, hS.2.keep hb⟩
            have HBn := hide (bthen (unhide HB) hb)
            refine hK _ _ (fun _ => hS2) ?_
            clear hK K' hS HB hb
            try simp only [List.getElem_toArray, List.getElem_cons_succ, List.getElem_cons_zero, Act.put, List.setIfInBounds_toArray, List.set_cons_zero, List.set_cons_succ]
            have hS := hS2
            have HB := HBn
            clear hS2 HBn
            generalize W8.alloc (.cells #[.slice none 0 0, .int .i64 0] WrT) = W9 at *
            generalize W8.heap.size = b10 at *
            have h10 := hnew
            have hgb10 := hge
            clear hnew hge
            refine anyE_ready [1] (by kernel_rfl) (by simp) (ReadyE.cons rfl (fun K' hK => ?_) ReadyE.nil)
            ·
              go_simp
              go_at_call 13
              refine (ofF_any W9 aa n ac ka).mono ?_
              rintro ev W10 ⟨rfl, hb⟩
              dsimp only
              try go_simp
              have h9b := h9.keep hb
              clear h9
              have h9 := h9b
              clear h9b
              have h10b := h10.keep hb
              clear h10
              have h10 := h10b
              clear h10b
              have hS2 : Bx W10 w.heap.size (.slice aa n ac) (.int .i64 ka) ∧ Bx W10 xb (.slice ba m bc) (.int .i64 kb) := ⟨hS.1.keep hb, hS.2.keep hb⟩
              have HBn := hide (bthen (unhide HB) hb)
              refine hK _ _ (fun _ => hS2) ?_
              clear hK K' hS HB hb
              try simp only [List.getElem_toArray, List.getElem_cons_succ, List.getElem_cons_zero, Act.put, List.setIfInBounds_toArray, List.set_cons_zero, List.set_cons_succ]
              have hS := hS2
              have HB := HBn
              clear hS2 HBn
              refine anyE_ready [3] (by kernel_rfl) (by simp) (ReadyE.cons rfl (fun K' hK => ?_) ReadyE.nil)
              ·
                go_simp
                go_at_call 13
                refine (ofF_any W10 ba m bc kb).mono ?_
                rintro ev W11 ⟨rfl, hb⟩
                dsimp only
                try go_simp
                have h9b := h9.keep hb
                clear h9
                have h9 := h9b
                clear h9b
                have h10b := h10.keep hb
                clear h10
                have h10 := h10b
                clear h10b
                have hS2 : Bx W11 w.heap.size (.slice aa n ac) (.int .i64 ka) ∧ Bx W11 xb (.slice ba m bc) (.int .i64 kb) := ⟨hS.1.keep hb, hS.2.keep hb⟩
                have HBn := hide (bthen (unhide HB) hb)
                refine hK _ _ (fun _ => hS2) ?_
                clear hK K' hS HB hb
                try simp only [List.getElem_toArray, List.getElem_cons_succ, List.getElem_cons_zero, Act.put, List.setIfInBounds_toArray, List.set_cons_zero, List.set_cons_succ]
                have hS := hS2
                have HB := HBn
                clear hS2 HBn
                refine anyE_ready [4] (by kernel_rfl) (by simp) (ReadyE.cons rfl (fun K' hK => ?_) ReadyE.nil)
                ·
                  go_simp
                  go_at_call 12
                  refine (unhide HAD' W11 (bthen (unhide HK4).1 (unhide HB))).mono ?_
                  rintro ev W12 ⟨cv, g, gn, gc, rfl, hic, hfr, htd0, hb⟩
                  have htd : Told 0 W12 (.agg #[.slice g gn gc, .int .i64 E1]) wForm 0 E1 := htd0.mono (Nat.zero_le _)
                  clear htd0
                  obtain ⟨ca, cc, rfl⟩ := hic.shape
                  dsimp only
                  try go_simp
                  have hNb9 : C1 ≠ [] → ∀ b o m c, Value.slice ca C1.length cc = .slice (some ⟨b, o, none⟩) m c → b9 ≠ b := fun _ b o m c hv e => by have h1 := hfr b o m c hv; have h2 := h9.lt; omega
                  have hNb10 : C1 ≠ [] → ∀ b o m c, Value.slice ca C1.length cc = .slice (some ⟨b, o, none⟩) m c → b10 ≠ b := fun _ b o m c hv e => by have h1 := hfr b o m c hv; have h2 := h10.lt; omega
                  clear hfr
                  have h9b := h9.keep hb
                  clear h9
                  have h9 := h9b
                  clear h9b
                  have h10b := h10.keep hb
                  clear h10
                  have h10 := h10b
                  clear h10b
                  have hS2 : Bx W12 w.heap.size (.slice aa n ac) (.int .i64 ka) ∧ Bx W12 xb (.slice ba m bc) (.int .i64 kb) := ⟨hS.1.keep hb, hS.2.keep hb⟩
                  have HBn := hide (bthen (unhide HB) hb)
                  refine hK _ _ (fun _ => hS2) ?_
                  clear hK K' hS HB hb
                  try simp only [List.getElem_toArray, List.getElem_cons_succ, List.getElem_cons_zero, Act.put, List.setIfInBounds_toArray, List.set_cons_zero, List.set_cons_succ]
                  have hS := hS2
                  have HB := HBn
                  clear hS2 HBn
                  refine anyE_take 5 (v := ?_) rfl (by kernel_rfl) (by kernel_rfl) (by kernel_rfl) (by kernel_rfl) (fun _ _ _ h => h) hS (Or.inl ⟨by rfl, ?_⟩) ?_
                  rotate_left
                  · intro w' hS'
                    obtain ⟨⟨e0, e1, _, _, _⟩, ⟨g0, g1, _, _, _⟩⟩ := hS'
                    go_simp
                    try with_reducible rfl
                  try simp only [List.getElem_toArray, List.getElem_cons_succ, List.getElem_cons_zero, Act.put, List.setIfInBounds_toArray, List.set_cons_zero, List.set_cons_succ]
                  refine anyE_take 6 (v := ?_) rfl (by kernel_rfl) (by kernel_rfl) (by kernel_rfl) (by kernel_rfl) (fun _ _ _ h => h) hS (Or.inl ⟨by rfl, ?_⟩) ?_
                  rotate_left
                  · intro w' hS'
                    obtain ⟨⟨e0, e1, _, _, _⟩, ⟨g0, g1, _, _, _⟩⟩ := hS'
                    go_simp
                    try with_reducible rfl
                  try simp only [List.getElem_toArray, List.getElem_cons_succ, List.getElem_cons_zero, Act.put, List.setIfInBounds_toArray, List.set_cons_zero, List.set_cons_succ]
                  refine anyE_take 7 (v := ?_) rfl (by kernel_rfl) (by kernel_rfl) (by kernel_rfl) (by kernel_rfl) (fun _ _ _ h => h) hS (Or.inl ⟨by rfl, ?_⟩) ?_
                  rotate_left
                  · intro w' hS'
                    obtain ⟨⟨e0, e1, _, _, _⟩, ⟨g0, g1, _, _, _⟩⟩ := hS'
                    go_simp
                    try with_reducible rfl
                  try simp only [List.getElem_toArray, List.getElem_cons_succ, List.getElem_cons_zero, Act.put, List.setIfInBounds_toArray, List.set_cons_zero, List.set_cons_succ]
                  obtain ⟨f0, f1', f2, f3, f4⟩ := h9
                  have h9 := Bx.mk f0 f1' f2 f3 f4
                  refine anyE_ready [10] (by kernel_rfl) (by simp) (ReadyE.cons rfl (fun K' hK => ?_) ReadyE.nil)
                  go_simp
                  have hic2 := (hic.otherN ⟨b9, 0, none⟩ (.slice ca C1.length cc) hNb9).otherN ⟨b9, 1, none⟩ (.int .i64 K1) hNb9
                  have htd2 := htd.otherN h9 (.slice ca C1.length cc) (.int .i64 K1)
                  have h9b := (h9.set0 (.slice ca C1.length cc)).set1 (.int .i64 K1)
                  have hd9' : b9 ≠ b10 := by first | exact hd9 | exact Ne.symm hd9
                  have h10b := (h10.other ⟨b9, 0, none⟩ hd9' (.slice ca C1.length cc)).other ⟨b9, 1, none⟩ hd9' (.int .i64 K1)
                  have HB2 := hide (((unhide HB).setCell (p := ⟨b9, 0, none⟩) hgb9 (.slice ca C1.length cc)).setCell (p := ⟨b9, 1, none⟩) hgb9 (.int .i64 K1))
                  have k1 : b9 ≠ w.heap.size := by have := (unhide HK4).2.1.lt; omega
                  have k2 : b9 ≠ xb := by have := (unhide HK4).2.2.1.lt; omega
                  have hS9 : Bx ((W12.setCell ⟨b9, 0, none⟩ (.slice ca C1.length cc)).setCell ⟨b9, 1, none⟩ (.int .i64 K1)) w.heap.size (.slice aa n ac) (.int .i64 ka) ∧ Bx ((W12.setCell ⟨b9, 0, none⟩ (.slice ca C1.length cc)).setCell ⟨b9, 1, none⟩ (.int .i64 K1)) xb (.slice ba m bc) (.int .i64 kb) := ⟨(hS.1.other ⟨b9, 0, none⟩ k1 _).other ⟨b9, 1, none⟩ k1 _, (hS.2.other ⟨b9, 0, none⟩ k2 _).other ⟨b9, 1, none⟩ k2 _⟩
                  refine hK _ _ (fun _ => hS9) ?_
                  clear hK K' f0 f1' f2 f3 f4 h9 h10 hic htd HB hS k1 k2
                  try simp only [List.getElem_toArray, List.getElem_cons_succ, List.getElem_cons_zero, Act.put, List.setIfInBounds_toArray, List.set_cons_zero, List.set_cons_succ]
                  generalize (W12.setCell ⟨b9, 0, none⟩ (.slice ca C1.length cc)).setCell ⟨b9, 1, none⟩ (.int .i64 K1) = WX at *
                  have hS := hS9
                  clear hS9
                  obtain ⟨f0, f1', f2, f3, f4⟩ := h10b
                  have h10 := Bx.mk f0 f1' f2 f3 f4
                  refine anyE_ready [11] (by kernel_rfl) (by simp) (ReadyE.cons rfl (fun K' hK => ?_) ReadyE.nil)
                  go_simp
                  have HFIN := hide (And.intro (((unhide HB2).setCell (p := ⟨b10, 0, none⟩) hgb10 (.slice g gn gc)).setCell (p := ⟨b10, 1, none⟩) hgb10 (.int .i64 E1)) (And.intro ((h9b.other ⟨b10, 0, none⟩ (Ne.symm hd9') (.slice g gn gc)).other ⟨b10, 1, none⟩ (Ne.symm hd9') (.int .i64 E1)) (And.intro ((hic2.otherN ⟨b10, 0, none⟩ (.slice g gn gc) hNb10).otherN ⟨b10, 1, none⟩ (.int .i64 E1) hNb10) (And.intro ((h10.set0 (.slice g gn gc)).set1 (.int .i64 E1)) (htd2.otherN h10 (.slice g gn gc) (.int .i64 E1))))))
                  refine hK _ _ (fun h => by exact absurd h (by decide)) ?_
                  clear hK K' f0 f1' f2 f3 f4 h10 h9b hic2 htd2 HB2
                  try simp only [List.getElem_toArray, List.getElem_cons_succ, List.getElem_cons_zero, Act.put, List.setIfInBounds_toArray, List.set_cons_zero, List.set_cons_succ]
                  refine anyE_done (by kernel_rfl) ?_ _
                  go_wp2_with fail
                  go_meet
                  case rel => exact ⟨b9, b10, ca, cc, g, gn, gc, rfl, rfl, HFIN⟩
        ·
          go_simp
          have hb := alloc_below w7 (.cells #[.slice none 0 0, .int .i64 0] WrT)
          have hnew := Bx.new w7 (.slice none 0 0) (.int .i64 0) WrT
          have hge := (unhide HB).size
          have hS2 : Bx (w7.alloc (.cells #[.slice none 0 0, .int .i64 0] WrT)) w.heap.size (.slice aa n ac) (.int .i64 ka) ∧ Bx (w7.alloc (.cells #[.slice none 0 0, .int .i64 0] WrT)) xb (.slice ba m bc) (.int .i64 kb) := ⟨hS.1.keep hb, hS.2.keep hb⟩
          have HBn := hide (bthen (unhide HB) hb)
          refine hK _ _ (fun _ => hS2) ?_
          clear hK K' hS HB hb
          try simp only [List.getElem_toArray, List.getElem_cons_succ, List.getElem_cons_zero, Act.put, List.setIfInBounds_toArray, List.set_cons_zero, List.set_cons_succ]
          have hS := hS2
          have HB := HBn
          clear hS2 HBn
          generalize w7.alloc (.cells #[.slice none 0 0, .int .i64 0] WrT) = W8 at *
          generalize w7.heap.size = b10 at *
          have h10 := hnew
          have hgb10 := hge
          clear hnew hge
          refine anyE_ready [1, 8] (by kernel_rfl) (by simp) (ReadyE.cons rfl (fun K' hK => ?_) (ReadyE.cons rfl (fun K' hK => ?_) ReadyE.nil))
          ·
            go_simp
            go_at_call 13
            refine (ofF_any W8 aa n ac ka).mono ?_
            rintro ev W9 ⟨rfl, hb⟩
            dsimp only
            try go_simp
            have h10b := h10.keep hb
            clear h10
            have h10 := h10b
            clear h10b
            have hS2 : Bx W9 w.heap.size (.slice aa n ac) (.int .i64 ka) ∧ Bx W9 xb (.slice ba m bc) (.int .i64 kb) := ⟨hS.1.keep hb, hS.2.keep hb⟩
            have HBn := hide (bthen (unhide HB) hb)
            refine hK _ _ (fun _ => hS2) ?_
            clear hK K' hS HB hb
            try simp only [List.getElem_toArray, List.getElem_cons_succ, List.getElem_cons_zero, Act.put, List.setIfInBounds_toArray, List.set_cons_zero, List.set_cons_succ]
            have hS := hS2
            have HB := HBn
            clear hS2 HBn
            refine anyE_ready [3, 8] (by kernel_rfl) (by simp) (ReadyE.cons rfl (fun K' hK => ?_) (ReadyE.cons rfl (fun K' hK => ?_) ReadyE.nil))
            ·
              go_simp
              go_at_call 13
              refine (ofF_any W9 ba m bc kb).mono ?_
              rintro ev W10 ⟨rfl, hb⟩
              dsimp only
              try go_simp
              have h10b := h10.keep hb
              clear h10
              have h10 := h10b
              clear h10b
              have hS2 : Bx W10 w.heap.size (.slice aa n ac) (.int .i64 ka) ∧ Bx W10 xb (.slice ba m bc) (.int .i64 kb) := ⟨hS.1.keep hb, hS.2.keep hb⟩
              have HBn := hide (bthen (unhide HB) hb)
              refine hK _ _ (fun _ => hS2) ?_
              clear hK K' hS HB hb
              try simp only [List.getElem_toArray, List.getElem_cons_succ, List.getElem_cons_zero, Act.put, List.setIfInBounds_toArray, List.set_cons_zero, List.set_cons_succ]
              have hS := hS2
              have HB := HBn
              clear hS2 HBn
              refine anyE_ready [4, 8] (by kernel_rfl) (by simp) (ReadyE.cons rfl (fun K' hK => ?_) (ReadyE.cons rfl (fun K' hK => ?_) ReadyE.nil))
              ·
                go_simp
                go_at_call 12
                refine (unhide HAD' W10 (bthen (unhide HK4).1 (unhide HB))).mono ?_
                rintro ev W11 ⟨cv, g, gn, gc, rfl, hic, hfr, htd0, hb⟩
                have htd : Told 0 W11 (.agg #[.slice g gn gc, .int .i64 E1]) wForm 0 E1 := htd0.mono (Nat.zero_le _)
                clear htd0
                obtain ⟨ca, cc, rfl⟩ := hic.shape
                dsimp only
                try go_simp
                have hNb10 : C1 ≠ [] → ∀ b o m c, Value.slice ca C1.length cc = .slice (some ⟨b, o, none⟩) m c → b10 ≠ b := fun _ b o m c hv e => by have h1 := hfr b o m c hv; have h2 := h10.lt; omega
                clear hfr
                have h10b := h10.keep hb
                clear h10
                have h10 := h10b
                clear h10b
                have hS2 : Bx W11 w.heap.size (.slice aa n ac) (.int .i64 ka) ∧ Bx W11 xb (.slice ba m bc) (.int .i64 kb) := ⟨hS.1.keep hb, hS.2.keep hb⟩
                have HBn := hide (bthen (unhide HB) hb)
                refine hK _ _ (fun _ => hS2) ?_
                clear hK K' hS HB hb
                try simp only [List.getElem_toArray, List.getElem_cons_succ, List.getElem_cons_zero, Act.put, List.setIfInBounds_toArray, List.set_cons_zero, List.set_cons_succ]
                have hS := hS2
                have HB := HBn
                clear hS2 HBn
                refine anyE_take 5 (v := ?_) rfl (by kernel_rfl) (by kernel_rfl) (by kernel_rfl) (by kernel_rfl) (fun _ _ _ h => h) hS (Or.inl ⟨by rfl, ?_⟩) ?_
                rotate_left
                · intro w' hS'
                  obtain ⟨⟨e0, e1, _, _, _⟩, ⟨g0, g1, _, _, _⟩⟩ := hS'
                  go_simp
                  try with_reducible rfl
                try simp only [List.getElem_toArray, List.getElem_cons_succ, List.getElem_cons_zero, Act.put, List.setIfInBounds_toArray, List.set_cons_zero, List.set_cons_succ]
                refine anyE_take 6 (v := ?_) rfl (by kernel_rfl) (by kernel_rfl) (by kernel_rfl) (by kernel_rfl) (fun _ _ _ h => h) hS (Or.inl ⟨by rfl, ?_⟩) ?_
                rotate_left
                · intro w' hS'
                  obtain ⟨⟨e0, e1, _, _, _⟩, ⟨g0, g1, _, _, _⟩⟩ := hS'
                  go_simp
                  try with_reducible rfl
                try simp only [List.getElem_toArray, List.getElem_cons_succ, List.getElem_cons_zero, Act.put, List.setIfInBounds_toArray, List.set_cons_zero, List.set_cons_succ]
                refine anyE_take 7 (v := ?_) rfl (by kernel_rfl) (by kernel_rfl) (by kernel_rfl) (by kernel_rfl) (fun _ _ _ h => h) hS (Or.inl ⟨by rfl, ?_⟩) ?_
                rotate_left
                · intro w' hS'
                  obtain ⟨⟨e0, e1, _, _, _⟩, ⟨g0, g1, _, _, _⟩⟩ := hS'
                  go_simp
                  try with_reducible rfl
                try simp only [List.getElem_toArray, List.getElem_cons_succ, List.getElem_cons_zero, Act.put, List.setIfInBounds_toArray, List.set_cons_zero, List.set_cons_succ]
                refine anyE_ready [8] (by kernel_rfl) (by simp) (ReadyE.cons rfl (fun K' hK => ?_) ReadyE.nil)
                ·
                  go_simp
                  have hb := alloc_below W11 (.cells #[.slice none 0 0, .int .i64 0] RfT)
                  have hnew := Bx.new W11 (.slice none 0 0) (.int .i64 0) RfT
                  have hge := (unhide HB).size
                  have hNb9 : C1 ≠ [] → ∀ b o m c, Value.slice ca C1.length cc = .slice (some ⟨b, o, none⟩) m c → W11.heap.size ≠ b := fun hne b o m c hv e => by have := hic.blt hne hv; omega
                  have hd9 : W11.heap.size ≠ b10 := Nat.ne_of_gt h10.lt
                  have h10b := h10.keep hb
                  clear h10
                  have h10 := h10b
                  clear h10b
                  have hic2 := hic.below hb
                  have htd2 := htd.below hb
                  clear hic htd
                  have hic := hic2
                  have htd := htd2
                  clear hic2 htd2
                  have hS2 : Bx (W11.alloc (.cells #[.slice none 0 0, .int .i64 0] RfT)) w.heap.size (.slice aa n ac) (.int .i64 ka) ∧ Bx (W11.alloc (.cells #[.slice none 0 0, .int .i64 0] RfT)) xb (.slice ba m bc) (.int .i64 kb) := ⟨hS.1.keep hb, hS.2.keep hb⟩
                  have HBn := hide (bthen (unhide HB) hb)
                  refine hK _ _ (fun _ => hS2) ?_
                  clear hK K' hS HB hb
                  try simp only [List.getElem_toArray, List.getElem_cons_succ, List.getElem_cons_zero, Act.put, List.setIfInBounds_toArray, List.set_cons_zero, List.set_cons_succ]
                  have hS := hS2
                  have HB := HBn
                  clear hS2 HBn
                  generalize W11.alloc (.cells #[.slice none 0 0, .int .i64 0] RfT) = W12 at *
                  generalize W11.heap.size = b9 at *
                  have h9 := hnew
                  have hgb9 := hge
                  clear hnew hge
                  obtain ⟨f0, f1', f2, f3, f4⟩ := h9
                  have h9 := Bx.mk f0 f1' f2 f3 f4
                  refine anyE_ready [10] (by kernel_rfl) (by simp) (ReadyE.cons rfl (fun K' hK => ?_) ReadyE.nil)
                  go_simp
                  have hic2 := (hic.otherN ⟨b9, 0, none⟩ (.slice ca C1.length cc) hNb9).otherN ⟨b9, 1, none⟩ (.int .i64 K1) hNb9
                  have htd2 := htd.otherN h9 (.slice ca C1.length cc) (.int .i64 K1)
                  have h9b := (h9.set0 (.slice ca C1.length cc)).set1 (.int .i64 K1)
                  have hd9' : b9 ≠ b10 := by first | exact hd9 | exact Ne.symm hd9
                  have h10b := (h10.other ⟨b9, 0, none⟩ hd9' (.slice ca C1.length cc)).other ⟨b9, 1, none⟩ hd9' (.int .i64 K1)
                  have HB2 := hide (((unhide HB).setCell (p := ⟨b9, 0, none⟩) hgb9 (.slice ca C1.length cc)).setCell (p := ⟨b9, 1, none⟩) hgb9 (.int .i64 K1))
                  have k1 : b9 ≠ w.heap.size := by have := (unhide HK4).2.1.lt; omega
                  have k2 : b9 ≠ xb := by have := (unhide HK4).2.2.1.lt; omega
                  have hS9 : Bx ((W12.setCell ⟨b9, 0, none⟩ (.slice ca C1.length cc)).setCell ⟨b9, 1, none⟩ (.int .i64 K1)) w.heap.size (.slice aa n ac) (.int .i64 ka) ∧ Bx ((W12.setCell ⟨b9, 0, none⟩ (.slice ca C1.length cc)).setCell ⟨b9, 1, none⟩ (.int .i64 K1)) xb (.slice ba m bc) (.int .i64 kb) := ⟨(hS.1.other ⟨b9, 0, none⟩ k1 _).other ⟨b9, 1, none⟩ k1 _, (hS.2.other ⟨b9, 0, none⟩ k2 _).other ⟨b9, 1, none⟩ k2 _⟩
                  refine hK _ _ (fun _ => hS9) ?_
                  clear hK K' f0 f1' f2 f3 f4 h9 h10 hic htd HB hS k1 k2
                  try simp only [List.getElem_toArray, List.getElem_cons_succ, List.getElem_cons_zero, Act.put, List.setIfInBounds_toArray, List.set_cons_zero, List.set_cons_succ]
                  generalize (W12.setCell ⟨b9, 0, none⟩ (.slice ca C1.length cc)).setCell ⟨b9, 1, none⟩ (.int .i64 K1) = WX at *
                  have hS := hS9
                  clear hS9
                  obtain ⟨f0, f1', f2, f3, f4⟩ := h10b
                  have h10 := Bx.mk f0 f1' f2 f3 f4
                  refine anyE_ready [11] (by kernel_rfl) (by simp) (ReadyE.cons rfl (fun K' hK => ?_) ReadyE.nil)
                  go_simp
                  have HFIN := hide (And.intro (((unhide HB2).setCell (p := ⟨b10, 0, none⟩) hgb10 (.slice g gn gc)).setCell (p := ⟨b10, 1, none⟩) hgb10 (.int .i64 E1)) (And.intro ((h9b.other ⟨b10, 0, none⟩ (Ne.symm hd9') (.slice g gn gc)).other ⟨b10, 1, none⟩ (Ne.symm hd9') (.int .i64 E1)) (And.intro ((hic2.otherN ⟨b10, 0, none⟩ (.slice g gn gc) hNb10).otherN ⟨b10, 1, none⟩ (.int .i64 E1) hNb10) (And.intro ((h10.set0 (.slice g gn gc)).set1 (.int .i64 E1)) (htd2.otherN h10 (.slice g gn gc) (.int .i64 E1))))))
                  refine hK _ _ (fun h => by exact absurd h (by decide)) ?_
                  clear hK K' f0 f1' f2 f3 f4 h10 h9b hic2 htd2 HB2
                  try simp only [List.getElem_toArray, List.getElem_cons_succ, List.getElem_cons_zero, Act.put, List.setIfInBounds_toArray, List.set_cons_zero, List.set_cons_succ]
                  refine anyE_done (by kernel_rfl) ?_ _
                  go_wp2_with fail
                  go_meet
                  case rel => exact ⟨b9, b10, ca, cc, g, gn, gc, rfl, rfl, HFIN⟩
              ·
                go_simp
                have hb := alloc_below W10 (.cells #[.slice none 0 0, .int .i64 0] RfT)
                have hnew := Bx.new W10 (.slice none 0 0) (.int .i64 0) RfT
                have hge := (unhide HB).size
                have hd9 : W10.heap.size ≠ b10 := Nat.ne_of_gt h10.lt
                have h10b := h10.keep hb
                clear h10
                have h10 := h10b
                clear h10b
                have hS2 : Bx (W10.alloc (.cells #[.slice none 0 0, .int .i64 0] RfT)) w.heap.size (.slice aa n ac) (.int .i64 ka) ∧ Bx (W10.alloc (.cells #[.slice none 0 0, .int .i64 0] RfT)) xb (.slice ba m bc) (.int .i64 kb) := ⟨hS.1.keep hb, hS.2.keep hb⟩
                have HBn := hide (bthen (unhide HB) hb)
                refine hK _ _ (fun _ => hS2) ?_
                clear hK K' hS HB hb
                try simp only [List.getElem_toArray, List.getElem_cons_succ, List.getElem_cons_zero, Act.put, List.setIfInBounds_toArray, List.set_cons_zero, List.set_cons_succ]
                have hS := hS2
                have HB := HBn
                clear hS2 HBn
                generalize W10.alloc (.cells #[.slice none 0 0, .int .i64 0] RfT) = W11 at *
                generalize W10.heap.size = b9 at *
                have h9 := hnew
                have hgb9 := hge
                clear hnew hge
                refine anyE_ready [4] (by kernel_rfl) (by simp) (ReadyE.cons rfl (fun K' hK => ?_) ReadyE.nil)
                ·
                  go_simp
                  go_at_call 12
                  refine (unhide HAD' W11 (bthen (unhide HK4).1 (unhide HB))).mono ?_
                  rintro ev W12 ⟨cv, g, gn, gc, rfl, hic, hfr, htd0, hb⟩
                  have htd : Told 0 W12 (.agg #[.slice g gn gc, .int .i64 E1]) wForm 0 E1 := htd0.mono (Nat.zero_le _)
                  clear htd0
                  obtain ⟨ca, cc, rfl⟩ := hic.shape
                  dsimp only
                  try go_simp
                  have hNb9 : C1 ≠ [] → ∀ b o m c, Value.slice ca C1.length cc = .slice (some ⟨b, o, none⟩) m c → b9 ≠ b := fun _ b o m c hv e => by have h1 := hfr b o m c hv; have h2 := h9.lt; omega
                  have hNb10 : C1 ≠ [] → ∀ b o m c, Value.slice ca C1.length cc = .slice (some ⟨b, o, none⟩) m c → b10 ≠ b := fun _ b o m c hv e => by have h1 := hfr b o m c hv; have h2 := h10.lt; omega
                  clear hfr
                  have h9b := h9.keep hb
                  clear h9
                  have h9 := h9b
                  clear h9b
                  have h10b := h10.keep hb
                  clear h10
                  have h10 := h10b
                  clear h10b
                  have hS2 : Bx W12 w.heap.size (.slice aa n ac) (.int .i64 ka) ∧ Bx W12 xb (.slice ba m bc) (.int .i64 kb) := ⟨hS.1.keep hb, hS.2.keep hb⟩
                  have HBn := hide (bthen (unhide HB) hb)
                  refine hK _ _ (fun _ => hS2) ?_
                  clear hK K' hS HB hb
                  try simp only [List.getElem_toArray, List.getElem_cons_succ, List.getElem_cons_zero, Act.put, List.setIfInBounds_toArray, List.set_cons_zero, List.set_cons_succ]
                  have hS := hS2
                  have HB := HBn
                  clear hS2 HBn
                  refine anyE_take 5 (v := ?_) rfl (by kernel_rfl) (by kernel_rfl) (by kernel_rfl) (by kernel_rfl) (fun _ _ _ h => h) hS (Or.inl ⟨by rfl, ?_⟩) ?_
                  rotate_left
                  · intro w' hS'
                    obtain ⟨⟨e0, e1, _, _, _⟩, ⟨g0, g1, _, _, _⟩⟩ := hS'
                    go_simp
                    try with_reducible rfl
                  try simp only [List.getElem_toArray, List.getElem_cons_succ, List.getElem_cons_zero, Act.put, List.setIfInBounds_toArray, List.set_cons_zero, List.set_cons_succ]
                  refine anyE_take 6 (v := ?_) rfl (by kernel_rfl) (by kernel_rfl) (by kernel_rfl) (by kernel_rfl) (fun _ _ _ h => h) hS (Or.inl ⟨by rfl, ?_⟩) ?_
                  rotate_left
                  · intro w' hS'
                    obtain ⟨⟨e0, e1, _, _, _⟩, ⟨g0, g1, _, _, _⟩⟩ := hS'
                    go_simp
                    try with_reducible rfl
                  try simp only [List.getElem_toArray, List.getElem_cons_succ, List.getElem_cons_zero, Act.put, List.setIfInBounds_toArray, List.set_cons_zero, List.set_cons_succ]
                  refine anyE_take 7 (v := ?_) rfl (by kernel_rfl) (by kernel_rfl) (by kernel_rfl) (by kernel_rfl) (fun _ _ _ h => h) hS (Or.inl ⟨by rfl, ?_⟩) ?_
                  rotate_left
                  · intro w' hS'
                    obtain ⟨⟨e0, e1, _, _, _⟩, ⟨g0, g1, _, _, _⟩⟩ := hS'
                    go_simp
                    try with_reducible rfl
                  try simp only [List.getElem_toArray, List.getElem_cons_succ, List.getElem_cons_zero, Act.put, List.setIfInBounds_toArray, List.set_cons_zero, List.set_cons_succ]
                  obtain ⟨f0, f1', f2, f3, f4⟩ := h9
                  have h9 := Bx.mk f0 f1' f2 f3 f4
                  refine anyE_ready [10] (by kernel_rfl) (by simp) (ReadyE.cons rfl (fun K' hK => ?_) ReadyE.nil)
                  go_simp
                  have hic2 := (hic.otherN ⟨b9, 0, none⟩ (.slice ca C1.length cc) hNb9).otherN ⟨b9, 1, none⟩ (.int .i64 K1) hNb9
                  have htd2 := htd.otherN h9 (.slice ca C1.length cc) (.int .i64 K1)
                  have h9b := (h9.set0 (.slice ca C1.length cc)).set1 (.int .i64 K1)
                  have hd9' : b9 ≠ b10 := by first | exact hd9 | exact Ne.symm hd9
                  have h10b := (h10.other ⟨b9, 0, none⟩ hd9' (.slice ca C1.length cc)).other ⟨b9, 1, none⟩ hd9' (.int .i64 K1)
                  have HB2 := hide (((unhide HB).setCell (p := ⟨b9, 0, none⟩) hgb9 (.slice ca C1.length cc)).setCell (p := ⟨b9, 1, none⟩) hgb9 (.int .i64 K1))
                  have k1 : b9 ≠ w.heap.size := by have := (unhide HK4).2.1.lt; omega
                  have k2 : b9 ≠ xb := by have := (unhide HK4).2.2.1.lt; omega
                  have hS9 : Bx ((W12.setCell ⟨b9, 0, none⟩ (.slice ca C1.length cc)).setCell ⟨b9, 1, none⟩ (.int .i64 K1)) w.heap.size (.slice aa n ac) (.int .i64 ka) ∧ Bx ((W12.setCell ⟨b9, 0, none⟩ (.slice ca C1.length cc)).setCell ⟨b9, 1, none⟩ (.int .i64 K1)) xb (.slice ba m bc) (.int .i64 kb) := ⟨(hS.1.other ⟨b9, 0, none⟩ k1 _).other ⟨b9, 1, none⟩ k1 _, (hS.2.other ⟨b9, 0, none⟩ k2 _).other ⟨b9, 1, none⟩ k2 _⟩
                  refine hK _ _ (fun _ => hS9) ?_
                  clear hK K' f0 f1' f2 f3 f4 h9 h10 hic htd HB hS k1 k2
                  try simp only [List.getElem_toArray, List.getElem_cons_succ, List.getElem_cons_zero, Act.put, List.setIfInBounds_toArray, List.set_cons_zero, List.set_cons_succ]
                  generalize (W12.setCell ⟨b9, 0, none⟩ (.slice ca C1.length cc)).setCell ⟨b9, 1, none⟩ (.int .i64 K1) = WX at *
                  have hS := hS9
                  clear hS9
                  obtain ⟨f0, f1', f2, f3, f4⟩ := h10b
                  have h10 := Bx.mk f0 f1' f2 f3 f4
                  refine anyE_ready [11] (by kernel_rfl) (by simp) (ReadyE.cons rfl (fun K' hK => ?_) ReadyE.nil)
                  go_simp
                  have HFIN := hide (And.intro (((unhide HB2).setCell (p := ⟨b10, 0, none⟩) hgb10 (.slice g gn gc)).setCell (p := ⟨b10, 1, none⟩) hgb10 (.int .i64 E1)) (And.intro ((h9b.other ⟨b10, 0, none⟩ (Ne.symm hd9') (.slice g gn gc)).other ⟨b10, 1, none⟩ (Ne.symm hd9') (.int .i64 E1)) (And.intro ((hic2.otherN ⟨b10, 0, none⟩ (.slice g gn gc) hNb10).otherN ⟨b10, 1, none⟩ (.int .i64 E1) hNb10) (And.intro ((h10.set0 (.slice g gn gc)).set1 (.int .i64 E1)) (htd2.otherN h10 (.slice g gn gc) (.int .i64 E1))))))
                  refine hK _ _ (fun h => by exact absurd h (by decide)) ?_
                  clear hK K' f0 f1' f2 f3 f4 h10 h9b hic2 htd2 HB2
                  try simp only [List.getElem_toArray, List.getElem_cons_succ, List.getElem_cons_zero, Act.put, List.setIfInBounds_toArray, List.set_cons_zero, List.set_cons_succ]
                  refine anyE_done (by kernel_rfl) ?_ _
                  go_wp2_with fail
                  go_meet
                  case rel => exact ⟨b9, b10, ca, cc, g, gn, gc, rfl, rfl, HFIN⟩
            ·
              go_simp
              have hb := alloc_below W9 (.cells #[.slice none 0 0, .int .i64 0] RfT)
              have hnew := Bx.new W9 (.slice none 0 0) (.int .i64 0) RfT
              have hge := (unhide HB).size
              have hd9 : W9.heap.size ≠ b10 := Nat.ne_of_gt h10.lt
              have h10b := h10.keep hb
              clear h10
              have h10 := h10b
              clear h10b
              have hS2 : Bx (W9.alloc (.cells #[.slice none 0 0, .int .i64 0] RfT)) w.heap.size (.slice aa n ac) (.int .i64 ka) ∧ Bx (W9.alloc (.cells #[.slice none 0 0, .int .i64 0] RfT)) xb (.slice ba m bc) (.int .i64 kb) := ⟨hS.1.keep hb, hS.2.keep hb⟩
              have HBn := hide (bthen (unhide HB) hb)
              refine hK _ _ (fun _ => hS2) ?_
              clear hK K' hS HB hb
              try simp only [List.getElem_toArray, List.getElem_cons_succ, List.getElem_cons_zero, Act.put, List.setIfInBounds_toArray, List.set_cons_zero, List.set_cons_succ]
              have hS := hS2
              have HB := HBn
              clear hS2 HBn
              generalize W9.alloc (.cells #[.slice none 0 0, .int .i64 0] RfT) = W10 at *
              generalize W9.heap.size = b9 at *
              have h9 := hnew
              have hgb9 := hge
              clear hnew hge
              refine anyE_ready [3] (by kernel_rfl) (by simp) (ReadyE.cons rfl (fun K' hK => ?_) ReadyE.nil)
              ·
                go_simp
                go_at_call 13
                refine (ofF_any W10 ba m bc kb).mono ?_
                rintro ev W11 ⟨rfl, hb⟩
                dsimp only
                try go_simp
                have h9b := h9.keep hb
                clear h9
                have h9 := h9b
                clear h9b
                have h10b := h10.keep hb
                clear h10
                have h10 := h10b
                clear h10b
                have hS2 : Bx W11 w.heap.size (.slice aa n ac) (.int .i64 ka) ∧ Bx W11 xb (.slice ba m bc) (.int .i64 kb) := ⟨hS.1.keep hb, hS.2.keep hb⟩
                have HBn := hide (bthen (unhide HB) hb)
                refine hK _ _ (fun _ => hS2) ?_
                clear hK K' hS HB hb
                try simp only [List.getElem_toArray, List.getElem_cons_succ, List.getElem_cons_zero, Act.put, List.setIfInBounds_toArray, List.set_cons_zero, List.set_cons_succ]
                have hS := hS2
                have HB := HBn
                clear hS2 HBn
                refine anyE_ready [4] (by kernel_rfl) (by simp) (ReadyE.cons rfl (fun K' hK => ?_) ReadyE.nil)
                ·
                  go_simp
                  go_at_call 12
                  refine (unhide HAD' W11 (bthen (unhide HK4).1 (unhide HB))).mono ?_
                  rintro ev W12 ⟨cv, g, gn, gc, rfl, hic, hfr, htd0, hb⟩
                  have htd : Told 0 W12 (.agg #[.slice g gn gc, .int .i64 E1]) wForm 0 E1 := htd0.mono (Nat.zero_le _)
                  clear htd0
                  obtain ⟨ca, cc, rfl⟩ := hic.shape
                  dsimp only
                  try go_simp
                  have hNb9 : C1 ≠ [] → ∀ b o m c, Value.slice ca C1.length cc = .slice (some ⟨b, o, none⟩) m c → b9 ≠ b := fun _ b o m c hv e => by have h1 := hfr b o m c hv; have h2 := h9.lt; omega
                  have hNb10 : C1 ≠ [] → ∀ b o m c, Value.slice ca C1.length cc = .slice (some ⟨b, o, none⟩) m c → b10 ≠ b := fun _ b o m c hv e => by have h1 := hfr b o m c hv; have h2 := h10.lt; omega
                  clear hfr
                  have h9b := h9.keep hb
                  clear h9
                  have h9 := h9b
                  clear h9b
                  have h10b := h10.keep hb
                  clear h10
                  have h10 := h10b
                  clear h10b
                  have hS2 : Bx W12 w.heap.size (.slice aa n ac) (.int .i64 ka) ∧ Bx W12 xb (.slice ba m bc) (.int .i64 kb) := ⟨hS.1.keep hb, hS.2.keep hb⟩
                  have HBn := hide (bthen (unhide HB) hb)
                  refine hK _ _ (fun _ => hS2) ?_
                  clear hK K' hS HB hb
                  try simp only [List.getElem_toArray, List.getElem_cons_succ, List.getElem_cons_zero, Act.put, List.setIfInBounds_toArray, List.set_cons_zero, List.set_cons_succ]
                  have hS := hS2
                  have HB := HBn
                  clear hS2 HBn
                  refine anyE_take 5 (v := ?_) rfl (by kernel_rfl) (by kernel_rfl) (by kernel_rfl) (by kernel_rfl) (fun _ _ _ h => h) hS (Or.inl ⟨by rfl, ?_⟩) ?_
                  rotate_left
                  · intro w' hS'
                    obtain ⟨⟨e0, e1, _, _, _⟩, ⟨g0, g1, _, _, _⟩⟩ := hS'
                    go_simp
                    try with_reducible rfl
                  try simp only [List.getElem_toArray, List.getElem_cons_succ, List.getElem_cons_zero, Act.put, List.setIfInBounds_toArray, List.set_cons_zero, List.set_cons_succ]
                  refine anyE_take 6 (v := ?_) rfl (by kernel_rfl) (by kernel_rfl) (by kernel_rfl) (by kernel_rfl) (fun _ _ _ h => h) hS (Or.inl ⟨by rfl, ?_⟩) ?_
                  rotate_left
                  · intro w' hS'
                    obtain ⟨⟨e0, e1, _, _, _⟩, ⟨g0, g1, _, _, _⟩⟩ := hS'
                    go_simp
                    try with_reducible rfl
                  try simp only [List.getElem_toArray, List.getElem_cons_succ, List.getElem_cons_zero, Act.put, List.setIfInBounds_toArray, List.set_cons_zero, List.set_cons_succ]
                  refine anyE_take 7 (v := ?_) rfl (by kernel_rfl) (by kernel_rfl) (by kernel_rfl) (by kernel_rfl) (fun _ _ _ h => h) hS (Or.inl ⟨by rfl, ?_⟩) ?_
                  rotate_left
                  · intro w' hS'
                    obtain ⟨⟨e0, e1, _, _, _⟩, ⟨g0, g1, _, _, _⟩⟩ := hS'
                    go_simp
                    try with_reducible rfl
                  try simp only [List.getElem_toArray, List.getElem_cons_succ, List.getElem_cons_zero, Act.put, List.setIfInBounds_toArray, List.set_cons_zero, List.set_cons_succ]
                  obtain ⟨f0, f1', f2, f3, f4⟩ := h9
                  have h9 := Bx.mk f0 f1' f2 f3 f4
                  refine anyE_ready [10] (by kernel_rfl) (by simp) (ReadyE.cons rfl (fun K' hK => ?_) ReadyE.nil)
                  go_simp
                  have hic2 := (hic.otherN ⟨b9, 0, none⟩ (.slice ca C1.length cc) hNb9).otherN ⟨b9, 1, none⟩ (.int .i64 K1) hNb9
                  have htd2 := htd.otherN h9 (.slice ca C1.length cc) (.int .i64 K1)
                  have h9b := (h9.set0 (.slice ca C1.length cc)).set1 (.int .i64 K1)
                  have hd9' : b9 ≠ b10 := by first | exact hd9 | exact Ne.symm hd9
                  have h10b := (h10.other ⟨b9, 0, none⟩ hd9' (.slice ca C1.length cc)).other ⟨b9, 1, none⟩ hd9' (.int .i64 K1)
                  have HB2 := hide (((unhide HB).setCell (p := ⟨b9, 0, none⟩) hgb9 (.slice ca C1.length cc)).setCell (p := ⟨b9, 1, none⟩) hgb9 (.int .i64 K1))
                  have k1 : b9 ≠ w.heap.size := by have := (unhide HK4).2.1.lt; omega
                  have k2 : b9 ≠ xb := by have := (unhide HK4).2.2.1.lt; omega
                  have hS9 : Bx ((W12.setCell ⟨b9, 0, none⟩ (.slice ca C1.length cc)).setCell ⟨b9, 1, none⟩ (.int .i64 K1)) w.heap.size (.slice aa n ac) (.int .i64 ka) ∧ Bx ((W12.setCell ⟨b9, 0, none⟩ (.slice ca C1.length cc)).setCell ⟨b9, 1, none⟩ (.int .i64 K1)) xb (.slice ba m bc) (.int .i64 kb) := ⟨(hS.1.other ⟨b9, 0, none⟩ k1 _).other ⟨b9, 1, none⟩ k1 _, (hS.2.other ⟨b9, 0, none⟩ k2 _).other ⟨b9, 1, none⟩ k2 _⟩
                  refine hK _ _ (fun _ => hS9) ?_
                  clear hK K' f0 f1' f2 f3 f4 h9 h10 hic htd HB hS k1 k2
                  try simp only [List.getElem_toArray, List.getElem_cons_succ, List.getElem_cons_zero, Act.put, List.setIfInBounds_toArray, List.set_cons_zero, List.set_cons_succ]
                  generalize (W12.setCell ⟨b9, 0, none⟩ (.slice ca C1.length cc)).setCell ⟨b9, 1, none⟩ (.int .i64 K1) = WX at *
                  have hS := hS9
                  clear hS9
                  obtain ⟨f0, f1', f2, f3, f4⟩ := h10b
                  have h10 := Bx.mk f0 f1' f2 f3 f4
                  refine anyE_ready [11] (by kernel_rfl) (by simp) (ReadyE.cons rfl (fun K' hK => ?_) ReadyE.nil)
                  go_simp
                  have HFIN := hide (And.intro (((unhide HB2).setCell (p := ⟨b10, 0, none⟩) hgb10 (.slice g gn gc)).setCell (p := ⟨b10, 1, none⟩) hgb10 (.int .i64 E1)) (And.intro ((h9b.other ⟨b10, 0, none⟩ (Ne.symm hd9') (.slice g gn gc)).other ⟨b10, 1, none⟩ (Ne.symm hd9') (.int .i64 E1)) (And.intro ((hic2.otherN ⟨b10, 0, none⟩ (.slice g gn gc) hNb10).otherN ⟨b10, 1, none⟩ (.int .i64 E1) hNb10) (And.intro ((h10.set0 (.slice g gn gc)).set1 (.int .i64 E1)) (htd2.otherN h10 (.slice g gn gc) (.int .i64 E1))))))
                  refine hK _ _ (fun h => by exact absurd h (by decide)) ?_
                  clear hK K' f0 f1' f2 f3 f4 h10 h9b hic2 htd2 HB2
                  try simp only [List.getElem_toArray, List.getElem_cons_succ, List.getElem_cons_zero, Act.put, List.setIfInBounds_toArray, List.set_cons_zero, List.set_cons_succ]
                  refine anyE_done (by kernel_rfl) ?_ _
                  go_wp2_with fail
                  go_meet
                  case rel => exact ⟨b9, b10, ca, cc, g, gn, gc, rfl, rfl, HFIN⟩
          ·
            go_simp
            have hb := alloc_below W8 (.cells #[.slice none 0 0, .int .i64 0] RfT)
            have hnew := Bx.new W8 (.slice none 0 0) (.int .i64 0) RfT
            have hge := (unhide HB).size
            have hd9 : W8.heap.size ≠ b10 := Nat.ne_of_gt h10.lt
            have h10b := h10.keep hb
            clear h10
            have h10 := h10b
            clear h10b
            have hS2 : Bx (W8.alloc (.cells #[.slice none 0 0, .int .i64 0] RfT)) w.heap.size (.slice aa n ac) (.int .i64 ka) ∧ Bx (W8.alloc (.cells #[.slice none 0 0, .int .i64 0] RfT)) xb (.slice ba m bc) (.int .i64 kb) := ⟨hS.1.keep hb, hS.2.keep hb⟩
            have HBn := hide (bthen (unhide HB) hb)
            refine hK _ _ (fun _ => hS2) ?_
            clear hK K' hS HB hb
            try simp only [List.getElem_toArray, List.getElem_cons_succ, List.getElem_cons_zero, Act.put, List.setIfInBounds_toArray, List.set_cons_zero, List.set_cons_succ]
            have hS := hS2
            have HB := HBn
            clear hS2 HBn
            generalize W8.alloc (.cells #[.slice none 0 0, .int .i64 0] RfT) = W9 at *
            generalize W8.heap.size = b9 at *
            have h9 := hnew
            have hgb9 := hge
            clear hnew hge
            refine anyE_ready [1] (by kernel_rfl) (by simp) (ReadyE.cons rfl (fun K' hK => ?_) ReadyE.nil)
            ·
              go_simp
              go_at_call 13
              refine (ofF_any W9 aa n ac ka).mono ?_
              rintro ev W10 ⟨rfl, hb⟩
              dsimp only
              try go_simp
              have h9b := h9.keep hb
              clear h9
              have h9 := h9b
              clear h9b
              have h10b := h10.keep hb
              clear h10
              have h10 := h10b
              clear h10b
              have hS2 : Bx W10 w.heap.size (.slice aa n ac) (.int .i64 ka) ∧ Bx W10 xb (.slice ba m bc) (.int .i64 kb) := ⟨hS.1.keep hb, hS.2.keep hb⟩
              have HBn := hide (bthen (unhide HB) hb)
              refine hK _ _ (fun _ => hS2) ?_
              clear hK K' hS HB hb
              try simp only [List.getElem_toArray, List.getElem_cons_succ, List.getElem_cons_zero, Act.put, List.setIfInBounds_toArray, List.set_cons_zero, List.set_cons_succ]
              have hS := hS2
              have HB := HBn
              clear hS2 HBn
              refine anyE_ready [3] (by kernel_rfl) (by simp) (ReadyE.cons rfl (fun K' hK => ?_) ReadyE.nil)
              ·
                go_simp
                go_at_call 13
                refine (ofF_any W10 ba m bc kb).mono ?_
                rintro ev W11 ⟨rfl, hb⟩
                dsimp only
                try go_simp
                have h9b := h9.keep hb
                clear h9
                have h9 := h9b
                clear h9b
                have h10b := h10.keep hb
                clear h10
                have h10 := h10b
                clear h10b
                have hS2 : Bx W11 w.heap.size (.slice aa n ac) (.int .i64 ka) ∧ Bx W11 xb (.slice ba m bc) (.int .i64 kb) := ⟨hS.1.keep hb, hS.2.keep hb⟩
                have HBn := hide (bthen (unhide HB) hb)
                refine hK _ _ (fun _ => hS2) ?_
                clear hK K' hS HB hb
                try simp only [List.getElem_toArray, List.getElem_cons_succ, List.getElem_cons_zero, Act.put, List.setIfInBounds_toArray, List.set_cons_zero, List.set_cons_succ]
                have hS := hS2
                have HB := HBn
                clear hS2 HBn
                refine anyE_ready [4] (by kernel_rfl) (by simp) (ReadyE.cons rfl (fun K' hK => ?_) ReadyE.nil)
                ·
                  go_simp
                  go_at_call 12
                  refine (unhide HAD' W11 (bthen (unhide HK4).1 (unhide HB))).mono ?_
                  rintro ev W12 ⟨cv, g, gn, gc, rfl, hic, hfr, htd0, hb⟩
                  have htd : Told 0 W12 (.agg #[.slice g gn gc, .int .i64 E1]) wForm 0 E1 := htd0.mono (Nat.zero_le _)
                  clear htd0
                  obtain ⟨ca, cc, rfl⟩ := hic.shape
                  dsimp only
                  try go_simp
                  have hNb9 : C1 ≠ [] → ∀ b o m c, Value.slice ca C1.length cc = .slice (some ⟨b, o, none⟩) m c → b9 ≠ b := fun _ b o m c hv e => by have h1 := hfr b o m c hv; have h2 := h9.lt; omega
                  have hNb10 : C1 ≠ [] → ∀ b o m c, Value.slice ca C1.length cc = .slice (some ⟨b, o, none⟩) m c → b10 ≠ b := fun _ b o m c hv e => by have h1 := hfr b o m c hv; have h2 := h10.lt; omega
                  clear hfr
                  have h9b := h9.keep hb
                  clear h9
                  have h9 := h9b
                  clear h9b
                  have h10b := h10.keep hb
                  clear h10
                  have h10 := h10b
                  clear h10b
                  have hS2 : Bx W12 w.heap.size (.slice aa n ac) (.int .i64 ka) ∧ Bx W12 xb (.slice ba m bc) (.int .i64 kb) := ⟨hS.1.keep hb, hS.2.keep hb⟩
                  have HBn := hide (bthen (unhide HB) hb)
                  refine hK _ _ (fun _ => hS2) ?_
                  clear hK K' hS HB hb
                  try simp only [List.getElem_toArray, List.getElem_cons_succ, List.getElem_cons_zero, Act.put, List.setIfInBounds_toArray, List.set_cons_zero, List.set_cons_succ]
                  have hS := hS2
                  have HB := HBn
                  clear hS2 HBn
                  refine anyE_take 5 (v := ?_) rfl (by kernel_rfl) (by kernel_rfl) (by kernel_rfl) (by kernel_rfl) (fun _ _ _ h => h) hS (Or.inl ⟨by rfl, ?_⟩) ?_
                  rotate_left
                  · intro w' hS'
                    obtain ⟨⟨e0, e1, _, _, _⟩, ⟨g0, g1, _, _, _⟩⟩ := hS'
                    go_simp
                    try with_reducible rfl
                  try simp only [List.getElem_toArray, List.getElem_cons_succ, List.getElem_cons_zero, Act.put, List.setIfInBounds_toArray, List.set_cons_zero, List.set_cons_succ]
                  refine anyE_take 6 (v := ?_) rfl (by kernel_rfl) (by kernel_rfl) (by kernel_rfl) (by kernel_rfl) (fun _ _ _ h => h) hS (Or.inl ⟨by rfl, ?_⟩) ?_
                  rotate_left
                  · intro w' hS'
                    obtain ⟨⟨e0, e1, _, _, _⟩, ⟨g0, g1, _, _, _⟩⟩ := hS'
                    go_simp
                    try with_reducible rfl
                  try simp only [List.getElem_toArray, List.getElem_cons_succ, List.getElem_cons_zero, Act.put, List.setIfInBounds_toArray, List.set_cons_zero, List.set_cons_succ]
                  refine anyE_take 7 (v := ?_) rfl (by kernel_rfl) (by kernel_rfl) (by kernel_rfl) (by kernel_rfl) (fun _ _ _ h => h) hS (Or.inl ⟨by rfl, ?_⟩) ?_
                  rotate_left
                  · intro w' hS'
                    obtain ⟨⟨e0, e1, _, _, _⟩, ⟨g0, g1, _, _, _⟩⟩ := hS'
                    go_simp
                    try with_reducible rfl
                  try simp only [List.getElem_toArray, List.getElem_cons_succ, List.getElem_cons_zero, Act.put, List.setIfInBounds_toArray, List.set_cons_zero, List.set_cons_succ]
                  obtain ⟨f0, f1', f2, f3, f4⟩ := h9
                  have h9 := Bx.mk f0 f1' f2 f3 f4
                  refine anyE_ready [10] (by kernel_rfl) (by simp) (ReadyE.cons rfl (fun K' hK => ?_) ReadyE.nil)
                  go_simp
                  have hic2 := (hic.otherN ⟨b9, 0, none⟩ (.slice ca C1.length cc) hNb9).otherN ⟨b9, 1, none⟩ (.int .i64 K1) hNb9
                  have htd2 := htd.otherN h9 (.slice ca C1.length cc) (.int .i64 K1)
                  have h9b := (h9.set0 (.slice ca C1.length cc)).set1 (.int .i64 K1)
                  have hd9' : b9 ≠ b10 := by first | exact hd9 | exact Ne.symm hd9
                  have h10b := (h10.other ⟨b9, 0, none⟩ hd9' (.slice ca C1.length cc)).other ⟨b9, 1, none⟩ hd9' (.int .i64 K1)
                  have HB2 := hide (((unhide HB).setCell (p := ⟨b9, 0, none⟩) hgb9 (.slice ca C1.length cc)).setCell (p := ⟨b9, 1, none⟩) hgb9 (.int .i64 K1))
                  have k1 : b9 ≠ w.heap.size := by have := (unhide HK4).2.1.lt; omega
                  have k2 : b9 ≠ xb := by have := (unhide HK4).2.2.1.lt; omega
                  have hS9 : Bx ((W12.setCell ⟨b9, 0, none⟩ (.slice ca C1.length cc)).setCell ⟨b9, 1, none⟩ (.int .i64 K1)) w.heap.size (.slice aa n ac) (.int .i64 ka) ∧ Bx ((W12.setCell ⟨b9, 0, none⟩ (.slice ca C1.length cc)).setCell ⟨b9, 1, none⟩ (.int .i64 K1)) xb (.slice ba m bc) (.int .i64 kb) := ⟨(hS.1.other ⟨b9, 0, none⟩ k1 _).other ⟨b9, 1, none⟩ k1 _, (hS.2.other ⟨b9, 0, none⟩ k2 _).other ⟨b9, 1, none⟩ k2 _⟩
                  refine hK _ _ (fun _ => hS9) ?_
                  clear hK K' f0 f1' f2 f3 f4 h9 h10 hic htd HB hS k1 k2
                  try simp only [List.getElem_toArray, List.getElem_cons_succ, List.getElem_cons_zero, Act.put, List.setIfInBounds_toArray, List.set_cons_zero, List.set_cons_succ]
                  generalize (W12.setCell ⟨b9, 0, none⟩ (.slice ca C1.length cc)).setCell ⟨b9, 1, none⟩ (.int .i64 K1) = WX at *
                  have hS := hS9
                  clear hS9
                  obtain ⟨f0, f1', f2, f3, f4⟩ := h10b
                  have h10 := Bx.mk f0 f1' f2 f3 f4
                  refine anyE_ready [11] (by kernel_rfl) (by simp) (ReadyE.cons rfl (fun K' hK => ?_) ReadyE.nil)
                  go_simp
                  have HFIN := hide (And.intro (((unhide HB2).setCell (p := ⟨b10, 0, none⟩) hgb10 (.slice g gn gc)).setCell (p := ⟨b10, 1, none⟩) hgb10 (.int .i64 E1)) (And.intro ((h9b.other ⟨b10, 0, none⟩ (Ne.symm hd9') (.slice g gn gc)).other ⟨b10, 1, none⟩ (Ne.symm hd9') (.int .i64 E1)) (And.intro ((hic2.otherN ⟨b10, 0, none⟩ (.slice g gn gc) hNb10).otherN ⟨b10, 1, none⟩ (.int .i64 E1) hNb10) (And.intro ((h10.set0 (.slice g gn gc)).set1 (.int .i64 E1)) (htd2.otherN h10 (.slice g gn gc) (.int .i64 E1))))))
                  refine hK _ _ (fun h => by exact absurd h (by decide)) ?_
                  clear hK K' f0 f1' f2 f3 f4 h10 h9b hic2 htd2 HB2
                  try simp only [List.getElem_toArray, List.getElem_cons_succ, List.getElem_cons_zero, Act.put, List.setIfInBounds_toArray, List.set_cons_zero, List.set_cons_succ]
                  refine anyE_done (by kernel_rfl) ?_ _
                  go_wp2_with fail
                  go_meet
                  case rel => exact ⟨b9, b10, ca, cc, g, gn, gc, rfl, rfl, HFIN⟩
      case rest =>
        obtain ⟨b9, b10, ca, cc, g, gn, gc, rfl, rfl, HK6⟩ := hcut
        have HK7 : Hid (Below w.heap.size w wc ∧ Bx wc w.heap.size (.slice aa n ac) (.int .i64 ka) ∧ Bx wc xb (.slice ba m bc) (.int .i64 kb) ∧ (Bx wc b7 (.slice sa C1.length sc) (.int .i64 K1) ∧ Ints wc (.slice sa C1.length sc) C1 ∧ Says 0 wc f1 wForm 0 E1) ∧ (Bx wc b9 (.slice ca C1.length cc) (.int .i64 K1) ∧ Ints wc (.slice ca C1.length cc) C1 ∧ Bx wc b10 (.slice g gn gc) (.int .i64 E1) ∧ Told 0 wc (.agg #[.slice g gn gc, .int .i64 E1]) wForm 0 E1)) := hide ⟨bthen (unhide HK4).1 (unhide HK6).1, (unhide HK4).2.1.keep (unhide HK6).1, (unhide HK4).2.2.1.keep (unhide HK6).1, ⟨(unhide HK4).2.2.2.1.keep (unhide HK6).1, (unhide HK4).2.2.2.2.1.below (unhide HK6).1, (unhide HK4).2.2.2.2.2.below (unhide HK6).1⟩, (unhide HK6).2⟩
        clear HK4 HK6 HAD'
        obtain ⟨c0, c1, c2, c3, c4⟩ := (unhide HK7).2.1
        go_upto_region 8 with (go_at_call 14; refine (unhide HSC wc (unhide HK7).1).mono ?_; rintro ev w8 ⟨cv, f2, rfl, hi2, hs2, hb8⟩; obtain ⟨ta, tc, rfl⟩ := hi2.shape)
        have hal := alloc_below w8 (.cells #[.slice ta C2.length tc, .int .i64 K2] FmT)
        have HB8 := hide (bthen hb8 hal)
        have H2 := hide (And.intro (Bx.new w8 (.slice ta C2.length tc) (.int .i64 K2) FmT) (And.intro (hi2.below hal) ((hs2.mono (Nat.zero_le _) : Says 0 _ _ _ _ _).below hal)))
        clear c0 c1 c2 c3 c4 hi2 hs2 hb8 hal HSC
        generalize w8.alloc (.cells #[.slice ta C2.length tc, .int .i64 K2] FmT) = w9 at *
        generalize w8.heap.size = b11 at *
        obtain ⟨c0, c1, c2, c3, c4⟩ := (unhide HK7).2.1.keep (unhide HB8)
        go_wp2_with fail
        refine (ofF_any w9 aa n ac ka).mono ?_
        rintro ev w10 ⟨rfl, hb10⟩
        clear c0 c1 c2 c3 c4
        have HB10 := hide (bthen (unhide HB8) hb10)
        have H3 := hide (And.intro ((unhide H2).1.keep hb10) (And.intro ((unhide H2).2.1.below hb10) ((unhide H2).2.2.below hb10)))
        clear hb10 HB8 H2
        go_upto_region 9 with (go_at_call 15; refine (unhide HSC' w10 (bthen (unhide HK7).1 (unhide HB10))).mono ?_; rintro ev w11 ⟨cv, h, hn', hc', rfl, hi3, hfr, ht3, hb11⟩; obtain ⟨ua, uc, rfl⟩ := hi3.shape)
        have hx13 := Bx.new w11 (.slice ua C2.length uc) (.int .i64 K2) RfT
        have hal1 := alloc_below w11 (.cells #[.slice ua C2.length uc, .int .i64 K2] RfT)
        have hx14 := Bx.new (w11.alloc (.cells #[.slice ua C2.length uc, .int .i64 K2] RfT)) (.slice h hn' hc') (.int .i64 E2) WrT
        have hal2 := alloc_below (w11.alloc (.cells #[.slice ua C2.length uc, .int .i64 K2] RfT)) (.cells #[.slice h hn' hc', .int .i64 E2] WrT)
        rw [size_ac] at hx14
        have hbb := bthen (unhide HB10) (bthen hb11 (bthen hal1 hal2))
        have hb3 := bthen hb11 (bthen hal1 hal2)
        have hqs : QS ((w11.alloc (.cells #[.slice ua C2.length uc, .int .i64 K2] RfT)).alloc (.cells #[.slice h hn' hc', .int .i64 E2] WrT)) w.heap.size xb b7 b9 b10 b11 w11.heap.size (w11.heap.size + 1) (.slice aa n ac) (.slice ba m bc) (.slice sa C1.length sc) (.slice ca C1.length cc) (.slice g gn gc) (.slice ta C2.length tc) (.slice ua C2.length uc) (.slice h hn' hc') ka kb K1 K2 E1 E2 := ⟨(unhide HK7).2.1.keep hbb, (unhide HK7).2.2.1.keep hbb, (unhide HK7).2.2.2.1.1.keep hbb, (unhide HK7).2.2.2.2.1.keep hbb, (unhide HK7).2.2.2.2.2.2.1.keep hbb, (unhide H3).1.keep hb3, hx13.keep hal2, hx14⟩
        have HQ : Hid (Below w.heap.size w ((w11.alloc (.cells #[.slice ua C2.length uc, .int .i64 K2] RfT)).alloc (.cells #[.slice h hn' hc', .int .i64 E2] WrT)) ∧ Ints ((w11.alloc (.cells #[.slice ua C2.length uc, .int .i64 K2] RfT)).alloc (.cells #[.slice h hn' hc', .int .i64 E2] WrT)) (.slice sa C1.length sc) C1 ∧ Ints ((w11.alloc (.cells #[.slice ua C2.length uc, .int .i64 K2] RfT)).alloc (.cells #[.slice h hn' hc', .int .i64 E2] WrT)) (.slice ca C1.length cc) C1 ∧ Ints ((w11.alloc (.cells #[.slice ua C2.length uc, .int .i64 K2] RfT)).alloc (.cells #[.slice h hn' hc', .int .i64 E2] WrT)) (.slice ta C2.length tc) C2 ∧ Ints ((w11.alloc (.cells #[.slice ua C2.length uc, .int .i64 K2] RfT)).alloc (.cells #[.slice h hn' hc', .int .i64 E2] WrT)) (.slice ua C2.length uc) C2 ∧ Says 0 ((w11.alloc (.cells #[.slice ua C2.length uc, .int .i64 K2] RfT)).alloc (.cells #[.slice h hn' hc', .int .i64 E2] WrT)) f1 wForm 0 E1 ∧ Told 0 ((w11.alloc (.cells #[.slice ua C2.length uc, .int .i64 K2] RfT)).alloc (.cells #[.slice h hn' hc', .int .i64 E2] WrT)) (.agg #[.slice g gn gc, .int .i64 E1]) wForm 0 E1 ∧ Says 0 ((w11.alloc (.cells #[.slice ua C2.length uc, .int .i64 K2] RfT)).alloc (.cells #[.slice h hn' hc', .int .i64 E2] WrT)) f2 wForm 0 E2 ∧ Told 0 ((w11.alloc (.cells #[.slice ua C2.length uc, .int .i64 K2] RfT)).alloc (.cells #[.slice h hn' hc', .int .i64 E2] WrT)) (.agg #[.slice h hn' hc', .int .i64 E2]) wForm 0 E2) := hide ⟨bthen (unhide HK7).1 hbb, (unhide HK7).2.2.2.1.2.1.below hbb, (unhide HK7).2.2.2.2.2.1.below hbb, (unhide H3).2.1.below hb3, hi3.below (bthen hal1 hal2), (unhide HK7).2.2.2.1.2.2.below hbb, (unhide HK7).2.2.2.2.2.2.2.below hbb, (unhide H3).2.2.below hb3, by have ht4 : Told 0 _ _ _ _ _ := ht3.mono (Nat.zero_le _); exact ht4.below (bthen hal1 hal2)⟩
        have HQS := hide hqs
        clear hqs hx13 hx14 hal1 hal2 hbb hb3 hb11 hi3 hfr ht3 HK7 H3 HB10 HSC'
        generalize (w11.alloc (.cells #[.slice ua C2.length uc, .int .i64 K2] RfT)).alloc (.cells #[.slice h hn' hc', .int .i64 E2] WrT) = w12 at *
        generalize w11.heap.size + 1 = b14 at *
        generalize w11.heap.size = b13 at *
        have hd : Below w12.heap.size w12 w12.drew := below_drewN (Below.refl _ _) 1
        have HB := hide hd
        have he1 : ((C1.length : Int) == (C1.length : Int)) = true := by simp
        have he2 : ((C2.length : Int) == (C2.length : Int)) = true := by simp
        have hc1 : C1.length ≤ 9223372036854775807 := by have := unhide HC1; omega
        have hc2 : C2.length ≤ 9223372036854775807 := by have := unhide HC2; omega
        refine wp_regionE (fun W => QS W w.heap.size xb b7 b9 b10 b11 b13 b14 (.slice aa n ac) (.slice ba m bc) (.slice sa C1.length sc) (.slice ca C1.length cc) (.slice g gn gc) (.slice ta C2.length tc) (.slice ua C2.length uc) (.slice h hn' hc') ka kb K1 K2 E1 E2) (fun j => decide (j < 50)) (by kernel_rfl) ((unhide HQS).keep hd) (fun hS => ?_)
        clear hd HQS
        generalize w12.drew = v0 at *
        refine anyE_take 0 (v := ?_) rfl (by kernel_rfl) (by kernel_rfl) (by kernel_rfl) (by kernel_rfl) (fun _ _ _ h => h) hS (Or.inl ⟨by rfl, ?_⟩) ?_
        rotate_left
        · intro w' hS'
          obtain ⟨⟨p0, p1, _, _, _⟩, ⟨p2, p3, _, _, _⟩, ⟨p4, p5, _, _, _⟩, ⟨p6, p7, _, _, _⟩, ⟨p8, p9, _, _, _⟩, ⟨pa, pb, _, _, _⟩, ⟨pc, pd, _, _, _⟩, ⟨pe, pf, _, _, _⟩⟩ := hS'
          go_simp
          try with_reducible rfl
        try simp only [List.getElem_toArray, List.getElem_cons_zero, Act.put, List.setIfInBounds_toArray, List.set_cons_zero, List.set_cons_succ]
        refine anyE_take 1 (v := ?_) rfl (by kernel_rfl) (by kernel_rfl) (by kernel_rfl) (by kernel_rfl) (fun _ _ _ h => h) hS (Or.inl ⟨by rfl, ?_⟩) ?_
        rotate_left
        · intro w' hS'
          obtain ⟨⟨p0, p1, _, _, _⟩, ⟨p2, p3, _, _, _⟩, ⟨p4, p5, _, _, _⟩, ⟨p6, p7, _, _, _⟩, ⟨p8, p9, _, _, _⟩, ⟨pa, pb, _, _, _⟩, ⟨pc, pd, _, _, _⟩, ⟨pe, pf, _, _, _⟩⟩ := hS'
          go_simp
          try with_reducible rfl
        try simp only [List.getElem_toArray, List.getElem_cons_succ, List.getElem_cons_zero, Act.put, List.setIfInBounds_toArray, List.set_cons_zero, List.set_cons_succ]
        refine anyE_ready [2] (by kernel_rfl) (by simp) (ReadyE.cons rfl (fun K' hK => ?_) ReadyE.nil)
        go_simp
        go_at_call 16
        refine (tells_any v0 f1 (.agg #[.slice g gn gc, .int .i64 E1]) wForm 0 E1 ((unhide HG).below (bthen (unhide HQ).1 (unhide HB))) ((unhide HQ).2.2.2.2.2.1.below (unhide HB)) ((unhide HQ).2.2.2.2.2.2.1.below (unhide HB))).mono ?_
        rintro ev v1 ⟨rfl, hb⟩
        dsimp only
        try go_simp
        have hS2 := hS.keep hb
        have HBn := hide (bthen (unhide HB) hb)
        refine hK _ _ (fun _ => hS2) ?_
        clear hK K' hS HB hb
        try simp only [List.getElem_toArray, List.getElem_cons_succ, List.getElem_cons_zero, Act.put, List.setIfInBounds_toArray, List.set_cons_zero, List.set_cons_succ]
        have hS := hS2
        have HB := HBn
        clear hS2 HBn
        refine anyE_take 3 (v := ?_) rfl (by kernel_rfl) (by kernel_rfl) (by kernel_rfl) (by kernel_rfl) (fun _ _ _ h => h) hS (Or.inl ⟨by rfl, ?_⟩) ?_
        rotate_left
        · intro w' hS'
          obtain ⟨⟨p0, p1, _, _, _⟩, ⟨p2, p3, _, _, _⟩, ⟨p4, p5, _, _, _⟩, ⟨p6, p7, _, _, _⟩, ⟨p8, p9, _, _, _⟩, ⟨pa, pb, _, _, _⟩, ⟨pc, pd, _, _, _⟩, ⟨pe, pf, _, _, _⟩⟩ := hS'
          go_simp
          try with_reducible rfl
        try simp only [List.getElem_toArray, List.getElem_cons_succ, List.getElem_cons_zero, Act.put, List.setIfInBounds_toArray, List.set_cons_zero, List.set_cons_succ]
        refine anyE_take 4 (v := ?_) rfl (by kernel_rfl) (by kernel_rfl) (by kernel_rfl) (by kernel_rfl) (fun _ _ _ h => h) hS (Or.inl ⟨by rfl, ?_⟩) ?_
        rotate_left
        · intro w' hS'
          obtain ⟨⟨p0, p1, _, _, _⟩, ⟨p2, p3, _, _, _⟩, ⟨p4, p5, _, _, _⟩, ⟨p6, p7, _, _, _⟩, ⟨p8, p9, _, _, _⟩, ⟨pa, pb, _, _, _⟩, ⟨pc, pd, _, _, _⟩, ⟨pe, pf, _, _, _⟩⟩ := hS'
          go_simp
          try with_reducible rfl
        try simp only [List.getElem_toArray, List.getElem_cons_succ, List.getElem_cons_zero, Act.put, List.setIfInBounds_toArray, List.set_cons_zero, List.set_cons_succ]
        refine anyE_take 5 (v := ?_) rfl (by kernel_rfl) (by kernel_rfl) (by kernel_rfl) (by kernel_rfl) (fun _ _ _ h => h) hS (Or.inl ⟨by rfl, ?_⟩) ?_
        rotate_left
        · intro w' hS'
          obtain ⟨⟨p0, p1, _, _, _⟩, ⟨p2, p3, _, _, _⟩, ⟨p4, p5, _, _, _⟩, ⟨p6, p7, _, _, _⟩, ⟨p8, p9, _, _, _⟩, ⟨pa, pb, _, _, _⟩, ⟨pc, pd, _, _, _⟩, ⟨pe, pf, _, _, _⟩⟩ := hS'
          go_simp
          try with_reducible rfl
        try simp only [List.getElem_toArray, List.getElem_cons_succ, List.getElem_cons_zero, Act.put, List.setIfInBounds_toArray, List.set_cons_zero, List.set_cons_succ]
        refine anyE_take 6 (v := ?_) rfl (by kernel_rfl) (by kernel_rfl) (by kernel_rfl) (by kernel_rfl) (fun _ _ _ h => h) hS (Or.inl ⟨by rfl, ?_⟩) ?_
        rotate_left
        · intro w' hS'
          obtain ⟨⟨p0, p1, _, _, _⟩, ⟨p2, p3, _, _, _⟩, ⟨p4, p5, _, _, _⟩, ⟨p6, p7, _, _, _⟩, ⟨p8, p9, _, _, _⟩, ⟨pa, pb, _, _, _⟩, ⟨pc, pd, _, _, _⟩, ⟨pe, pf, _, _, _⟩⟩ := hS'
          go_simp
          try with_reducible rfl
        try simp only [List.getElem_toArray, List.getElem_cons_succ, List.getElem_cons_zero, Act.put, List.setIfInBounds_toArray, List.set_cons_zero, List.set_cons_succ]
        refine anyE_take 7 (v := ?_) rfl (by kernel_rfl) (by kernel_rfl) (by kernel_rfl) (by kernel_rfl) (fun _ _ _ h => h) hS (Or.inl ⟨by rfl, ?_⟩) ?_
        rotate_left
        · intro w' hS'
          obtain ⟨⟨p0, p1, _, _, _⟩, ⟨p2, p3, _, _, _⟩, ⟨p4, p5, _, _, _⟩, ⟨p6, p7, _, _, _⟩, ⟨p8, p9, _, _, _⟩, ⟨pa, pb, _, _, _⟩, ⟨pc, pd, _, _, _⟩, ⟨pe, pf, _, _, _⟩⟩ := hS'
          go_simp
          try with_reducible rfl
        try simp only [List.getElem_toArray, List.getElem_cons_succ, List.getElem_cons_zero, Act.put, List.setIfInBounds_toArray, List.set_cons_zero, List.set_cons_succ]
        refine anyE_take 8 (v := ?_) rfl (by kernel_rfl) (by kernel_rfl) (by kernel_rfl) (by kernel_rfl) (fun _ _ _ h => h) hS (Or.inl ⟨by rfl, ?_⟩) ?_
        rotate_left
        · intro w' hS'
          obtain ⟨⟨p0, p1, _, _, _⟩, ⟨p2, p3, _, _, _⟩, ⟨p4, p5, _, _, _⟩, ⟨p6, p7, _, _, _⟩, ⟨p8, p9, _, _, _⟩, ⟨pa, pb, _, _, _⟩, ⟨pc, pd, _, _, _⟩, ⟨pe, pf, _, _, _⟩⟩ := hS'
          go_simp
          try with_reducible rfl
        try simp only [List.getElem_toArray, List.getElem_cons_succ, List.getElem_cons_zero, Act.put, List.setIfInBounds_toArray, List.set_cons_zero, List.set_cons_succ]
        refine anyE_take 9 (v := ?_) rfl (by kernel_rfl) (by kernel_rfl) (by kernel_rfl) (by kernel_rfl) (fun _ _ _ h => h) hS (Or.inl ⟨by rfl, ?_⟩) ?_
        rotate_left
        · intro w' hS'
          obtain ⟨⟨p0, p1, _, _, _⟩, ⟨p2, p3, _, _, _⟩, ⟨p4, p5, _, _, _⟩, ⟨p6, p7, _, _, _⟩, ⟨p8, p9, _, _, _⟩, ⟨pa, pb, _, _, _⟩, ⟨pc, pd, _, _, _⟩, ⟨pe, pf, _, _, _⟩⟩ := hS'
          go_simp
          try with_reducible rfl
        try simp only [List.getElem_toArray, List.getElem_cons_succ, List.getElem_cons_zero, Act.put, List.setIfInBounds_toArray, List.set_cons_zero, List.set_cons_succ]
        refine anyE_take 10 (v := ?_) rfl (by kernel_rfl) (by kernel_rfl) (by kernel_rfl) (by kernel_rfl) (fun _ _ _ h => h) hS (Or.inl ⟨by rfl, ?_⟩) ?_
        rotate_left
        · intro w' hS'
          obtain ⟨⟨p0, p1, _, _, _⟩, ⟨p2, p3, _, _, _⟩, ⟨p4, p5, _, _, _⟩, ⟨p6, p7, _, _, _⟩, ⟨p8, p9, _, _, _⟩, ⟨pa, pb, _, _, _⟩, ⟨pc, pd, _, _, _⟩, ⟨pe, pf, _, _, _⟩⟩ := hS'
          go_simp
          try with_reducible rfl
        try simp only [List.getElem_toArray, List.getElem_cons_succ, List.getElem_cons_zero, Act.put, List.setIfInBounds_toArray, List.set_cons_zero, List.set_cons_succ]
        refine anyE_take 11 (v := ?_) rfl (by kernel_rfl) (by kernel_rfl) (by kernel_rfl) (by kernel_rfl) (fun _ _ _ h => h) hS (Or.inl ⟨by rfl, ?_⟩) ?_
        rotate_left
        · intro w' hS'
          obtain ⟨⟨p0, p1, _, _, _⟩, ⟨p2, p3, _, _, _⟩, ⟨p4, p5, _, _, _⟩, ⟨p6, p7, _, _, _⟩, ⟨p8, p9, _, _, _⟩, ⟨pa, pb, _, _, _⟩, ⟨pc, pd, _, _, _⟩, ⟨pe, pf, _, _, _⟩⟩ := hS'
          go_simp
          try with_reducible rfl
        try simp only [List.getElem_toArray, List.getElem_cons_succ, List.getElem_cons_zero, Act.put, List.setIfInBounds_toArray, List.set_cons_zero, List.set_cons_succ]
        refine anyE_take 12 (v := ?_) rfl (by kernel_rfl) (by kernel_rfl) (by kernel_rfl) (by kernel_rfl) (fun _ _ _ h => h) hS (Or.inl ⟨by rfl, ?_⟩) ?_
        rotate_left
        · intro w' hS'
          obtain ⟨⟨p0, p1, _, _, _⟩, ⟨p2, p3, _, _, _⟩, ⟨p4, p5, _, _, _⟩, ⟨p6, p7, _, _, _⟩, ⟨p8, p9, _, _, _⟩, ⟨pa, pb, _, _, _⟩, ⟨pc, pd, _, _, _⟩, ⟨pe, pf, _, _, _⟩⟩ := hS'
          go_simp
          try with_reducible rfl
        try simp only [List.getElem_toArray, List.getElem_cons_succ, List.getElem_cons_zero, Act.put, List.setIfInBounds_toArray, List.set_cons_zero, List.set_cons_succ]
        refine anyE_take 13 (v := ?_) rfl (by kernel_rfl) (by kernel_rfl) (by kernel_rfl) (by kernel_rfl) (fun _ _ _ h => h) hS (Or.inl ⟨by rfl, ?_⟩) ?_
        rotate_left
        · intro w' hS'
          obtain ⟨⟨p0, p1, _, _, _⟩, ⟨p2, p3, _, _, _⟩, ⟨p4, p5, _, _, _⟩, ⟨p6, p7, _, _, _⟩, ⟨p8, p9, _, _, _⟩, ⟨pa, pb, _, _, _⟩, ⟨pc, pd, _, _, _⟩, ⟨pe, pf, _, _, _⟩⟩ := hS'
          go_simp
          try with_reducible rfl
        try simp only [List.getElem_toArray, List.getElem_cons_succ, List.getElem_cons_zero, Act.put, List.setIfInBounds_toArray, List.set_cons_zero, List.set_cons_succ]
        refine anyE_take 15 (v := ?_) rfl (by kernel_rfl) (by kernel_rfl) (by kernel_rfl) (by kernel_rfl) (fun _ _ _ h => h) hS (Or.inl ⟨by rfl, ?_⟩) ?_
        rotate_left
        · intro w' hS'
          obtain ⟨⟨p0, p1, _, _, _⟩, ⟨p2, p3, _, _, _⟩, ⟨p4, p5, _, _, _⟩, ⟨p6, p7, _, _, _⟩, ⟨p8, p9, _, _, _⟩, ⟨pa, pb, _, _, _⟩, ⟨pc, pd, _, _, _⟩, ⟨pe, pf, _, _, _⟩⟩ := hS'
          go_simp
          try with_reducible rfl
        try simp only [List.getElem_toArray, List.getElem_cons_succ, List.getElem_cons_zero, Act.put, List.setIfInBounds_toArray, List.set_cons_zero, List.set_cons_succ]
        refine anyE_ready [14] (by kernel_rfl) (by simp) (ReadyE.cons rfl (fun K' hK => ?_) ReadyE.nil)
        go_simp
        go_at_call 13
        refine (ofF_any v1 sa C1.length sc K1).mono ?_
        rintro ev v2 ⟨rfl, hb⟩
        dsimp only
        try go_simp
        have hS2 := hS.keep hb
        have HBn := hide (bthen (unhide HB) hb)
        refine hK _ _ (fun _ => hS2) ?_
        clear hK K' hS HB hb
        try simp only [List.getElem_toArray, List.getElem_cons_succ, List.getElem_cons_zero, Act.put, List.setIfInBounds_toArray, List.set_cons_zero, List.set_cons_succ]
        have hS := hS2
        have HB := HBn
        clear hS2 HBn
        refine anyE_ready [16] (by kernel_rfl) (by simp) (ReadyE.cons rfl (fun K' hK => ?_) ReadyE.nil)
        go_simp
        go_at_call 17
        have hsm := sameR_any v2 (.slice sa C1.length sc) (.slice ca C1.length cc) C1 C1 K1 K1 ((unhide HQ).2.1.below (unhide HB)) ((unhide HQ).2.2.1.below (unhide HB)) (unhide HC1) (unhide HC1)
        rw [sameP_refl] at hsm
        refine (hsm).mono ?_
        rintro ev v3 ⟨rfl, hb⟩
        dsimp only
        try go_simp
        have hS2 := hS.keep hb
        have HBn := hide (bthen (unhide HB) hb)
        refine hK _ _ (fun _ => hS2) ?_
        clear hK K' hS HB hb hsm
        try simp only [List.getElem_toArray, List.getElem_cons_succ, List.getElem_cons_zero, Act.put, List.setIfInBounds_toArray, List.set_cons_zero, List.set_cons_succ]
        have hS := hS2
        have HB := HBn
        clear hS2 HBn
        refine anyE_take 17 (v := ?_) rfl (by kernel_rfl) (by kernel_rfl) (by kernel_rfl) (by kernel_rfl) (fun _ _ _ h => h) hS (Or.inl ⟨by rfl, ?_⟩) ?_
        rotate_left
        · intro w' hS'
          obtain ⟨⟨p0, p1, _, _, _⟩, ⟨p2, p3, _, _, _⟩, ⟨p4, p5, _, _, _⟩, ⟨p6, p7, _, _, _⟩, ⟨p8, p9, _, _, _⟩, ⟨pa, pb, _, _, _⟩, ⟨pc, pd, _, _, _⟩, ⟨pe, pf, _, _, _⟩⟩ := hS'
          go_simp
          try with_reducible rfl
        try simp only [List.getElem_toArray, List.getElem_cons_succ, List.getElem_cons_zero, Act.put, List.setIfInBounds_toArray, List.set_cons_zero, List.set_cons_succ]
        refine anyE_take 18 (v := ?_) rfl (by kernel_rfl) (by kernel_rfl) (by kernel_rfl) (by kernel_rfl) (fun _ _ _ h => h) hS (Or.inl ⟨by rfl, ?_⟩) ?_
        rotate_left
        · intro w' hS'
          obtain ⟨⟨p0, p1, _, _, _⟩, ⟨p2, p3, _, _, _⟩, ⟨p4, p5, _, _, _⟩, ⟨p6, p7, _, _, _⟩, ⟨p8, p9, _, _, _⟩, ⟨pa, pb, _, _, _⟩, ⟨pc, pd, _, _, _⟩, ⟨pe, pf, _, _, _⟩⟩ := hS'
          go_simp
          try with_reducible rfl
        try simp only [List.getElem_toArray, List.getElem_cons_succ, List.getElem_cons_zero, Act.put, List.setIfInBounds_toArray, List.set_cons_zero, List.set_cons_succ]
        refine anyE_take 19 (v := ?_) rfl (by kernel_rfl) (by kernel_rfl) (by kernel_rfl) (by kernel_rfl) (fun _ _ _ h => h) hS (Or.inl ⟨by rfl, ?_⟩) ?_
        rotate_left
        · intro w' hS'
          obtain ⟨⟨p0, p1, _, _, _⟩, ⟨p2, p3, _, _, _⟩, ⟨p4, p5, _, _, _⟩, ⟨p6, p7, _, _, _⟩, ⟨p8, p9, _, _, _⟩, ⟨pa, pb, _, _, _⟩, ⟨pc, pd, _, _, _⟩, ⟨pe, pf, _, _, _⟩⟩ := hS'
          go_simp
          try with_reducible rfl
        try simp only [List.getElem_toArray, List.getElem_cons_succ, List.getElem_cons_zero, Act.put, List.setIfInBounds_toArray, List.set_cons_zero, List.set_cons_succ]
        refine anyE_take 20 (v := ?_) rfl (by kernel_rfl) (by kernel_rfl) (by kernel_rfl) (by kernel_rfl) (fun _ _ _ h => h) hS (Or.inl ⟨by rfl, ?_⟩) ?_
        rotate_left
        · intro w' hS'
          obtain ⟨⟨p0, p1, _, _, _⟩, ⟨p2, p3, _, _, _⟩, ⟨p4, p5, _, _, _⟩, ⟨p6, p7, _, _, _⟩, ⟨p8, p9, _, _, _⟩, ⟨pa, pb, _, _, _⟩, ⟨pc, pd, _, _, _⟩, ⟨pe, pf, _, _, _⟩⟩ := hS'
          go_simp
          try with_reducible rfl
        try simp only [List.getElem_toArray, List.getElem_cons_succ, List.getElem_cons_zero, Act.put, List.setIfInBounds_toArray, List.set_cons_zero, List.set_cons_succ]
        refine anyE_ready [21] (by kernel_rfl) (by simp) (ReadyE.cons rfl (fun K' hK => ?_) ReadyE.nil)
        go_simp
        go_at_call 16
        refine (tells_any v3 f2 (.agg #[.slice h hn' hc', .int .i64 E2]) wForm 0 E2 ((unhide HG).below (bthen (unhide HQ).1 (unhide HB))) ((unhide HQ).2.2.2.2.2.2.2.1.below (unhide HB)) ((unhide HQ).2.2.2.2.2.2.2.2.below (unhide HB))).mono ?_
        rintro ev v4 ⟨rfl, hb⟩
        dsimp only
        try go_simp
        have hS2 := hS.keep hb
        have HBn := hide (bthen (unhide HB) hb)
        refine hK _ _ (fun _ => hS2) ?_
        clear hK K' hS HB hb
        try simp only [List.getElem_toArray, List.getElem_cons_succ, List.getElem_cons_zero, Act.put, List.setIfInBounds_toArray, List.set_cons_zero, List.set_cons_succ]
        have hS := hS2
        have HB := HBn
        clear hS2 HBn
        refine anyE_take 22 (v := ?_) rfl (by kernel_rfl) (by kernel_rfl) (by kernel_rfl) (by kernel_rfl) (fun _ _ _ h => h) hS (Or.inl ⟨by rfl, ?_⟩) ?_
        rotate_left
        · intro w' hS'
          obtain ⟨⟨p0, p1, _, _, _⟩, ⟨p2, p3, _, _, _⟩, ⟨p4, p5, _, _, _⟩, ⟨p6, p7, _, _, _⟩, ⟨p8, p9, _, _, _⟩, ⟨pa, pb, _, _, _⟩, ⟨pc, pd, _, _, _⟩, ⟨pe, pf, _, _, _⟩⟩ := hS'
          go_simp
          try with_reducible rfl
        try simp only [List.getElem_toArray, List.getElem_cons_succ, List.getElem_cons_zero, Act.put, List.setIfInBounds_toArray, List.set_cons_zero, List.set_cons_succ]
        refine anyE_take 23 (v := ?_) rfl (by kernel_rfl) (by kernel_rfl) (by kernel_rfl) (by kernel_rfl) (fun _ _ _ h => h) hS (Or.inl ⟨by rfl, ?_⟩) ?_
        rotate_left
        · intro w' hS'
          obtain ⟨⟨p0, p1, _, _, _⟩, ⟨p2, p3, _, _, _⟩, ⟨p4, p5, _, _, _⟩, ⟨p6, p7, _, _, _⟩, ⟨p8, p9, _, _, _⟩, ⟨pa, pb, _, _, _⟩, ⟨pc, pd, _, _, _⟩, ⟨pe, pf, _, _, _⟩⟩ := hS'
          go_simp
          try with_reducible rfl
        try simp only [List.getElem_toArray, List.getElem_cons_succ, List.getElem_cons_zero, Act.put, List.setIfInBounds_toArray, List.set_cons_zero, List.set_cons_succ]
        refine anyE_take 24 (v := ?_) rfl (by kernel_rfl) (by kernel_rfl) (by kernel_rfl) (by kernel_rfl) (fun _ _ _ h => h) hS (Or.inl ⟨by rfl, ?_⟩) ?_
        rotate_left
        · intro w' hS'
          obtain ⟨⟨p0, p1, _, _, _⟩, ⟨p2, p3, _, _, _⟩, ⟨p4, p5, _, _, _⟩, ⟨p6, p7, _, _, _⟩, ⟨p8, p9, _, _, _⟩, ⟨pa, pb, _, _, _⟩, ⟨pc, pd, _, _, _⟩, ⟨pe, pf, _, _, _⟩⟩ := hS'
          go_simp
          try with_reducible rfl
        try simp only [List.getElem_toArray, List.getElem_cons_succ, List.getElem_cons_zero, Act.put, List.setIfInBounds_toArray, List.set_cons_zero, List.set_cons_succ]
        refine anyE_take 25 (v := ?_) rfl (by kernel_rfl) (by kernel_rfl) (by kernel_rfl) (by kernel_rfl) (fun _ _ _ h => h) hS (Or.inl ⟨by rfl, ?_⟩) ?_
        rotate_left
        · intro w' hS'
          obtain ⟨⟨p0, p1, _, _, _⟩, ⟨p2, p3, _, _, _⟩, ⟨p4, p5, _, _, _⟩, ⟨p6, p7, _, _, _⟩, ⟨p8, p9, _, _, _⟩, ⟨pa, pb, _, _, _⟩, ⟨pc, pd, _, _, _⟩, ⟨pe, pf, _, _, _⟩⟩ := hS'
          go_simp
          try with_reducible rfl
        try simp only [List.getElem_toArray, List.getElem_cons_succ, List.getElem_cons_zero, Act.put, List.setIfInBounds_toArray, List.set_cons_zero, List.set_cons_succ]
        refine anyE_take 26 (v := ?_) rfl (by kernel_rfl) (by kernel_rfl) (by kernel_rfl) (by kernel_rfl) (fun _ _ _ h => h) hS (Or.inl ⟨by rfl, ?_⟩) ?_
        rotate_left
        · intro w' hS'
          obtain ⟨⟨p0, p1, _, _, _⟩, ⟨p2, p3, _, _, _⟩, ⟨p4, p5, _, _, _⟩, ⟨p6, p7, _, _, _⟩, ⟨p8, p9, _, _, _⟩, ⟨pa, pb, _, _, _⟩, ⟨pc, pd, _, _, _⟩, ⟨pe, pf, _, _, _⟩⟩ := hS'
          go_simp
          try with_reducible rfl
        try simp only [List.getElem_toArray, List.getElem_cons_succ, List.getElem_cons_zero, Act.put, List.setIfInBounds_toArray, List.set_cons_zero, List.set_cons_succ]
        refine anyE_take 27 (v := ?_) rfl (by kernel_rfl) (by kernel_rfl) (by kernel_rfl) (by kernel_rfl) (fun _ _ _ h => h) hS (Or.inl ⟨by rfl, ?_⟩) ?_
        rotate_left
        · intro w' hS'
          obtain ⟨⟨p0, p1, _, _, _⟩, ⟨p2, p3, _, _, _⟩, ⟨p4, p5, _, _, _⟩, ⟨p6, p7, _, _, _⟩, ⟨p8, p9, _, _, _⟩, ⟨pa, pb, _, _, _⟩, ⟨pc, pd, _, _, _⟩, ⟨pe, pf, _, _, _⟩⟩ := hS'
          go_simp
          try with_reducible rfl
        try simp only [List.getElem_toArray, List.getElem_cons_succ, List.getElem_cons_zero, Act.put, List.setIfInBounds_toArray, List.set_cons_zero, List.set_cons_succ]
        refine anyE_take 28 (v := ?_) rfl (by kernel_rfl) (by kernel_rfl) (by kernel_rfl) (by kernel_rfl) (fun _ _ _ h => h) hS (Or.inl ⟨by rfl, ?_⟩) ?_
        rotate_left
        · intro w' hS'
          obtain ⟨⟨p0, p1, _, _, _⟩, ⟨p2, p3, _, _, _⟩, ⟨p4, p5, _, _, _⟩, ⟨p6, p7, _, _, _⟩, ⟨p8, p9, _, _, _⟩, ⟨pa, pb, _, _, _⟩, ⟨pc, pd, _, _, _⟩, ⟨pe, pf, _, _, _⟩⟩ := hS'
          go_simp
          try with_reducible rfl
        try simp only [List.getElem_toArray, List.getElem_cons_succ, List.getElem_cons_zero, Act.put, List.setIfInBounds_toArray, List.set_cons_zero, List.set_cons_succ]
        refine anyE_take 29 (v := ?_) rfl (by kernel_rfl) (by kernel_rfl) (by kernel_rfl) (by kernel_rfl) (fun _ _ _ h => h) hS (Or.inl ⟨by rfl, ?_⟩) ?_
        rotate_left
        · intro w' hS'
          obtain ⟨⟨p0, p1, _, _, _⟩, ⟨p2, p3, _, _, _⟩, ⟨p4, p5, _, _, _⟩, ⟨p6, p7, _, _, _⟩, ⟨p8, p9, _, _, _⟩, ⟨pa, pb, _, _, _⟩, ⟨pc, pd, _, _, _⟩, ⟨pe, pf, _, _, _⟩⟩ := hS'
          go_simp
          try with_reducible rfl
        try simp only [List.getElem_toArray, List.getElem_cons_succ, List.getElem_cons_zero, Act.put, List.setIfInBounds_toArray, List.set_cons_zero, List.set_cons_succ]
        refine anyE_take 30 (v := ?_) rfl (by kernel_rfl) (by kernel_rfl) (by kernel_rfl) (by kernel_rfl) (fun _ _ _ h => h) hS (Or.inl ⟨by rfl, ?_⟩) ?_
        rotate_left
        · intro w' hS'
          obtain ⟨⟨p0, p1, _, _, _⟩, ⟨p2, p3, _, _, _⟩, ⟨p4, p5, _, _, _⟩, ⟨p6, p7, _, _, _⟩, ⟨p8, p9, _, _, _⟩, ⟨pa, pb, _, _, _⟩, ⟨pc, pd, _, _, _⟩, ⟨pe, pf, _, _, _⟩⟩ := hS'
          go_simp
          try with_reducible rfl
        try simp only [List.getElem_toArray, List.getElem_cons_succ, List.getElem_cons_zero, Act.put, List.setIfInBounds_toArray, List.set_cons_zero, List.set_cons_succ]
        refine anyE_take 31 (v := ?_) rfl (by kernel_rfl) (by kernel_rfl) (by kernel_rfl) (by kernel_rfl) (fun _ _ _ h => h) hS (Or.inl ⟨by rfl, ?_⟩) ?_
        rotate_left
        · intro w' hS'
          obtain ⟨⟨p0, p1, _, _, _⟩, ⟨p2, p3, _, _, _⟩, ⟨p4, p5, _, _, _⟩, ⟨p6, p7, _, _, _⟩, ⟨p8, p9, _, _, _⟩, ⟨pa, pb, _, _, _⟩, ⟨pc, pd, _, _, _⟩, ⟨pe, pf, _, _, _⟩⟩ := hS'
          go_simp
          try with_reducible rfl
        try simp only [List.getElem_toArray, List.getElem_cons_succ, List.getElem_cons_zero, Act.put, List.setIfInBounds_toArray, List.set_cons_zero, List.set_cons_succ]
        refine anyE_take 32 (v := ?_) rfl (by kernel_rfl) (by kernel_rfl) (by kernel_rfl) (by kernel_rfl) (fun _ _ _ h => h) hS (Or.inl ⟨by rfl, ?_⟩) ?_
        rotate_left
        · intro w' hS'
          obtain ⟨⟨p0, p1, _, _, _⟩, ⟨p2, p3, _, _, _⟩, ⟨p4, p5, _, _, _⟩, ⟨p6, p7, _, _, _⟩, ⟨p8, p9, _, _, _⟩, ⟨pa, pb, _, _, _⟩, ⟨pc, pd, _, _, _⟩, ⟨pe, pf, _, _, _⟩⟩ := hS'
          go_simp
          try with_reducible rfl
        try simp only [List.getElem_toArray, List.getElem_cons_succ, List.getElem_cons_zero, Act.put, List.setIfInBounds_toArray, List.set_cons_zero, List.set_cons_succ]
        refine anyE_take 33 (v := ?_) rfl (by kernel_rfl) (by kernel_rfl) (by kernel_rfl) (by kernel_rfl) (fun _ _ _ h => h) hS (Or.inl ⟨by rfl, ?_⟩) ?_
        rotate_left
        · intro w' hS'
          obtain ⟨⟨p0, p1, _, _, _⟩, ⟨p2, p3, _, _, _⟩, ⟨p4, p5, _, _, _⟩, ⟨p6, p7, _, _, _⟩, ⟨p8, p9, _, _, _⟩, ⟨pa, pb, _, _, _⟩, ⟨pc, pd, _, _, _⟩, ⟨pe, pf, _, _, _⟩⟩ := hS'
          go_simp
          try with_reducible rfl
        try simp only [List.getElem_toArray, List.getElem_cons_succ, List.getElem_cons_zero, Act.put, List.setIfInBounds_toArray, List.set_cons_zero, List.set_cons_succ]
        refine anyE_take 35 (v := ?_) rfl (by kernel_rfl) (by kernel_rfl) (by kernel_rfl) (by kernel_rfl) (fun _ _ _ h => h) hS (Or.inl ⟨by rfl, ?_⟩) ?_
        rotate_left
        · intro w' hS'
          obtain ⟨⟨p0, p1, _, _, _⟩, ⟨p2, p3, _, _, _⟩, ⟨p4, p5, _, _, _⟩, ⟨p6, p7, _, _, _⟩, ⟨p8, p9, _, _, _⟩, ⟨pa, pb, _, _, _⟩, ⟨pc, pd, _, _, _⟩, ⟨pe, pf, _, _, _⟩⟩ := hS'
          go_simp
          try with_reducible rfl
        try simp only [List.getElem_toArray, List.getElem_cons_succ, List.getElem_cons_zero, Act.put, List.setIfInBounds_toArray, List.set_cons_zero, List.set_cons_succ]
        refine anyE_ready [34] (by kernel_rfl) (by simp) (ReadyE.cons rfl (fun K' hK => ?_) ReadyE.nil)
        go_simp
        go_at_call 13
        refine (ofF_any v4 ta C2.length tc K2).mono ?_
        rintro ev v5 ⟨rfl, hb⟩
        dsimp only
        try go_simp
        have hS2 := hS.keep hb
        have HBn := hide (bthen (unhide HB) hb)
        refine hK _ _ (fun _ => hS2) ?_
        clear hK K' hS HB hb
        try simp only [List.getElem_toArray, List.getElem_cons_succ, List.getElem_cons_zero, Act.put, List.setIfInBounds_toArray, List.set_cons_zero, List.set_cons_succ]
        have hS := hS2
        have HB := HBn
        clear hS2 HBn
        refine anyE_ready [36] (by kernel_rfl) (by simp) (ReadyE.cons rfl (fun K' hK => ?_) ReadyE.nil)
        go_simp
        go_at_call 17
        have hsm := sameR_any v5 (.slice ta C2.length tc) (.slice ua C2.length uc) C2 C2 K2 K2 ((unhide HQ).2.2.2.1.below (unhide HB)) ((unhide HQ).2.2.2.2.1.below (unhide HB)) (unhide HC2) (unhide HC2)
        rw [sameP_refl] at hsm
        refine (hsm).mono ?_
        rintro ev v6 ⟨rfl, hb⟩
        dsimp only
        try go_simp
        have hS2 := hS.keep hb
        have HBn := hide (bthen (unhide HB) hb)
        refine hK _ _ (fun _ => hS2) ?_
        clear hK K' hS HB hb hsm
        try simp only [List.getElem_toArray, List.getElem_cons_succ, List.getElem_cons_zero, Act.put, List.setIfInBounds_toArray, List.set_cons_zero, List.set_cons_succ]
        have hS := hS2
        have HB := HBn
        clear hS2 HBn
        refine anyE_take 37 (v := ?_) rfl (by kernel_rfl) (by kernel_rfl) (by kernel_rfl) (by kernel_rfl) (fun _ _ _ h => h) hS (Or.inl ⟨by rfl, ?_⟩) ?_
        rotate_left
        · intro w' hS'
          obtain ⟨⟨p0, p1, _, _, _⟩, ⟨p2, p3, _, _, _⟩, ⟨p4, p5, _, _, _⟩, ⟨p6, p7, _, _, _⟩, ⟨p8, p9, _, _, _⟩, ⟨pa, pb, _, _, _⟩, ⟨pc, pd, _, _, _⟩, ⟨pe, pf, _, _, _⟩⟩ := hS'
          go_simp
          try with_reducible rfl
        try simp only [List.getElem_toArray, List.getElem_cons_succ, List.getElem_cons_zero, Act.put, List.setIfInBounds_toArray, List.set_cons_zero, List.set_cons_succ]
        refine anyE_take 38 (v := ?_) rfl (by kernel_rfl) (by kernel_rfl) (by kernel_rfl) (by kernel_rfl) (fun _ _ _ h => h) hS (Or.inl ⟨by rfl, ?_⟩) ?_
        rotate_left
        · intro w' hS'
          obtain ⟨⟨p0, p1, _, _, _⟩, ⟨p2, p3, _, _, _⟩, ⟨p4, p5, _, _, _⟩, ⟨p6, p7, _, _, _⟩, ⟨p8, p9, _, _, _⟩, ⟨pa, pb, _, _, _⟩, ⟨pc, pd, _, _, _⟩, ⟨pe, pf, _, _, _⟩⟩ := hS'
          go_simp
          try with_reducible rfl
        try simp only [List.getElem_toArray, List.getElem_cons_succ, List.getElem_cons_zero, Act.put, List.setIfInBounds_toArray, List.set_cons_zero, List.set_cons_succ]
        refine anyE_take 39 (v := ?_) rfl (by kernel_rfl) (by kernel_rfl) (by kernel_rfl) (by kernel_rfl) (fun _ _ _ h => h) hS (Or.inl ⟨by rfl, ?_⟩) ?_
        rotate_left
        · intro w' hS'
          obtain ⟨⟨p0, p1, _, _, _⟩, ⟨p2, p3, _, _, _⟩, ⟨p4, p5, _, _, _⟩, ⟨p6, p7, _, _, _⟩, ⟨p8, p9, _, _, _⟩, ⟨pa, pb, _, _, _⟩, ⟨pc, pd, _, _, _⟩, ⟨pe, pf, _, _, _⟩⟩ := hS'
          go_simp
          try with_reducible rfl
        try simp only [List.getElem_toArray, List.getElem_cons_succ, List.getElem_cons_zero, Act.put, List.setIfInBounds_toArray, List.set_cons_zero, List.set_cons_succ]
        refine anyE_take 40 (v := ?_) rfl (by kernel_rfl) (by kernel_rfl) (by kernel_rfl) (by kernel_rfl) (fun _ _ _ h => h) hS (Or.inl ⟨by rfl, ?_⟩) ?_
        rotate_left
        · intro w' hS'
          obtain ⟨⟨p0, p1, _, _, _⟩, ⟨p2, p3, _, _, _⟩, ⟨p4, p5, _, _, _⟩, ⟨p6, p7, _, _, _⟩, ⟨p8, p9, _, _, _⟩, ⟨pa, pb, _, _, _⟩, ⟨pc, pd, _, _, _⟩, ⟨pe, pf, _, _, _⟩⟩ := hS'
          go_simp
          try with_reducible rfl
        try simp only [List.getElem_toArray, List.getElem_cons_succ, List.getElem_cons_zero, Act.put, List.setIfInBounds_toArray, List.set_cons_zero, List.set_cons_succ]
        refine anyE_take 42 (v := ?_) rfl (by kernel_rfl) (by kernel_rfl) (by kernel_rfl) (by kernel_rfl) (fun _ _ _ h => h) hS (Or.inl ⟨by rfl, ?_⟩) ?_
        rotate_left
        · intro w' hS'
          obtain ⟨⟨p0, p1, _, _, _⟩, ⟨p2, p3, _, _, _⟩, ⟨p4, p5, _, _, _⟩, ⟨p6, p7, _, _, _⟩, ⟨p8, p9, _, _, _⟩, ⟨pa, pb, _, _, _⟩, ⟨pc, pd, _, _, _⟩, ⟨pe, pf, _, _, _⟩⟩ := hS'
          go_simp
          try with_reducible rfl
        try simp only [List.getElem_toArray, List.getElem_cons_succ, List.getElem_cons_zero, Act.put, List.setIfInBounds_toArray, List.set_cons_zero, List.set_cons_succ]
        refine anyE_take 44 (v := ?_) rfl (by kernel_rfl) (by kernel_rfl) (by kernel_rfl) (by kernel_rfl) (fun _ _ _ h => h) hS (Or.inl ⟨by rfl, ?_⟩) ?_
        rotate_left
        · intro w' hS'
          obtain ⟨⟨p0, p1, _, _, _⟩, ⟨p2, p3, _, _, _⟩, ⟨p4, p5, _, _, _⟩, ⟨p6, p7, _, _, _⟩, ⟨p8, p9, _, _, _⟩, ⟨pa, pb, _, _, _⟩, ⟨pc, pd, _, _, _⟩, ⟨pe, pf, _, _, _⟩⟩ := hS'
          go_simp
          try with_reducible rfl
        try simp only [List.getElem_toArray, List.getElem_cons_succ, List.getElem_cons_zero, Act.put, List.setIfInBounds_toArray, List.set_cons_zero, List.set_cons_succ]
        refine anyE_ready [41] (by kernel_rfl) (by simp) (ReadyE.cons rfl (fun K' hK => ?_) ReadyE.nil)
        go_simp
        go_at_call 18
        refine (same_any v6 (.slice aa n ac) (.slice ba m bc) a b ka kb ((unhide HO).1.below (bthen (unhide HQ).1 (unhide HB))) ((unhide HO).2.below (bthen (unhide HQ).1 (unhide HB))) (by rw [(unhide HLS).1]; omega) (by rw [(unhide HLS).2]; omega)).mono ?_
        rintro ev v7 ⟨rfl, hb⟩
        dsimp only
        try go_simp
        have hS2 := hS.keep hb
        have HBn := hide (bthen (unhide HB) hb)
        refine hK _ _ (fun _ => hS2) ?_
        clear hK K' hS HB hb
        try simp only [List.getElem_toArray, List.getElem_cons_succ, List.getElem_cons_zero, Act.put, List.setIfInBounds_toArray, List.set_cons_zero, List.set_cons_succ]
        have hS := hS2
        have HB := HBn
        clear hS2 HBn
        refine anyE_ready [43] (by kernel_rfl) (by simp) (ReadyE.cons rfl (fun K' hK => ?_) ReadyE.nil)
        go_simp
        go_at_call 13
        refine (ofF_any v7 aa n ac ka).mono ?_
        rintro ev v8 ⟨rfl, hb⟩
        dsimp only
        try go_simp
        have hS2 := hS.keep hb
        have HBn := hide (bthen (unhide HB) hb)
        refine hK _ _ (fun _ => hS2) ?_
        clear hK K' hS HB hb
        try simp only [List.getElem_toArray, List.getElem_cons_succ, List.getElem_cons_zero, Act.put, List.setIfInBounds_toArray, List.set_cons_zero, List.set_cons_succ]
        have hS := hS2
        have HB := HBn
        clear hS2 HBn
        refine anyE_ready [45] (by kernel_rfl) (by simp) (ReadyE.cons rfl (fun K' hK => ?_) ReadyE.nil)
        go_simp
        go_at_call 13
        refine (ofF_any v8 ba m bc kb).mono ?_
        rintro ev v9 ⟨rfl, hb⟩
        dsimp only
        try go_simp
        have hS2 := hS.keep hb
        have HBn := hide (bthen (unhide HB) hb)
        refine hK _ _ (fun _ => hS2) ?_
        clear hK K' hS HB hb
        try simp only [List.getElem_toArray, List.getElem_cons_succ, List.getElem_cons_zero, Act.put, List.setIfInBounds_toArray, List.set_cons_zero, List.set_cons_succ]
        have hS := hS2
        have HB := HBn
        clear hS2 HBn
        refine anyE_ready [46] (by kernel_rfl) (by simp) (ReadyE.cons rfl (fun K' hK => ?_) ReadyE.nil)
        go_simp
        go_at_call 17
        refine (sameR_any v9 (.slice aa n ac) (.slice ba m bc) a b ka kb ((unhide HO).1.below (bthen (unhide HQ).1 (unhide HB))) ((unhide HO).2.below (bthen (unhide HQ).1 (unhide HB))) (by rw [(unhide HLS).1]; omega) (by rw [(unhide HLS).2]; omega)).mono ?_
        rintro ev v10 ⟨rfl, hb⟩
        dsimp only
        try go_simp
        have hS2 := hS.keep hb
        have HBn := hide (bthen (unhide HB) hb)
        refine hK _ _ (fun _ => hS2) ?_
        clear hK K' hS HB hb
        try simp only [List.getElem_toArray, List.getElem_cons_succ, List.getElem_cons_zero, Act.put, List.setIfInBounds_toArray, List.set_cons_zero, List.set_cons_succ]
        have hS := hS2
        have HB := HBn
        clear hS2 HBn
        refine anyE_take 47 (v := ?_) rfl (by kernel_rfl) (by kernel_rfl) (by kernel_rfl) (by kernel_rfl) (fun _ _ _ h => h) hS (Or.inl ⟨by rfl, ?_⟩) ?_
        rotate_left
        · intro w' hS'
          obtain ⟨⟨p0, p1, _, _, _⟩, ⟨p2, p3, _, _, _⟩, ⟨p4, p5, _, _, _⟩, ⟨p6, p7, _, _, _⟩, ⟨p8, p9, _, _, _⟩, ⟨pa, pb, _, _, _⟩, ⟨pc, pd, _, _, _⟩, ⟨pe, pf, _, _, _⟩⟩ := hS'
          go_simp
          try with_reducible rfl
        try simp only [List.getElem_toArray, List.getElem_cons_succ, List.getElem_cons_zero, Act.put, List.setIfInBounds_toArray, List.set_cons_zero, List.set_cons_succ]
        refine anyE_take 48 (v := ?_) rfl (by kernel_rfl) (by kernel_rfl) (by kernel_rfl) (by kernel_rfl) (fun _ _ _ h => h) hS (Or.inl ⟨by rfl, ?_⟩) ?_
        rotate_left
        · intro w' hS'
          obtain ⟨⟨p0, p1, _, _, _⟩, ⟨p2, p3, _, _, _⟩, ⟨p4, p5, _, _, _⟩, ⟨p6, p7, _, _, _⟩, ⟨p8, p9, _, _, _⟩, ⟨pa, pb, _, _, _⟩, ⟨pc, pd, _, _, _⟩, ⟨pe, pf, _, _, _⟩⟩ := hS'
          go_simp
          try with_reducible rfl
        try simp only [List.getElem_toArray, List.getElem_cons_succ, List.getElem_cons_zero, Act.put, List.setIfInBounds_toArray, List.set_cons_zero, List.set_cons_succ]
        refine anyE_take 49 (v := ?_) rfl (by kernel_rfl) (by kernel_rfl) (by kernel_rfl) (by kernel_rfl) (fun _ _ _ h => h) hS (Or.inl ⟨by rfl, ?_⟩) ?_
        rotate_left
        · intro w' hS'
          obtain ⟨⟨p0, p1, _, _, _⟩, ⟨p2, p3, _, _, _⟩, ⟨p4, p5, _, _, _⟩, ⟨p6, p7, _, _, _⟩, ⟨p8, p9, _, _, _⟩, ⟨pa, pb, _, _, _⟩, ⟨pc, pd, _, _, _⟩, ⟨pe, pf, _, _, _⟩⟩ := hS'
          go_simp
          try with_reducible rfl
        try simp only [List.getElem_toArray, List.getElem_cons_succ, List.getElem_cons_zero, Act.put, List.setIfInBounds_toArray, List.set_cons_zero, List.set_cons_succ]
        refine anyE_done (by kernel_rfl) ?_ _
        have HBL := hide (bthen (unhide HQ).1 (unhide HB))
        clear hS
        go_wp2_with fail
        go_ret
        exact ⟨rfl, unhide HBL⟩
    · have d2 : decide ((m : Int) ≤ 20) = false := decide_eq_false (by omega)
      rw [d2]
      have HBL := hide (unhide HK3).1
      clear HK3
      go_wp2_with fail
      go_ret
      exact ⟨rfl, unhide HBL⟩
  · have d1 : decide ((n : Int) ≤ 20) = false := decide_eq_false (by omega)
    rw [d1]
    have HBL := hide (unhide HK2).1
    clear HK2
    go_wp2_with fail
    go_ret
    exact ⟨rfl, unhide HBL⟩
end Go.Proofs.YtmbhamnkbpcljaaDoor.Line
