/- The contract of known. -/
import Derived.Test.YtmbhamnkbpcljaaDoorLnTxt
import Derived.Test.YtmbhamnkbpcljaaDoorLnRg
import Derived.Test.YtmbhamnkbpcljaaDoorLnScl
import Derived.Test.YtmbhamnkbpcljaaDoorLnSm
import Derived.Test.YtmbhamnkbpcljaaDoorTellsA
namespace Go.Proofs.YtmbhamnkbpcljaaDoor.Line
open Go.ChangeShapes Go.WideShapes Go.ChangeAt Go.RowKit
set_option linter.unusedVariables false

theorem lit3 (w : World) (a b c : Int) : Ints (w.alloc (.cells #[.int .i64 a, .int .i64 b, .int .i64 c] 2)) (.slice (some ⟨w.heap.size, 0, none⟩) 3 3) [a, b, c] := by
  refine ⟨_, 3, rfl, Nat.le_refl _, by decide, .inr ⟨w.heap.size, 0, rfl, fun i hi => ?_⟩⟩
  have : i = 0 ∨ i = 1 ∨ i = 2 := by simp at hi; omega
  rcases this with rfl | rfl | rfl <;> simp
theorem row3 (w : World) (a b c : List UInt8) : Row (w.alloc (.cells #[.string ⟨a.toArray⟩, .string ⟨b.toArray⟩, .string ⟨c.toArray⟩] 9)) (.slice (some ⟨w.heap.size, 0, none⟩) 3 3) [a, b, c] := by
  refine .inr ⟨w.heap.size, 0, 3, rfl, Nat.le_refl _, fun i hi => ?_⟩
  have : i = 0 ∨ i = 1 ∨ i = 2 := by simp at hi; omega
  rcases this with rfl | rfl | rfl <;> simp
abbrev FA : List Int := [2, 0, -1]
theorem fa_rng : Rng FA := by
  intro x hx
  simp only [FA, List.mem_cons, List.mem_nil_iff, or_false] at hx
  rcases hx with rfl | rfl | rfl <;> exact ⟨by decide, by decide⟩
theorem rng3 {a b c : Int} (ha : In64 a) (hb : In64 b) (hc : In64 c) : Rng [a, b, c] := by
  intro x hx
  simp only [List.mem_cons, List.mem_nil_iff, or_false] at hx
  rcases hx with rfl | rfl | rfl <;> assumption
/-- the form of known, in its box -/
structure KS (w W : World) (fb q : Nat) : Prop where
  bl : Below w.heap.size w W
  bx : Bx W fb (.slice (some ⟨q, 0, none⟩) 3 3) (.int .i64 (-5))
  it : Ints W (.slice (some ⟨q, 0, none⟩) 3 3) FA
theorem KS.keep {w W W' : World} {fb q : Nat} (h : KS w W fb q) (hb : Below W.heap.size W W') : KS w W' fb q := ⟨bthen h.bl hb, h.bx.keep hb, h.it.below hb⟩
theorem KS.set {w W : World} {fb q : Nat} (h : KS w W fb q) (a : Addr) (h1 : a.block ≠ fb) (h2 : a.block ≠ q) (h3 : w.heap.size ≤ a.block) (x : Value) : KS w (W.setCell a x) fb q :=
  ⟨h.bl.setCell h3 x, h.bx.other a h1 x, h.it.other a x (fun b o cap hv => by injection hv with e1; injection e1 with e1; injection e1 with e1; rw [← e1]; exact h2)⟩
theorem says_zero {B : Nat} {w : World} {f : Value} {word : List UInt8} {k : Nat} (h : Says B w f word k 0) : f = .nilIface := by
  rcases h with ⟨_, h⟩ | ⟨h, _⟩
  · exact h
  · exact absurd rfl h
theorem k_add : addE FA (idxL 3 2) (-5) 0 = 0 ∧ addC FA (idxL 3 2) (-5) 0 = [2, 0, 0] ∧ addK FA (idxL 3 2) (-5) 0 = -5 := by decide
theorem k_add2 : addE FA (List.replicate 2 0) (-5) 1 = 1 := by decide
theorem k_mul : mulE FA (-5) 9223372036854775807 = 5 := by decide
theorem k_mul2 : mulC FA (-5) 9223372036854775807 = [] ∧ mulK FA (-5) 9223372036854775807 = 0 := by decide
theorem k_add3 : addC FA (List.replicate 2 0) (-5) 1 = [] ∧ addK FA (List.replicate 2 0) (-5) 1 = 0 := by decide
theorem k_at : atE FA [3, 9, 4] (-5) = 0 ∧ atV FA [3, 9, 4] (-5) = -3 := by decide
theorem k_rng : rngE FA [1, 1, 1] [3, 9, 2] (-5) = 0 ∧ rngV FA [1, 1, 1] [3, 9, 2] (-5) = (-5, 0) := by decide
theorem dig1 (n : Nat) (h : n < 10) : Lib.decDigits n = [UInt8.ofNat (48 + n)] := by unfold Lib.decDigits; rw [dif_pos h]
theorem k_txt : textF FA (-5) [[105], [106], [107]] = [50, 42, 105, 32, 45, 32, 107, 32, 45, 32, 53] := by
  simp [textF, textGo, finT, termT, nameT, oneT, signT, dig1]
theorem k_txt2 : textF [0] 0 [] = [48] := by
  simp [textF, textGo, finT, signT, dig1]
theorem idx_rng : Rng (idxL 3 2) := by
  rw [show idxL 3 2 = [0, 0, 1] by decide]
  exact rng3 ⟨by decide, by decide⟩ ⟨by decide, by decide⟩ ⟨by decide, by decide⟩
theorem rep_rng : Rng (List.replicate 2 0) := by
  intro x hx
  rw [List.eq_of_mem_replicate hx]
  exact ⟨by decide, by decide⟩
def Two (w : World) (b : Nat) : Prop := ∃ cs t f, w.heap[b]? = some (.cells cs t f) ∧ cs.size = 2
theorem Two.new (w : World) (u v : Value) (t : TypeId) : Two (w.alloc (.cells #[u, v] t)) w.heap.size := ⟨_, _, _, heap_alloc_new w _, rfl⟩
theorem Two.keep {w w' : World} {b : Nat} (h : Two w b) (hb : Below w.heap.size w w') : Two w' b := by
  obtain ⟨cs, t, f, h1, h2⟩ := h
  exact ⟨cs, t, f, (hb.block b (Array.getElem?_eq_some_iff.1 h1).1).trans h1, h2⟩
theorem Two.ne {w : World} {b : Nat} {v : Value} {l : List Int} (h : Two w b) (hi : Ints w v l) (hl : l.length = 3) : ∀ b' o c, v = .slice (some ⟨b', o, none⟩) l.length c → b ≠ b' := by
  obtain ⟨cs, t, f, h1, h2⟩ := h
  intro b' o c hv e
  subst e
  obtain ⟨b2, o2, c2, hv2, _, _, hc⟩ := hi.at (by omega)
  rw [hv] at hv2
  injection hv2 with e1
  injection e1 with e1
  injection e1 with e1 e2
  subst e1 e2
  have := hc 2 (by omega)
  unfold World.cell? at this
  rw [h1] at this
  have h3 : cs[o + 2]? = none := Array.getElem?_eq_none (by omega)
  simp only [Option.isSome_none, Bool.false_eq_true, if_false] at this
  rw [h3] at this
  cases this
theorem Says.other {B : Nat} {w : World} {f : Value} {word : List UInt8} {k err : Nat} (h : Says B w f word k err) (a : Addr) (x : Value) (hne : ∀ b', f = .iface 80 (.pointer (some ⟨b', 0, none⟩)) → a.block ≠ b') : Says B (w.setCell a x) f word k err := by
  rcases h with h | ⟨h0, b, h1, h2, h3, h4, h5⟩
  · exact .inl h
  · have hk : ∀ o, (⟨b, o, none⟩ : Addr).block ≠ a.block := fun o => fun e => hne b h2 (by simpa using e.symm)
    exact .inr ⟨h0, b, h1, h2, by rw [World.cell?_of_block (Below.heap_setCell _ _ _ _ (hk 0))]; exact h3, by rw [World.cell?_of_block (Below.heap_setCell _ _ _ _ (hk 1))]; exact h4, by rw [World.cell?_of_block (Below.heap_setCell _ _ _ _ (hk 2))]; exact h5⟩
theorem Two.fne {w : World} {b B : Nat} {f : Value} {word : List UInt8} {k err : Nat} (h : Two w b) (hs : Says B w f word k err) : ∀ b', f = .iface 80 (.pointer (some ⟨b', 0, none⟩)) → b ≠ b' := by
  obtain ⟨cs, t, fr, h1, h2⟩ := h
  intro b' hf e
  subst e
  rcases hs with ⟨_, h⟩ | ⟨h0, b2, hb, hf2, c0, c1, c2⟩
  · rw [h] at hf
    cases hf
  · rw [hf] at hf2
    injection hf2 with _ e1
    injection e1 with e1
    injection e1 with e1
    injection e1 with e1
    subst e1
    unfold World.cell? at c2
    rw [h1] at c2
    have h3 : cs[2]? = none := Array.getElem?_eq_none (by omega)
    simp only [Option.isSome_none, Bool.false_eq_true, if_false] at c2
    rw [h3] at c2
    cases c2
theorem KS.qlt {w W : World} {fb q : Nat} (h : KS w W fb q) : q < W.heap.size := by
  obtain ⟨b, o, c, hv, _, _, hc⟩ := h.it.at (by decide)
  injection hv with e1
  injection e1 with e1
  injection e1 with e1 e2
  rw [e1]
  exact cell_lt (hc 0 (by decide))
theorem k_names : ∀ x ∈ ([[105], [106], [107]] : List (List UInt8)), x.length ≤ 1 := by decide

set_option maxHeartbeats 32000000 in
set_option maxRecDepth 100000 in
theorem known_any (w : World) (hG : Glob w) (ht : Tab w) : Calls Tryd.prog 9 #[] w fun e w' => e = .returned (.bool true) ∧ Below w.heap.size w w' := by
  have hl := lit3 w 2 0 (-1)
  have hb0 := alloc_below w (.cells #[.int .i64 2, .int .i64 0, .int .i64 (-1)] 2)
  have hb1 := alloc_below (w.alloc (.cells #[.int .i64 2, .int .i64 0, .int .i64 (-1)] 2)) (.cells #[.slice (some ⟨w.heap.size, 0, none⟩) 3 3, .int .i64 (-5)] FmT)
  have hx := Bx.new (w.alloc (.cells #[.int .i64 2, .int .i64 0, .int .i64 (-1)] 2)) (.slice (some ⟨w.heap.size, 0, none⟩) 3 3) (.int .i64 (-5)) FmT
  rw [size_ac] at hx
  have HK1 : Hid (KS w ((w.alloc (.cells #[.int .i64 2, .int .i64 0, .int .i64 (-1)] 2)).alloc (.cells #[.slice (some ⟨w.heap.size, 0, none⟩) 3 3, .int .i64 (-5)] FmT)) (w.heap.size + 1) w.heap.size) := hide ⟨bthen hb0 hb1, hx, hl.below hb1⟩
  have HG := hide (And.intro hG ht)
  clear hl hb0 hb1 hx hG ht
  go_enter Tryd.func9, Tryd.ntmps9
  go_upto_region 2 with fail
  generalize (w.alloc (.cells #[.int .i64 2, .int .i64 0, .int .i64 (-1)] 2)).alloc (.cells #[.slice (some ⟨w.heap.size, 0, none⟩) 3 3, .int .i64 (-5)] FmT) = W1 at *
  generalize hfb : w.heap.size + 1 = fb at *
  generalize hqf : w.heap.size = qf at *
  have HF1 := hide (And.intro hfb hqf)
  clear hfb hqf
  obtain ⟨c0, c1, c2, c3, c4⟩ := (unhide HK1).bx
  have HA := hide (linAt_any (W1.alloc (.cells #[.int .i64 3, .int .i64 9, .int .i64 4] 2)) (.slice (some ⟨qf, 0, none⟩) 3 3) (.slice (some ⟨W1.heap.size, 0, none⟩) 3 3) FA [3, 9, 4] (-5) ((unhide HK1).it.below (alloc_below _ _)) (lit3 W1 3 9 4) fa_rng (rng3 ⟨by decide, by decide⟩ ⟨by decide, by decide⟩ ⟨by decide, by decide⟩) ⟨by decide, by decide⟩ (by decide) (by decide))
  rw [k_at.1, k_at.2] at HA
  have HK2 := hide ((unhide HK1).keep (alloc_below W1 (.cells #[.int .i64 3, .int .i64 9, .int .i64 4] 2)))
  go_upto_region 3 with (go_at_call 19; refine (unhide HA).mono ?_; rintro ev w2 ⟨f1, rfl, hs1, hb1⟩; obtain rfl := says_zero hs1)
  clear c0 c1 c2 c3 c4 hs1 HA HK1
  have HK3 := hide ((unhide HK2).keep hb1)
  clear hb1 HK2
  obtain ⟨c0, c1, c2, c3, c4⟩ := (unhide HK3).bx
  have hl2 := lit3 (w2.alloc (.cells #[.int .i64 1, .int .i64 1, .int .i64 1] 2)) 3 9 2
  rw [size_ac] at hl2
  have HR := hide (linRange_any ((w2.alloc (.cells #[.int .i64 1, .int .i64 1, .int .i64 1] 2)).alloc (.cells #[.int .i64 3, .int .i64 9, .int .i64 2] 2)) (.slice (some ⟨qf, 0, none⟩) 3 3) (.slice (some ⟨w2.heap.size, 0, none⟩) 3 3) (.slice (some ⟨w2.heap.size + 1, 0, none⟩) 3 3) FA [1, 1, 1] [3, 9, 2] (-5) (((unhide HK3).it.below (alloc_below _ _)).below (alloc_below _ _)) ((lit3 w2 1 1 1).below (alloc_below _ _)) hl2 fa_rng (rng3 ⟨by decide, by decide⟩ ⟨by decide, by decide⟩ ⟨by decide, by decide⟩) (rng3 ⟨by decide, by decide⟩ ⟨by decide, by decide⟩ ⟨by decide, by decide⟩) ⟨by decide, by decide⟩ (by decide) (by decide) (by decide))
  rw [k_rng.1, k_rng.2] at HR
  have HK4 := hide (((unhide HK3).keep (alloc_below w2 (.cells #[.int .i64 1, .int .i64 1, .int .i64 1] 2))).keep (alloc_below _ (.cells #[.int .i64 3, .int .i64 9, .int .i64 2] 2)))
  clear hl2
  go_upto_region 4 with (go_at_call 21; refine (unhide HR).mono ?_; rintro ev w3 ⟨f2, rfl, hs1, hb1⟩; obtain rfl := says_zero hs1)
  clear c0 c1 c2 c3 c4 hs1 HR HK3
  have HK5 := hide ((unhide HK4).keep hb1)
  clear hb1 HK4
  go_cut [7, 8] (fun s7 s8 wx => ∃ b7 sa sc, s7 = .pointer (some ⟨b7, 0, none⟩) ∧ s8 = .nilIface ∧ Hid (KS w wx fb qf ∧ Bx wx b7 (.slice sa 3 sc) (.int .i64 (-5)) ∧ Ints wx (.slice sa 3 sc) [2, 0, 0]))
  case first =>
    have hd : Below w3.heap.size w3 w3.drew := below_drewN (Below.refl _ _) 1
    have hKS := (unhide HK5).keep hd
    refine wp_regionE (fun W => Bx W fb (.slice (some ⟨qf, 0, none⟩) 3 3) (.int .i64 (-5))) (fun j => decide (j < 8)) (by kernel_rfl) hKS.bx (fun hS => ?_)
    clear hd
    generalize w3.drew = w4 at *
    refine anyE_take 0 (v := ?_) rfl (by kernel_rfl) (by kernel_rfl) (by kernel_rfl) (by kernel_rfl) (fun _ _ _ h => h) hS (Or.inl ⟨by rfl, ?_⟩) ?_
    rotate_left
    · intro w' hS'
      obtain ⟨e0, e1, _, _, _⟩ := hS'
      go_simp
      try with_reducible rfl
    try simp only [List.getElem_toArray, List.getElem_cons_zero, Act.put, List.setIfInBounds_toArray, List.set_cons_zero, List.set_cons_succ]
    refine anyE_ready [1, 6] (by kernel_rfl) (by simp) (ReadyE.cons rfl (fun K' hK => ?_) (ReadyE.cons rfl (fun K' hK => ?_) ReadyE.nil))
    ·
      go_simp
      go_at_call 25
      refine (index_any 3 2 w4 (by decide) (by decide) (by decide) (by decide)).mono ?_
      rintro ev W5 ⟨qa, rfl, hwa, hqa, hb⟩
      dsimp only
      try go_simp
      have hK2 := hKS.keep hb
      refine hK _ _ (fun _ => hK2.bx) ?_
      clear hK K' hKS hS hb
      try simp only [List.getElem_toArray, List.getElem_cons_succ, List.getElem_cons_zero, Act.put, List.setIfInBounds_toArray, List.set_cons_zero, List.set_cons_succ]
      have hKS := hK2
      clear hK2
      have hS := hKS.bx
      refine anyE_ready [2, 6] (by kernel_rfl) (by simp) (ReadyE.cons rfl (fun K' hK => ?_) (ReadyE.cons rfl (fun K' hK => ?_) ReadyE.nil))
      ·
        go_simp
        go_at_call 11
        have hcd := linAdd_any W5 (.slice (some ⟨qf, 0, none⟩) 3 3) (.slice (some ⟨qa, 0, none⟩) 3 3) FA (idxL 3 2) (-5) 0 hKS.it (hwa.ints) fa_rng idx_rng ⟨by decide, by decide⟩ ⟨by decide, by decide⟩ (by decide) (by rw [idxL_len]; decide)
        refine hcd.mono ?_
        clear hcd
        rintro ev W6 ⟨cv, f, rfl, hic, hsy, hb⟩
        obtain ⟨sa, sc, rfl⟩ := hic.shape
        dsimp only
        try go_simp
        have hK2 := hKS.keep hb
        have hwa2 := hwa.keep hb
        clear hwa
        have hwa := hwa2
        clear hwa2
        refine hK _ _ (fun _ => hK2.bx) ?_
        clear hK K' hKS hS hb
        try simp only [List.getElem_toArray, List.getElem_cons_succ, List.getElem_cons_zero, Act.put, List.setIfInBounds_toArray, List.set_cons_zero, List.set_cons_succ]
        have hKS := hK2
        clear hK2
        have hS := hKS.bx
        refine anyE_take 3 (v := ?_) rfl (by kernel_rfl) (by kernel_rfl) (by kernel_rfl) (by kernel_rfl) (fun _ _ _ h => h) hS (Or.inl ⟨by rfl, ?_⟩) ?_
        rotate_left
        · intro w' hS'
          obtain ⟨e0, e1, _, _, _⟩ := hS'
          go_simp
          try with_reducible rfl
        try simp only [List.getElem_toArray, List.getElem_cons_succ, List.getElem_cons_zero, Act.put, List.setIfInBounds_toArray, List.set_cons_zero, List.set_cons_succ]
        refine anyE_take 4 (v := ?_) rfl (by kernel_rfl) (by kernel_rfl) (by kernel_rfl) (by kernel_rfl) (fun _ _ _ h => h) hS (Or.inl ⟨by rfl, ?_⟩) ?_
        rotate_left
        · intro w' hS'
          obtain ⟨e0, e1, _, _, _⟩ := hS'
          go_simp
          try with_reducible rfl
        try simp only [List.getElem_toArray, List.getElem_cons_succ, List.getElem_cons_zero, Act.put, List.setIfInBounds_toArray, List.set_cons_zero, List.set_cons_succ]
        refine anyE_take 5 (v := ?_) rfl (by kernel_rfl) (by kernel_rfl) (by kernel_rfl) (by kernel_rfl) (fun _ _ _ h => h) hS (Or.inl ⟨by rfl, ?_⟩) ?_
        rotate_left
        · intro w' hS'
          obtain ⟨e0, e1, _, _, _⟩ := hS'
          go_simp
          try with_reducible rfl
        try simp only [List.getElem_toArray, List.getElem_cons_succ, List.getElem_cons_zero, Act.put, List.setIfInBounds_toArray, List.set_cons_zero, List.set_cons_succ]
        refine anyE_ready [6] (by kernel_rfl) (by simp) (ReadyE.cons rfl (fun K' hK => ?_) ReadyE.nil)
        ·
          go_simp
          have hb := alloc_below W6 ZF
          have hbf0 := Bx.new W6 (.slice none 0 0) (.int .i64 0) FmT
          have hT := Two.new W6 (.slice none 0 0) (.int .i64 0) FmT
          have hn7 : W6.heap.size ≠ fb ∧ W6.heap.size ≠ qf ∧ w.heap.size ≤ W6.heap.size := ⟨Nat.ne_of_gt hKS.bx.lt, Nat.ne_of_gt hKS.qlt, hKS.bl.size⟩
          have hK2 := hKS.keep hb
          have hic2 := hic.below hb
          have hsy2 := hsy.below hb
          clear hic hsy
          have hic := hic2
          have hsy := hsy2
          clear hic2 hsy2
          refine hK _ _ (fun _ => hK2.bx) ?_
          clear hK K' hKS hS hb
          try simp only [List.getElem_toArray, List.getElem_cons_succ, List.getElem_cons_zero, Act.put, List.setIfInBounds_toArray, List.set_cons_zero, List.set_cons_succ]
          generalize W6.alloc (.cells #[.slice none 0 0, .int .i64 0] FmT) = W7 at *
          generalize W6.heap.size = b7 at *
          have hbf := hbf0
          clear hbf0
          have hKS := hK2
          clear hK2
          have hS := hKS.bx
          have hfb := hKS.bx.lt
          obtain ⟨f0, f1, f2, f3, f4⟩ := hbf
          refine anyE_ready [7] (by kernel_rfl) (by simp) (ReadyE.cons rfl (fun K' hK => ?_) ReadyE.nil)
          go_simp
          have hbx := Bx.mk f0 f1 f2 f3 f4
          rw [k_add.2.1] at hic
          rw [k_add.1] at hsy
          obtain rfl := says_zero hsy
          have hne := hT.ne hic rfl
          have hKF := (hKS.set ⟨b7, 0, none⟩ hn7.1 hn7.2.1 hn7.2.2 (.slice sa 3 sc)).set ⟨b7, 1, none⟩ hn7.1 hn7.2.1 hn7.2.2 (.int .i64 (-5))
          have HFIN := hide (And.intro hKF (And.intro ((hbx.set0 (.slice sa 3 sc)).set1 (.int .i64 (-5))) ((hic.other ⟨b7, 0, none⟩ (.slice sa 3 sc) hne).other ⟨b7, 1, none⟩ (.int .i64 (-5)) hne)))
          refine hK _ _ (fun _ => hKF.bx) ?_
          clear hK K' hKF hbx hic hsy hne hKS hS f0 f1 f2 f3 f4 hT
          try simp only [List.getElem_toArray, List.getElem_cons_succ, List.getElem_cons_zero, Act.put, List.setIfInBounds_toArray, List.set_cons_zero, List.set_cons_succ]
          have hS := (unhide HFIN).1.bx
          refine anyE_ready [8] (by kernel_rfl) (by simp) (ReadyE.cons rfl (fun K' hK => ?_) ReadyE.nil)
          go_simp
          refine hK _ _ (fun h => by exact absurd h (by decide)) ?_
          clear hK K'
          try simp only [List.getElem_toArray, List.getElem_cons_succ, List.getElem_cons_zero, Act.put, List.setIfInBounds_toArray, List.set_cons_zero, List.set_cons_succ]
          refine anyE_done (by kernel_rfl) ?_ _
          go_wp2_with fail
          go_meet
          case rel => exact ⟨b7, sa, sc, rfl, rfl, HFIN⟩
      ·
        go_simp
        have hb := alloc_below W5 ZF
        have hbf0 := Bx.new W5 (.slice none 0 0) (.int .i64 0) FmT
        have hT := Two.new W5 (.slice none 0 0) (.int .i64 0) FmT
        have hn7 : W5.heap.size ≠ fb ∧ W5.heap.size ≠ qf ∧ w.heap.size ≤ W5.heap.size := ⟨Nat.ne_of_gt hKS.bx.lt, Nat.ne_of_gt hKS.qlt, hKS.bl.size⟩
        have hK2 := hKS.keep hb
        have hwa2 := hwa.keep hb
        clear hwa
        have hwa := hwa2
        clear hwa2
        refine hK _ _ (fun _ => hK2.bx) ?_
        clear hK K' hKS hS hb
        try simp only [List.getElem_toArray, List.getElem_cons_succ, List.getElem_cons_zero, Act.put, List.setIfInBounds_toArray, List.set_cons_zero, List.set_cons_succ]
        generalize W5.alloc (.cells #[.slice none 0 0, .int .i64 0] FmT) = W6 at *
        generalize W5.heap.size = b7 at *
        have hbf := hbf0
        clear hbf0
        have hKS := hK2
        clear hK2
        have hS := hKS.bx
        refine anyE_ready [2] (by kernel_rfl) (by simp) (ReadyE.cons rfl (fun K' hK => ?_) ReadyE.nil)
        ·
          go_simp
          go_at_call 11
          have hcd := linAdd_any W6 (.slice (some ⟨qf, 0, none⟩) 3 3) (.slice (some ⟨qa, 0, none⟩) 3 3) FA (idxL 3 2) (-5) 0 hKS.it (hwa.ints) fa_rng idx_rng ⟨by decide, by decide⟩ ⟨by decide, by decide⟩ (by decide) (by rw [idxL_len]; decide)
          refine hcd.mono ?_
          clear hcd
          rintro ev W7 ⟨cv, f, rfl, hic, hsy, hb⟩
          obtain ⟨sa, sc, rfl⟩ := hic.shape
          dsimp only
          try go_simp
          have hK2 := hKS.keep hb
          have hbf2 := hbf.keep hb
          have hT2 := hT.keep hb
          clear hbf hT
          have hbf := hbf2
          have hT := hT2
          clear hbf2 hT2
          have hwa2 := hwa.keep hb
          clear hwa
          have hwa := hwa2
          clear hwa2
          refine hK _ _ (fun _ => hK2.bx) ?_
          clear hK K' hKS hS hb
          try simp only [List.getElem_toArray, List.getElem_cons_succ, List.getElem_cons_zero, Act.put, List.setIfInBounds_toArray, List.set_cons_zero, List.set_cons_succ]
          have hKS := hK2
          clear hK2
          have hS := hKS.bx
          refine anyE_take 3 (v := ?_) rfl (by kernel_rfl) (by kernel_rfl) (by kernel_rfl) (by kernel_rfl) (fun _ _ _ h => h) hS (Or.inl ⟨by rfl, ?_⟩) ?_
          rotate_left
          · intro w' hS'
            obtain ⟨e0, e1, _, _, _⟩ := hS'
            go_simp
            try with_reducible rfl
          try simp only [List.getElem_toArray, List.getElem_cons_succ, List.getElem_cons_zero, Act.put, List.setIfInBounds_toArray, List.set_cons_zero, List.set_cons_succ]
          refine anyE_take 4 (v := ?_) rfl (by kernel_rfl) (by kernel_rfl) (by kernel_rfl) (by kernel_rfl) (fun _ _ _ h => h) hS (Or.inl ⟨by rfl, ?_⟩) ?_
          rotate_left
          · intro w' hS'
            obtain ⟨e0, e1, _, _, _⟩ := hS'
            go_simp
            try with_reducible rfl
          try simp only [List.getElem_toArray, List.getElem_cons_succ, List.getElem_cons_zero, Act.put, List.setIfInBounds_toArray, List.set_cons_zero, List.set_cons_succ]
          refine anyE_take 5 (v := ?_) rfl (by kernel_rfl) (by kernel_rfl) (by kernel_rfl) (by kernel_rfl) (fun _ _ _ h => h) hS (Or.inl ⟨by rfl, ?_⟩) ?_
          rotate_left
          · intro w' hS'
            obtain ⟨e0, e1, _, _, _⟩ := hS'
            go_simp
            try with_reducible rfl
          try simp only [List.getElem_toArray, List.getElem_cons_succ, List.getElem_cons_zero, Act.put, List.setIfInBounds_toArray, List.set_cons_zero, List.set_cons_succ]
          have hfb := hKS.bx.lt
          obtain ⟨f0, f1, f2, f3, f4⟩ := hbf
          refine anyE_ready [7] (by kernel_rfl) (by simp) (ReadyE.cons rfl (fun K' hK => ?_) ReadyE.nil)
          go_simp
          have hbx := Bx.mk f0 f1 f2 f3 f4
          rw [k_add.2.1] at hic
          rw [k_add.1] at hsy
          obtain rfl := says_zero hsy
          have hne := hT.ne hic rfl
          have hKF := (hKS.set ⟨b7, 0, none⟩ hn7.1 hn7.2.1 hn7.2.2 (.slice sa 3 sc)).set ⟨b7, 1, none⟩ hn7.1 hn7.2.1 hn7.2.2 (.int .i64 (-5))
          have HFIN := hide (And.intro hKF (And.intro ((hbx.set0 (.slice sa 3 sc)).set1 (.int .i64 (-5))) ((hic.other ⟨b7, 0, none⟩ (.slice sa 3 sc) hne).other ⟨b7, 1, none⟩ (.int .i64 (-5)) hne)))
          refine hK _ _ (fun _ => hKF.bx) ?_
          clear hK K' hKF hbx hic hsy hne hKS hS f0 f1 f2 f3 f4 hT
          try simp only [List.getElem_toArray, List.getElem_cons_succ, List.getElem_cons_zero, Act.put, List.setIfInBounds_toArray, List.set_cons_zero, List.set_cons_succ]
          have hS := (unhide HFIN).1.bx
          refine anyE_ready [8] (by kernel_rfl) (by simp) (ReadyE.cons rfl (fun K' hK => ?_) ReadyE.nil)
          go_simp
          refine hK _ _ (fun h => by exact absurd h (by decide)) ?_
          clear hK K'
          try simp only [List.getElem_toArray, List.getElem_cons_succ, List.getElem_cons_zero, Act.put, List.setIfInBounds_toArray, List.set_cons_zero, List.set_cons_succ]
          refine anyE_done (by kernel_rfl) ?_ _
          go_wp2_with fail
          go_meet
          case rel => exact ⟨b7, sa, sc, rfl, rfl, HFIN⟩
    ·
      go_simp
      have hb := alloc_below w4 ZF
      have hbf0 := Bx.new w4 (.slice none 0 0) (.int .i64 0) FmT
      have hT := Two.new w4 (.slice none 0 0) (.int .i64 0) FmT
      have hn7 : w4.heap.size ≠ fb ∧ w4.heap.size ≠ qf ∧ w.heap.size ≤ w4.heap.size := ⟨Nat.ne_of_gt hKS.bx.lt, Nat.ne_of_gt hKS.qlt, hKS.bl.size⟩
      have hK2 := hKS.keep hb
      refine hK _ _ (fun _ => hK2.bx) ?_
      clear hK K' hKS hS hb
      try simp only [List.getElem_toArray, List.getElem_cons_succ, List.getElem_cons_zero, Act.put, List.setIfInBounds_toArray, List.set_cons_zero, List.set_cons_succ]
      generalize w4.alloc (.cells #[.slice none 0 0, .int .i64 0] FmT) = W5 at *
      generalize w4.heap.size = b7 at *
      have hbf := hbf0
      clear hbf0
      have hKS := hK2
      clear hK2
      have hS := hKS.bx
      refine anyE_ready [1] (by kernel_rfl) (by simp) (ReadyE.cons rfl (fun K' hK => ?_) ReadyE.nil)
      ·
        go_simp
        go_at_call 25
        refine (index_any 3 2 W5 (by decide) (by decide) (by decide) (by decide)).mono ?_
        rintro ev W6 ⟨qa, rfl, hwa, hqa, hb⟩
        dsimp only
        try go_simp
        have hK2 := hKS.keep hb
        have hbf2 := hbf.keep hb
        have hT2 := hT.keep hb
        clear hbf hT
        have hbf := hbf2
        have hT := hT2
        clear hbf2 hT2
        refine hK _ _ (fun _ => hK2.bx) ?_
        clear hK K' hKS hS hb
        try simp only [List.getElem_toArray, List.getElem_cons_succ, List.getElem_cons_zero, Act.put, List.setIfInBounds_toArray, List.set_cons_zero, List.set_cons_succ]
        have hKS := hK2
        clear hK2
        have hS := hKS.bx
        refine anyE_ready [2] (by kernel_rfl) (by simp) (ReadyE.cons rfl (fun K' hK => ?_) ReadyE.nil)
        ·
          go_simp
          go_at_call 11
          have hcd := linAdd_any W6 (.slice (some ⟨qf, 0, none⟩) 3 3) (.slice (some ⟨qa, 0, none⟩) 3 3) FA (idxL 3 2) (-5) 0 hKS.it (hwa.ints) fa_rng idx_rng ⟨by decide, by decide⟩ ⟨by decide, by decide⟩ (by decide) (by rw [idxL_len]; decide)
          refine hcd.mono ?_
          clear hcd
          rintro ev W7 ⟨cv, f, rfl, hic, hsy, hb⟩
          obtain ⟨sa, sc, rfl⟩ := hic.shape
          dsimp only
          try go_simp
          have hK2 := hKS.keep hb
          have hbf2 := hbf.keep hb
          have hT2 := hT.keep hb
          clear hbf hT
          have hbf := hbf2
          have hT := hT2
          clear hbf2 hT2
          have hwa2 := hwa.keep hb
          clear hwa
          have hwa := hwa2
          clear hwa2
          refine hK _ _ (fun _ => hK2.bx) ?_
          clear hK K' hKS hS hb
          try simp only [List.getElem_toArray, List.getElem_cons_succ, List.getElem_cons_zero, Act.put, List.setIfInBounds_toArray, List.set_cons_zero, List.set_cons_succ]
          have hKS := hK2
          clear hK2
          have hS := hKS.bx
          refine anyE_take 3 (v := ?_) rfl (by kernel_rfl) (by kernel_rfl) (by kernel_rfl) (by kernel_rfl) (fun _ _ _ h => h) hS (Or.inl ⟨by rfl, ?_⟩) ?_
          rotate_left
          · intro w' hS'
            obtain ⟨e0, e1, _, _, _⟩ := hS'
            go_simp
            try with_reducible rfl
          try simp only [List.getElem_toArray, List.getElem_cons_succ, List.getElem_cons_zero, Act.put, List.setIfInBounds_toArray, List.set_cons_zero, List.set_cons_succ]
          refine anyE_take 4 (v := ?_) rfl (by kernel_rfl) (by kernel_rfl) (by kernel_rfl) (by kernel_rfl) (fun _ _ _ h => h) hS (Or.inl ⟨by rfl, ?_⟩) ?_
          rotate_left
          · intro w' hS'
            obtain ⟨e0, e1, _, _, _⟩ := hS'
            go_simp
            try with_reducible rfl
          try simp only [List.getElem_toArray, List.getElem_cons_succ, List.getElem_cons_zero, Act.put, List.setIfInBounds_toArray, List.set_cons_zero, List.set_cons_succ]
          refine anyE_take 5 (v := ?_) rfl (by kernel_rfl) (by kernel_rfl) (by kernel_rfl) (by kernel_rfl) (fun _ _ _ h => h) hS (Or.inl ⟨by rfl, ?_⟩) ?_
          rotate_left
          · intro w' hS'
            obtain ⟨e0, e1, _, _, _⟩ := hS'
            go_simp
            try with_reducible rfl
          try simp only [List.getElem_toArray, List.getElem_cons_succ, List.getElem_cons_zero, Act.put, List.setIfInBounds_toArray, List.set_cons_zero, List.set_cons_succ]
          have hfb := hKS.bx.lt
          obtain ⟨f0, f1, f2, f3, f4⟩ := hbf
          refine anyE_ready [7] (by kernel_rfl) (by simp) (ReadyE.cons rfl (fun K' hK => ?_) ReadyE.nil)
          go_simp
          have hbx := Bx.mk f0 f1 f2 f3 f4
          rw [k_add.2.1] at hic
          rw [k_add.1] at hsy
          obtain rfl := says_zero hsy
          have hne := hT.ne hic rfl
          have hKF := (hKS.set ⟨b7, 0, none⟩ hn7.1 hn7.2.1 hn7.2.2 (.slice sa 3 sc)).set ⟨b7, 1, none⟩ hn7.1 hn7.2.1 hn7.2.2 (.int .i64 (-5))
          have HFIN := hide (And.intro hKF (And.intro ((hbx.set0 (.slice sa 3 sc)).set1 (.int .i64 (-5))) ((hic.other ⟨b7, 0, none⟩ (.slice sa 3 sc) hne).other ⟨b7, 1, none⟩ (.int .i64 (-5)) hne)))
          refine hK _ _ (fun _ => hKF.bx) ?_
          clear hK K' hKF hbx hic hsy hne hKS hS f0 f1 f2 f3 f4 hT
          try simp only [List.getElem_toArray, List.getElem_cons_succ, List.getElem_cons_zero, Act.put, List.setIfInBounds_toArray, List.set_cons_zero, List.set_cons_succ]
          have hS := (unhide HFIN).1.bx
          refine anyE_ready [8] (by kernel_rfl) (by simp) (ReadyE.cons rfl (fun K' hK => ?_) ReadyE.nil)
          go_simp
          refine hK _ _ (fun h => by exact absurd h (by decide)) ?_
          clear hK K'
          try simp only [List.getElem_toArray, List.getElem_cons_succ, List.getElem_cons_zero, Act.put, List.setIfInBounds_toArray, List.set_cons_zero, List.set_cons_succ]
          refine anyE_done (by kernel_rfl) ?_ _
          go_wp2_with fail
          go_meet
          case rel => exact ⟨b7, sa, sc, rfl, rfl, HFIN⟩
  case rest =>
    obtain ⟨b7, sa, sc, rfl, rfl, HK6⟩ := hcut
    clear HK5
    have HSC := hide (linScale_any wc (.slice (some ⟨qf, 0, none⟩) 3 3) FA (-5) 9223372036854775807 (unhide HK6).1.it fa_rng ⟨by decide, by decide⟩ ⟨by decide, by decide⟩ (by decide))
    rw [k_mul, k_mul2.1, k_mul2.2] at HSC
    obtain ⟨c0, c1, c2, c3, c4⟩ := (unhide HK6).1.bx
    go_upto_region 6 with (go_at_call 14; refine (unhide HSC).mono ?_; rintro ev w5 ⟨cv5, f10, rfl, hi5, hs5, hb5⟩; obtain ⟨ca5, cc5, rfl⟩ := hi5.shape; have c0 := ((unhide HK6).1.bx.keep hb5).c0; have c1 := ((unhide HK6).1.bx.keep hb5).c1)
    have HK7 : Hid (KS w w5 fb qf ∧ Bx w5 b7 (.slice sa 3 sc) (.int .i64 (-5)) ∧ Ints w5 (.slice sa 3 sc) [2, 0, 0] ∧ Says 0 w5 f10 wForm 0 5) := hide ⟨(unhide HK6).1.keep hb5, (unhide HK6).2.1.keep hb5, (unhide HK6).2.2.below hb5, hs5.mono (Nat.zero_le _)⟩
    clear c0 c1 c2 c3 c4 hi5 hs5 hb5 HSC HK6
    have ha5 := alloc_below w5 (.cells #[.slice ca5 0 cc5, .int .i64 0] FmT)
    have HK8 : Hid (KS w (w5.alloc (.cells #[.slice ca5 0 cc5, .int .i64 0] FmT)) fb qf ∧ Bx (w5.alloc (.cells #[.slice ca5 0 cc5, .int .i64 0] FmT)) b7 (.slice sa 3 sc) (.int .i64 (-5)) ∧ Ints (w5.alloc (.cells #[.slice ca5 0 cc5, .int .i64 0] FmT)) (.slice sa 3 sc) [2, 0, 0] ∧ Says 0 (w5.alloc (.cells #[.slice ca5 0 cc5, .int .i64 0] FmT)) f10 wForm 0 5) := hide ⟨(unhide HK7).1.keep ha5, (unhide HK7).2.1.keep ha5, (unhide HK7).2.2.1.below ha5, (unhide HK7).2.2.2.below ha5⟩
    clear HK7 ha5
    generalize w5.alloc (.cells #[.slice ca5 0 cc5, .int .i64 0] FmT) = w6 at *
    go_cut [11, 12] (fun s11 s12 wx => ∃ b11 f12, s11 = .pointer (some ⟨b11, 0, none⟩) ∧ s12 = f12 ∧ Hid (Below w6.heap.size w6 wx ∧ Says 0 wx f12 wForm 0 1))
    case first =>
      have hd : Below w6.heap.size w6 w6.drew := below_drewN (Below.refl _ _) 1
      have hKS : KS w6 w6.drew fb qf := ⟨hd, (unhide HK8).1.bx.keep hd, (unhide HK8).1.it.below hd⟩
      refine wp_regionE (fun W => Bx W fb (.slice (some ⟨qf, 0, none⟩) 3 3) (.int .i64 (-5))) (fun j => decide (j < 8)) (by kernel_rfl) hKS.bx (fun hS => ?_)
      clear hd
      generalize w6.drew = w7 at *
      refine anyE_take 0 (v := ?_) rfl (by kernel_rfl) (by kernel_rfl) (by kernel_rfl) (by kernel_rfl) (fun _ _ _ h => h) hS (Or.inl ⟨by rfl, ?_⟩) ?_
      rotate_left
      · intro w' hS'
        obtain ⟨e0, e1, _, _, _⟩ := hS'
        go_simp
        try with_reducible rfl
      try simp only [List.getElem_toArray, List.getElem_cons_zero, Act.put, List.setIfInBounds_toArray, List.set_cons_zero, List.set_cons_succ]
      refine anyE_ready [1, 6] (by kernel_rfl) (by simp) (ReadyE.cons rfl (fun K' hK => ?_) (ReadyE.cons rfl (fun K' hK => ?_) ReadyE.nil))
      ·
        go_simp
        go_at_call 23
        refine (const_any 2 1 w7 (by decide) (by decide)).mono ?_
        rintro ev W8 ⟨qa, rfl, hwa, hqa, hb⟩
        dsimp only
        try go_simp
        have hK2 := hKS.keep hb
        refine hK _ _ (fun _ => hK2.bx) ?_
        clear hK K' hKS hS hb
        try simp only [List.getElem_toArray, List.getElem_cons_succ, List.getElem_cons_zero, Act.put, List.setIfInBounds_toArray, List.set_cons_zero, List.set_cons_succ]
        have hKS := hK2
        clear hK2
        have hS := hKS.bx
        refine anyE_ready [2, 6] (by kernel_rfl) (by simp) (ReadyE.cons rfl (fun K' hK => ?_) (ReadyE.cons rfl (fun K' hK => ?_) ReadyE.nil))
        ·
          go_simp
          go_at_call 11
          have hcd := linAdd_any W8 (.slice (some ⟨qf, 0, none⟩) 3 3) (.slice (some ⟨qa, 0, none⟩) 2 2) FA (List.replicate 2 0) (-5) 1 hKS.it (hwa.ints) fa_rng rep_rng ⟨by decide, by decide⟩ ⟨by decide, by decide⟩ (by decide) (by decide)
          rw [k_add3.1, k_add3.2] at hcd
          refine hcd.mono ?_
          clear hcd
          rintro ev W9 ⟨cv, f, rfl, hic, hsy, hb⟩
          obtain ⟨sz, cz, rfl⟩ := hic.shape
          dsimp only
          try go_simp
          have hK2 := hKS.keep hb
          have hwa2 := hwa.keep hb
          clear hwa
          have hwa := hwa2
          clear hwa2
          refine hK _ _ (fun _ => hK2.bx) ?_
          clear hK K' hKS hS hb
          try simp only [List.getElem_toArray, List.getElem_cons_succ, List.getElem_cons_zero, Act.put, List.setIfInBounds_toArray, List.set_cons_zero, List.set_cons_succ]
          have hKS := hK2
          clear hK2
          have hS := hKS.bx
          refine anyE_take 3 (v := ?_) rfl (by kernel_rfl) (by kernel_rfl) (by kernel_rfl) (by kernel_rfl) (fun _ _ _ h => h) hS (Or.inl ⟨by rfl, ?_⟩) ?_
          rotate_left
          · intro w' hS'
            obtain ⟨e0, e1, _, _, _⟩ := hS'
            go_simp
            try with_reducible rfl
          try simp only [List.getElem_toArray, List.getElem_cons_succ, List.getElem_cons_zero, Act.put, List.setIfInBounds_toArray, List.set_cons_zero, List.set_cons_succ]
          refine anyE_take 4 (v := ?_) rfl (by kernel_rfl) (by kernel_rfl) (by kernel_rfl) (by kernel_rfl) (fun _ _ _ h => h) hS (Or.inl ⟨by rfl, ?_⟩) ?_
          rotate_left
          · intro w' hS'
            obtain ⟨e0, e1, _, _, _⟩ := hS'
            go_simp
            try with_reducible rfl
          try simp only [List.getElem_toArray, List.getElem_cons_succ, List.getElem_cons_zero, Act.put, List.setIfInBounds_toArray, List.set_cons_zero, List.set_cons_succ]
          refine anyE_take 5 (v := ?_) rfl (by kernel_rfl) (by kernel_rfl) (by kernel_rfl) (by kernel_rfl) (fun _ _ _ h => h) hS (Or.inl ⟨by rfl, ?_⟩) ?_
          rotate_left
          · intro w' hS'
            obtain ⟨e0, e1, _, _, _⟩ := hS'
            go_simp
            try with_reducible rfl
          try simp only [List.getElem_toArray, List.getElem_cons_succ, List.getElem_cons_zero, Act.put, List.setIfInBounds_toArray, List.set_cons_zero, List.set_cons_succ]
          refine anyE_ready [6] (by kernel_rfl) (by simp) (ReadyE.cons rfl (fun K' hK => ?_) ReadyE.nil)
          ·
            go_simp
            have hb := alloc_below W9 ZF
            have hbf0 := Bx.new W9 (.slice none 0 0) (.int .i64 0) FmT
            have hT := Two.new W9 (.slice none 0 0) (.int .i64 0) FmT
            have hn7 : W9.heap.size ≠ fb ∧ W9.heap.size ≠ qf ∧ w6.heap.size ≤ W9.heap.size := ⟨Nat.ne_of_gt hKS.bx.lt, Nat.ne_of_gt hKS.qlt, hKS.bl.size⟩
            have hK2 := hKS.keep hb
            have hic2 := hic.below hb
            have hsy2 := hsy.below hb
            clear hic hsy
            have hic := hic2
            have hsy := hsy2
            clear hic2 hsy2
            refine hK _ _ (fun _ => hK2.bx) ?_
            clear hK K' hKS hS hb
            try simp only [List.getElem_toArray, List.getElem_cons_succ, List.getElem_cons_zero, Act.put, List.setIfInBounds_toArray, List.set_cons_zero, List.set_cons_succ]
            generalize W9.alloc (.cells #[.slice none 0 0, .int .i64 0] FmT) = W10 at *
            generalize W9.heap.size = bz at *
            have hbf := hbf0
            clear hbf0
            have hKS := hK2
            clear hK2
            have hS := hKS.bx
            have hfb := hKS.bx.lt
            obtain ⟨f0, f1, f2, f3, f4⟩ := hbf
            refine anyE_ready [7] (by kernel_rfl) (by simp) (ReadyE.cons rfl (fun K' hK => ?_) ReadyE.nil)
            go_simp
            have hbx := Bx.mk f0 f1 f2 f3 f4
            rw [k_add2] at hsy
            have hne := hT.fne hsy
            have hKF := (hKS.set ⟨bz, 0, none⟩ hn7.1 hn7.2.1 hn7.2.2 (.slice sz 0 cz)).set ⟨bz, 1, none⟩ hn7.1 hn7.2.1 hn7.2.2 (.int .i64 0)
            have HFIN := hide (And.intro hKF.bl ((((hsy.other ⟨bz, 0, none⟩ (.slice sz 0 cz) hne).other ⟨bz, 1, none⟩ (.int .i64 0) hne).mono (Nat.zero_le _))))
            have hS := hKF.bx
            refine hK _ _ (fun _ => hS) ?_
            clear hK K' hKF hbx hic hsy hne hKS f0 f1 f2 f3 f4 hT
            try simp only [List.getElem_toArray, List.getElem_cons_succ, List.getElem_cons_zero, Act.put, List.setIfInBounds_toArray, List.set_cons_zero, List.set_cons_succ]
            refine anyE_ready [8] (by kernel_rfl) (by simp) (ReadyE.cons rfl (fun K' hK => ?_) ReadyE.nil)
            go_simp
            refine hK _ _ (fun h => by exact absurd h (by decide)) ?_
            clear hK K'
            try simp only [List.getElem_toArray, List.getElem_cons_succ, List.getElem_cons_zero, Act.put, List.setIfInBounds_toArray, List.set_cons_zero, List.set_cons_succ]
            refine anyE_done (by kernel_rfl) ?_ _
            go_wp2_with fail
            go_meet
            case rel => exact ⟨bz, f, rfl, rfl, HFIN⟩
        ·
          go_simp
          have hb := alloc_below W8 ZF
          have hbf0 := Bx.new W8 (.slice none 0 0) (.int .i64 0) FmT
          have hT := Two.new W8 (.slice none 0 0) (.int .i64 0) FmT
          have hn7 : W8.heap.size ≠ fb ∧ W8.heap.size ≠ qf ∧ w6.heap.size ≤ W8.heap.size := ⟨Nat.ne_of_gt hKS.bx.lt, Nat.ne_of_gt hKS.qlt, hKS.bl.size⟩
          have hK2 := hKS.keep hb
          have hwa2 := hwa.keep hb
          clear hwa
          have hwa := hwa2
          clear hwa2
          refine hK _ _ (fun _ => hK2.bx) ?_
          clear hK K' hKS hS hb
          try simp only [List.getElem_toArray, List.getElem_cons_succ, List.getElem_cons_zero, Act.put, List.setIfInBounds_toArray, List.set_cons_zero, List.set_cons_succ]
          generalize W8.alloc (.cells #[.slice none 0 0, .int .i64 0] FmT) = W9 at *
          generalize W8.heap.size = bz at *
          have hbf := hbf0
          clear hbf0
          have hKS := hK2
          clear hK2
          have hS := hKS.bx
          refine anyE_ready [2] (by kernel_rfl) (by simp) (ReadyE.cons rfl (fun K' hK => ?_) ReadyE.nil)
          ·
            go_simp
            go_at_call 11
            have hcd := linAdd_any W9 (.slice (some ⟨qf, 0, none⟩) 3 3) (.slice (some ⟨qa, 0, none⟩) 2 2) FA (List.replicate 2 0) (-5) 1 hKS.it (hwa.ints) fa_rng rep_rng ⟨by decide, by decide⟩ ⟨by decide, by decide⟩ (by decide) (by decide)
            rw [k_add3.1, k_add3.2] at hcd
            refine hcd.mono ?_
            clear hcd
            rintro ev W10 ⟨cv, f, rfl, hic, hsy, hb⟩
            obtain ⟨sz, cz, rfl⟩ := hic.shape
            dsimp only
            try go_simp
            have hK2 := hKS.keep hb
            have hbf2 := hbf.keep hb
            have hT2 := hT.keep hb
            clear hbf hT
            have hbf := hbf2
            have hT := hT2
            clear hbf2 hT2
            have hwa2 := hwa.keep hb
            clear hwa
            have hwa := hwa2
            clear hwa2
            refine hK _ _ (fun _ => hK2.bx) ?_
            clear hK K' hKS hS hb
            try simp only [List.getElem_toArray, List.getElem_cons_succ, List.getElem_cons_zero, Act.put, List.setIfInBounds_toArray, List.set_cons_zero, List.set_cons_succ]
            have hKS := hK2
            clear hK2
            have hS := hKS.bx
            refine anyE_take 3 (v := ?_) rfl (by kernel_rfl) (by kernel_rfl) (by kernel_rfl) (by kernel_rfl) (fun _ _ _ h => h) hS (Or.inl ⟨by rfl, ?_⟩) ?_
            rotate_left
            · intro w' hS'
              obtain ⟨e0, e1, _, _, _⟩ := hS'
              go_simp
              try with_reducible rfl
            try simp only [List.getElem_toArray, List.getElem_cons_succ, List.getElem_cons_zero, Act.put, List.setIfInBounds_toArray, List.set_cons_zero, List.set_cons_succ]
            refine anyE_take 4 (v := ?_) rfl (by kernel_rfl) (by kernel_rfl) (by kernel_rfl) (by kernel_rfl) (fun _ _ _ h => h) hS (Or.inl ⟨by rfl, ?_⟩) ?_
            rotate_left
            · intro w' hS'
              obtain ⟨e0, e1, _, _, _⟩ := hS'
              go_simp
              try with_reducible rfl
            try simp only [List.getElem_toArray, List.getElem_cons_succ, List.getElem_cons_zero, Act.put, List.setIfInBounds_toArray, List.set_cons_zero, List.set_cons_succ]
            refine anyE_take 5 (v := ?_) rfl (by kernel_rfl) (by kernel_rfl) (by kernel_rfl) (by kernel_rfl) (fun _ _ _ h => h) hS (Or.inl ⟨by rfl, ?_⟩) ?_
            rotate_left
            · intro w' hS'
              obtain ⟨e0, e1, _, _, _⟩ := hS'
              go_simp
              try with_reducible rfl
            try simp only [List.getElem_toArray, List.getElem_cons_succ, List.getElem_cons_zero, Act.put, List.setIfInBounds_toArray, List.set_cons_zero, List.set_cons_succ]
            have hfb := hKS.bx.lt
            obtain ⟨f0, f1, f2, f3, f4⟩ := hbf
            refine anyE_ready [7] (by kernel_rfl) (by simp) (ReadyE.cons rfl (fun K' hK => ?_) ReadyE.nil)
            go_simp
            have hbx := Bx.mk f0 f1 f2 f3 f4
            rw [k_add2] at hsy
            have hne := hT.fne hsy
            have hKF := (hKS.set ⟨bz, 0, none⟩ hn7.1 hn7.2.1 hn7.2.2 (.slice sz 0 cz)).set ⟨bz, 1, none⟩ hn7.1 hn7.2.1 hn7.2.2 (.int .i64 0)
            have HFIN := hide (And.intro hKF.bl ((((hsy.other ⟨bz, 0, none⟩ (.slice sz 0 cz) hne).other ⟨bz, 1, none⟩ (.int .i64 0) hne).mono (Nat.zero_le _))))
            have hS := hKF.bx
            refine hK _ _ (fun _ => hS) ?_
            clear hK K' hKF hbx hic hsy hne hKS f0 f1 f2 f3 f4 hT
            try simp only [List.getElem_toArray, List.getElem_cons_succ, List.getElem_cons_zero, Act.put, List.setIfInBounds_toArray, List.set_cons_zero, List.set_cons_succ]
            refine anyE_ready [8] (by kernel_rfl) (by simp) (ReadyE.cons rfl (fun K' hK => ?_) ReadyE.nil)
            go_simp
            refine hK _ _ (fun h => by exact absurd h (by decide)) ?_
            clear hK K'
            try simp only [List.getElem_toArray, List.getElem_cons_succ, List.getElem_cons_zero, Act.put, List.setIfInBounds_toArray, List.set_cons_zero, List.set_cons_succ]
            refine anyE_done (by kernel_rfl) ?_ _
            go_wp2_with fail
            go_meet
            case rel => exact ⟨bz, f, rfl, rfl, HFIN⟩
      ·
        go_simp
        have hb := alloc_below w7 ZF
        have hbf0 := Bx.new w7 (.slice none 0 0) (.int .i64 0) FmT
        have hT := Two.new w7 (.slice none 0 0) (.int .i64 0) FmT
        have hn7 : w7.heap.size ≠ fb ∧ w7.heap.size ≠ qf ∧ w6.heap.size ≤ w7.heap.size := ⟨Nat.ne_of_gt hKS.bx.lt, Nat.ne_of_gt hKS.qlt, hKS.bl.size⟩
        have hK2 := hKS.keep hb
        refine hK _ _ (fun _ => hK2.bx) ?_
        clear hK K' hKS hS hb
        try simp only [List.getElem_toArray, List.getElem_cons_succ, List.getElem_cons_zero, Act.put, List.setIfInBounds_toArray, List.set_cons_zero, List.set_cons_succ]
        generalize w7.alloc (.cells #[.slice none 0 0, .int .i64 0] FmT) = W8 at *
        generalize w7.heap.size = bz at *
        have hbf := hbf0
        clear hbf0
        have hKS := hK2
        clear hK2
        have hS := hKS.bx
        refine anyE_ready [1] (by kernel_rfl) (by simp) (ReadyE.cons rfl (fun K' hK => ?_) ReadyE.nil)
        ·
          go_simp
          go_at_call 23
          refine (const_any 2 1 W8 (by decide) (by decide)).mono ?_
          rintro ev W9 ⟨qa, rfl, hwa, hqa, hb⟩
          dsimp only
          try go_simp
          have hK2 := hKS.keep hb
          have hbf2 := hbf.keep hb
          have hT2 := hT.keep hb
          clear hbf hT
          have hbf := hbf2
          have hT := hT2
          clear hbf2 hT2
          refine hK _ _ (fun _ => hK2.bx) ?_
          clear hK K' hKS hS hb
          try simp only [List.getElem_toArray, List.getElem_cons_succ, List.getElem_cons_zero, Act.put, List.setIfInBounds_toArray, List.set_cons_zero, List.set_cons_succ]
          have hKS := hK2
          clear hK2
          have hS := hKS.bx
          refine anyE_ready [2] (by kernel_rfl) (by simp) (ReadyE.cons rfl (fun K' hK => ?_) ReadyE.nil)
          ·
            go_simp
            go_at_call 11
            have hcd := linAdd_any W9 (.slice (some ⟨qf, 0, none⟩) 3 3) (.slice (some ⟨qa, 0, none⟩) 2 2) FA (List.replicate 2 0) (-5) 1 hKS.it (hwa.ints) fa_rng rep_rng ⟨by decide, by decide⟩ ⟨by decide, by decide⟩ (by decide) (by decide)
            rw [k_add3.1, k_add3.2] at hcd
            refine hcd.mono ?_
            clear hcd
            rintro ev W10 ⟨cv, f, rfl, hic, hsy, hb⟩
            obtain ⟨sz, cz, rfl⟩ := hic.shape
            dsimp only
            try go_simp
            have hK2 := hKS.keep hb
            have hbf2 := hbf.keep hb
            have hT2 := hT.keep hb
            clear hbf hT
            have hbf := hbf2
            have hT := hT2
            clear hbf2 hT2
            have hwa2 := hwa.keep hb
            clear hwa
            have hwa := hwa2
            clear hwa2
            refine hK _ _ (fun _ => hK2.bx) ?_
            clear hK K' hKS hS hb
            try simp only [List.getElem_toArray, List.getElem_cons_succ, List.getElem_cons_zero, Act.put, List.setIfInBounds_toArray, List.set_cons_zero, List.set_cons_succ]
            have hKS := hK2
            clear hK2
            have hS := hKS.bx
            refine anyE_take 3 (v := ?_) rfl (by kernel_rfl) (by kernel_rfl) (by kernel_rfl) (by kernel_rfl) (fun _ _ _ h => h) hS (Or.inl ⟨by rfl, ?_⟩) ?_
            rotate_left
            · intro w' hS'
              obtain ⟨e0, e1, _, _, _⟩ := hS'
              go_simp
              try with_reducible rfl
            try simp only [List.getElem_toArray, List.getElem_cons_succ, List.getElem_cons_zero, Act.put, List.setIfInBounds_toArray, List.set_cons_zero, List.set_cons_succ]
            refine anyE_take 4 (v := ?_) rfl (by kernel_rfl) (by kernel_rfl) (by kernel_rfl) (by kernel_rfl) (fun _ _ _ h => h) hS (Or.inl ⟨by rfl, ?_⟩) ?_
            rotate_left
            · intro w' hS'
              obtain ⟨e0, e1, _, _, _⟩ := hS'
              go_simp
              try with_reducible rfl
            try simp only [List.getElem_toArray, List.getElem_cons_succ, List.getElem_cons_zero, Act.put, List.setIfInBounds_toArray, List.set_cons_zero, List.set_cons_succ]
            refine anyE_take 5 (v := ?_) rfl (by kernel_rfl) (by kernel_rfl) (by kernel_rfl) (by kernel_rfl) (fun _ _ _ h => h) hS (Or.inl ⟨by rfl, ?_⟩) ?_
            rotate_left
            · intro w' hS'
              obtain ⟨e0, e1, _, _, _⟩ := hS'
              go_simp
              try with_reducible rfl
            try simp only [List.getElem_toArray, List.getElem_cons_succ, List.getElem_cons_zero, Act.put, List.setIfInBounds_toArray, List.set_cons_zero, List.set_cons_succ]
            have hfb := hKS.bx.lt
            obtain ⟨f0, f1, f2, f3, f4⟩ := hbf
            refine anyE_ready [7] (by kernel_rfl) (by simp) (ReadyE.cons rfl (fun K' hK => ?_) ReadyE.nil)
            go_simp
            have hbx := Bx.mk f0 f1 f2 f3 f4
            rw [k_add2] at hsy
            have hne := hT.fne hsy
            have hKF := (hKS.set ⟨bz, 0, none⟩ hn7.1 hn7.2.1 hn7.2.2 (.slice sz 0 cz)).set ⟨bz, 1, none⟩ hn7.1 hn7.2.1 hn7.2.2 (.int .i64 0)
            have HFIN := hide (And.intro hKF.bl ((((hsy.other ⟨bz, 0, none⟩ (.slice sz 0 cz) hne).other ⟨bz, 1, none⟩ (.int .i64 0) hne).mono (Nat.zero_le _))))
            have hS := hKF.bx
            refine hK _ _ (fun _ => hS) ?_
            clear hK K' hKF hbx hic hsy hne hKS f0 f1 f2 f3 f4 hT
            try simp only [List.getElem_toArray, List.getElem_cons_succ, List.getElem_cons_zero, Act.put, List.setIfInBounds_toArray, List.set_cons_zero, List.set_cons_succ]
            refine anyE_ready [8] (by kernel_rfl) (by simp) (ReadyE.cons rfl (fun K' hK => ?_) ReadyE.nil)
            go_simp
            refine hK _ _ (fun h => by exact absurd h (by decide)) ?_
            clear hK K'
            try simp only [List.getElem_toArray, List.getElem_cons_succ, List.getElem_cons_zero, Act.put, List.setIfInBounds_toArray, List.set_cons_zero, List.set_cons_succ]
            refine anyE_done (by kernel_rfl) ?_ _
            go_wp2_with fail
            go_meet
            case rel => exact ⟨bz, f, rfl, rfl, HFIN⟩
    case rest =>
      obtain ⟨b11, f12, rfl, h12, HK9⟩ := hcut
      have h12 := h12.symm
      subst h12
      have HB := hide (unhide HK9).1
      have HKS := hide ((unhide HK8).1.keep (unhide HB))
      have HSY1 := hide (unhide HK9).2
      have HSY5 := hide ((unhide HK8).2.2.2.below (unhide HB))
      have HB7 := hide ((unhide HK8).2.1.keep (unhide HB))
      have HIN := hide ((unhide HK8).2.2.1.below (unhide HB))
      have HGT := hide (And.intro ((unhide HG).1.below (unhide HKS).bl) ((unhide HG).2.below (unhide HKS).bl))
      clear HK8 HK9 HB
      obtain ⟨c0, c1, c2, c3, c4⟩ := (unhide HKS).bx
      obtain ⟨d0, d1, d2, d3, d4⟩ := unhide HB7
      obtain ⟨sb, so, sc2, hsv, hle1, hle2, hcel⟩ := (unhide HIN).at (by decide)
      injection hsv with g1 g2 g3
      subst g1
      have ce := hcel 2 (by decide)
      have ce : wc.cell? ⟨sb, so + 2, none⟩ = some (.int .i64 0) := ce
      have HT1 := hide (linText_any (wc.alloc (.cells #[.string ⟨#[105]⟩, .string ⟨#[106]⟩, .string ⟨#[107]⟩] 9)) (.slice (some ⟨qf, 0, none⟩) 3 3) (.slice (some ⟨wc.heap.size, 0, none⟩) 3 3) FA (-5) [[105], [106], [107]] 1 ((unhide HKS).it.below (alloc_below _ _)) (row3 wc [105] [106] [107]) fa_rng ⟨by decide, by decide⟩ (by decide) (by decide) k_names (by decide) ((unhide HGT).2.below (alloc_below _ _)))
      rw [k_txt] at HT1
      clear hcel g2 g3 hle1 hle2
      go_wp2_with fail
      refine (unhide HT1).mono ?_
      rintro ev w8 ⟨rfl, hb8⟩
      have HB8 := hide (bthen (alloc_below wc (.cells #[.string ⟨#[105]⟩, .string ⟨#[106]⟩, .string ⟨#[107]⟩] 9)) hb8)
      clear hb8 c0 c1 c2 c3 c4 d0 d1 d2 d3 d4 ce HT1
      have HC := hide (const_any 1 0 w8 (by decide) (by decide))
      go_wp2_with fail
      refine (unhide HC).mono ?_
      rintro ev w9 ⟨q9, rfl, hw9, hq9, hb9⟩
      have HB9 := hide (bthen (unhide HB8) hb9)
      have HT2 := hide (linText_any w9 (.slice (some ⟨q9, 0, none⟩) 1 1) (.slice none 0 0) [0] 0 [] 1 hw9.ints (.inl ⟨none, 0, rfl, rfl⟩) (by intro x hx; rw [List.mem_singleton.1 hx]; exact ⟨by decide, by decide⟩) ⟨by decide, by decide⟩ (by decide) (by decide) (by intro x hx; cases hx) (by decide) ((unhide HGT).2.below (unhide HB9)))
      rw [k_txt2] at HT2
      clear hw9 hq9 hb9 HC HB8
      go_wp2_with fail
      refine (unhide HT2).mono ?_
      rintro ev w10 ⟨rfl, hb10⟩
      have HB10 := hide (bthen (unhide HB9) hb10)
      clear hb10 HT2 HB9
      have HA5 := hide (at_any wForm 0 5 w10)
      go_wp2_with fail
      refine (unhide HA5).mono ?_
      rintro ev w11 ⟨b12, rfl, hb12, k0, k1, hb11⟩
      have HB11 := hide (bthen (unhide HB10) hb11)
      have HTL5 := hide (tells_any w11 f10 (.agg #[.slice (some ⟨b12, 0, none⟩) 1 1, .int .i64 5]) wForm 0 5 ((unhide HGT).1.below (unhide HB11)) ((unhide HSY5).below (unhide HB11)) (told_new (B := 0) (by decide) (Nat.zero_le _) k0 k1))
      clear hb12 k0 k1 hb11 HA5 HB10
      go_wp2_with fail
      refine (unhide HTL5).mono ?_
      rintro ev w12 ⟨rfl, hb12⟩
      have HB12 := hide (bthen (unhide HB11) hb12)
      clear hb12 HTL5 HB11
      have HA1 := hide (at_any wForm 0 1 w12)
      go_wp2_with fail
      refine (unhide HA1).mono ?_
      rintro ev w13 ⟨b13, rfl, hb13, k0, k1, hb14⟩
      have HB13 := hide (bthen (unhide HB12) hb14)
      have HTL1 := hide (tells_any w13 f12 (.agg #[.slice (some ⟨b13, 0, none⟩) 1 1, .int .i64 1]) wForm 0 1 ((unhide HGT).1.below (unhide HB13)) ((unhide HSY1).below (unhide HB13)) (told_new (B := 0) (by decide) (Nat.zero_le _) k0 k1))
      clear hb13 k0 k1 hb14 HA1 HB12
      go_wp2_with fail
      refine (unhide HTL1).mono ?_
      rintro ev w14 ⟨rfl, hb15⟩
      have HB14 := hide (bthen (unhide HB13) hb15)
      clear hb15 HTL1 HB13
      have HKF := hide ((unhide HKS).keep (unhide HB14))
      obtain ⟨c0, c1, c2, c3, c4⟩ := (unhide HKF).bx
      have HSM := hide (same_any w14 (.slice (some ⟨qf, 0, none⟩) 3 3) (.slice (some ⟨qf, 0, none⟩) 3 3) FA FA (-5) (-5) (unhide HKF).it (unhide HKF).it (by decide) (by decide))
      rw [sameP_refl] at HSM
      go_wp2_with fail
      refine (unhide HSM).mono ?_
      rintro ev w15 ⟨rfl, hb16⟩
      have HB15 := hide (((unhide HKF).bl).trans (hb16.mono (unhide HKF).bl.size))
      clear c0 c1 c2 c3 c4 hb16
      go_wp2_with fail
      go_ret
      exact ⟨rfl, by have := unhide HB15; rwa [(unhide HF1).2] at this⟩
end Go.Proofs.YtmbhamnkbpcljaaDoor.Line
