/- The contract of the law's Same at two declarations that are alike. -/
import Derived.Test.YthkbchefjagbbaaGreatDoorStOf
import Derived.Test.YthkbchefjagbbaaGreatDoorRfA
import Derived.Test.YthkbchefjagbbaaGreatDoorExprSame
import Derived.BigQuiet
namespace Go.Proofs.YthkbchefjagbbaaGreatDoor.Line
open Go.ChangeShapes Go.WideShapes Go.ChangeAt Go.RowKit
open Ex (E St)
set_option linter.unusedVariables false

theorem cells_of {W : World} {q : Nat} {cs : Array Value} {t : TypeId} {fr : Nat × Nat} (h : W.heap[q]? = some (.cells cs t fr)) (k : Nat) (v : Value) (hv : cs[k]? = some v) : W.cell? ⟨q, k, none⟩ = some v := by
  unfold World.cell?
  rw [h]; exact hv
theorem same_none (w : World) (a a' : Option Addr) (c c' : Nat) : Calls Tryz.prog 19 #[.agg #[.int .i64 0, .int .i64 0, .string ⟨#[]⟩, .slice a 0 c], .agg #[.int .i64 0, .int .i64 0, .string ⟨#[]⟩, .slice a' 0 c']] w fun e w' => e = .returned (.bool true) ∧ Below w.heap.size w w' :=
  refSame_true E.none w (fun _ => True) (fun _ => True) (.slice a 0 c) (.slice a' 0 c') (.nil _ _) (.nil _ _)
/-- two boxes of statements -/
def TwoB (q : Nat) (A B : Array Value) (W : World) : Prop := W.heap[q]? = some (.cells A RST2 (0, 0)) ∧ W.heap[q + 1]? = some (.cells B RST2 (0, 0)) ∧ q + 1 < W.heap.size
theorem TwoB.below {q : Nat} {A B : Array Value} {W W' : World} (h : TwoB q A B W) (hb : Below W.heap.size W W') : TwoB q A B W' := ⟨(hb.block q (by have := h.2.2; omega)).trans h.1, (hb.block (q + 1) h.2.2).trans h.2.1, Nat.lt_of_lt_of_le h.2.2 hb.size⟩
set_option maxHeartbeats 16000000 in
set_option maxRecDepth 100000 in
theorem stSame_decl (m : List (List UInt8 × List Nat)) (b1 cap1 : Nat) (sl1 : Nat → Option Addr × Nat) (b2 cap2 : Nat) (sl2 : Nat → Option Addr × Nat) (a1 : Option Addr) (c1 : Nat) (a2 : Option Addr) (c2 : Nat) (a3 : Option Addr) (c3 : Nat) (a4 : Option Addr) (c4 : Nat) (a5 : Option Addr) (c5 : Nat) (a6 : Option Addr) (c6 : Nat) (w : World) (h1 : RfRow w b1 m sl1) (h2 : RfRow w b2 m sl2) (hm : m.length ≤ 100) (hn : ∀ x ∈ m, x.2.length ≤ 10) (k1 : m.length ≤ cap1) (k2 : m.length ≤ cap2) (hd1 : ∀ j x, m[j]? = some x → x.2.length ≤ (sl1 j).2) (hd2 : ∀ j x, m[j]? = some x → x.2.length ≤ (sl2 j).2) :
    Calls Tryz.prog 25 #[.agg (ofW (.slice (some ⟨b1, 0, none⟩) m.length cap1) (.slice a1 0 c1) (.slice a2 0 c2) (.slice a3 0 c3) (.slice a4 0 c4) (.slice a5 0 c5) (.slice a6 0 c6)), .agg (rfV (.slice (some ⟨b2, 0, none⟩) m.length cap2))] w fun e w' => e = .returned (.bool true) ∧ Below w.heap.size w w' := by
  generalize hA : ofW (.slice (some ⟨b1, 0, none⟩) m.length cap1) (.slice a1 0 c1) (.slice a2 0 c2) (.slice a3 0 c3) (.slice a4 0 c4) (.slice a5 0 c5) (.slice a6 0 c6) = A
  generalize hB : rfV (.slice (some ⟨b2, 0, none⟩) m.length cap2) = B
  have ba1 := alloc_below w (.cells A RST2)
  have ba2 := alloc_below (w.alloc (.cells A RST2)) (.cells B RST2)
  have s1 : (w.alloc (.cells A RST2)).heap.size = w.heap.size + 1 := by simp
  have s2 : ((w.alloc (.cells A RST2)).alloc (.cells B RST2)).heap.size = w.heap.size + 2 := by simp
  have q0 : (w.alloc (.cells A RST2)).heap[w.heap.size]? = some (.cells A RST2 (0, 0)) := heap_alloc_new w _
  have q1 : ((w.alloc (.cells A RST2)).alloc (.cells B RST2)).heap[w.heap.size + 1]? = some (.cells B RST2 (0, 0)) := by rw [← s1]; exact heap_alloc_new _ _
  have hT : TwoB w.heap.size A B ((w.alloc (.cells A RST2)).alloc (.cells B RST2)) := ⟨(ba2.block _ (by omega)).trans q0, q1, by omega⟩
  have HT := hide hT
  have HB := hide (bthen ba1 ba2)
  have HR := hide (And.intro (h1.below (bthen ba1 ba2)) (h2.below (bthen ba1 ba2)))
  have HN := hide (And.intro hn (And.intro hd1 hd2))
  have HM := hide (And.intro k1 k2)
  subst hA hB
  clear ba1 ba2 s1 s2 q0 q1 hT h1 h2 hn hd1 hd2 k1 k2
  obtain ⟨n, hml⟩ : ∃ n, m.length = n := ⟨_, rfl⟩
  have HML := hide hml
  rw [hml] at HT HB HR hm HM ⊢
  clear hml
  go_enter Tryz.func25, Tryz.ntmps25
  go_upto_region 1 with (fail)
  generalize (w.alloc (.cells (ofW (.slice (some ⟨b1, 0, none⟩) n cap1) (.slice a1 0 c1) (.slice a2 0 c2) (.slice a3 0 c3) (.slice a4 0 c4) (.slice a5 0 c5) (.slice a6 0 c6)) RST2)).alloc (.cells (rfV (.slice (some ⟨b2, 0, none⟩) n cap2)) RST2) = W2 at *
  have xa0 := cells_of (unhide HT).1 0 _ rfl
  have xa1 := cells_of (unhide HT).1 1 _ rfl
  have xa10 := cells_of (unhide HT).1 10 _ rfl
  have xa19 := cells_of (unhide HT).1 19 _ rfl
  have xa28 := cells_of (unhide HT).1 28 _ rfl
  have xb0 := cells_of (unhide HT).2.1 0 _ rfl
  have xb1 := cells_of (unhide HT).2.1 1 _ rfl
  have xb10 := cells_of (unhide HT).2.1 10 _ rfl
  have xb19 := cells_of (unhide HT).2.1 19 _ rfl
  have xb28 := cells_of (unhide HT).2.1 28 _ rfl
  have i0 : (n : Int) ≤ 100 := by omega
  go_wp2_with fail
  clear xa0 xa1 xa10 xa19 xa28 xb0 xb1 xb10 xb19 xb28
  go_loopw [5] (fun i wr => ∃ j : Nat, i = .int .i64 j ∧ j ≤ n ∧ Hid (Below W2.heap.size W2 wr)) (fun i _ => n - (intOf i).toNat)
  case atStart => exact ⟨0, rfl, Nat.zero_le _, hide (Below.refl _ _)⟩
  case round =>
    obtain ⟨j, rfl, hj, HI⟩ := hrel
    have HTW := hide ((unhide HT).below (unhide HI))
    have xa1 := cells_of (unhide HTW).1 1 _ rfl
    have xb1 := cells_of (unhide HTW).2.1 1 _ rfl
    by_cases hlt : j < n
    · have hlt2 : (j : Int) < n := by omega
      have hjl : j < m.length := by rw [unhide HML]; exact hlt
      obtain ⟨x, hx⟩ : ∃ x, m[j]? = some x := ⟨_, List.getElem?_eq_getElem hjl⟩
      have HX := hide hx
      have r1 := (unhide HR).1.below (unhide HI)
      have r2 := (unhide HR).2.below (unhide HI)
      have y1 := r1.nm j x hx
      have y2 := r1.ds j x hx
      have z1 := r2.nm j x hx
      have z2 := r2.ds j x hx
      have hk1 := (unhide HM).1
      have hk2 := (unhide HM).2
      have hxn := (unhide HN).1 x (List.mem_of_getElem? hx)
      clear hx r1 r2
      obtain ⟨nm, D⟩ := x
      dsimp only at y1 y2 z1 z2 hxn
      generalize hD : D.length = dl at *
      have HDL := hide hD
      clear hD
      have i1 : (dl : Int) ≤ 10 := by omega
      go_wp2_with fail
      go_quiet (fail)
      have HI2 := hide (below_drewN (unhide HI) nq)
      generalize wr.drewN nq = W3 at *

      clear xa1 xb1
      clear y1 y2 z1 z2 HTW HI
      go_wp2_with fail
      go_loopw [6] (fun i wv => ∃ k : Nat, i = .int .i64 k ∧ k ≤ dl ∧ Hid (Below W2.heap.size W2 wv)) (fun i _ => dl - (intOf i).toNat)
      case atStart => exact ⟨0, rfl, Nat.zero_le _, HI2⟩
      case round =>
        clear HI2
        obtain ⟨k, rfl, hk, HI3⟩ := hrel
        have HTV := hide ((unhide HT).below (unhide HI3))
        have r1 := (unhide HR).1.below (unhide HI3)
        have r2 := (unhide HR).2.below (unhide HI3)
        have y2 := r1.ds j _ (unhide HX)
        have z2 := r2.ds j _ (unhide HX)
        dsimp only at y2 z2
        rw [unhide HDL] at y2 z2

        have xa1 := cells_of (unhide HTV).1 1 _ rfl
        have xb1 := cells_of (unhide HTV).2.1 1 _ rfl
        by_cases hlk : k < dl
        · have hlk2 : (k : Int) < dl := by omega
          have hkd : k < D.length := by rw [unhide HDL]; exact hlk
          obtain ⟨g1, hg1, y3⟩ := r1.at_ j _ (unhide HX) k D[k] (List.getElem?_eq_getElem hkd)
          obtain ⟨g2, hg2, z3⟩ := r2.at_ j _ (unhide HX) k D[k] (List.getElem?_eq_getElem hkd)
          rw [hg1] at y2
          rw [hg2] at z2
          have hd1 : dl ≤ (sl1 j).2 := by have := (unhide HN).2.1 j _ (unhide HX); dsimp only at this; rw [unhide HDL] at this; exact this
          have hd2 : dl ≤ (sl2 j).2 := by have := (unhide HN).2.2 j _ (unhide HX); dsimp only at this; rw [unhide HDL] at this; exact this
          generalize (sl1 j).2 = q1 at *
          generalize (sl2 j).2 = q2 at *
          generalize D[k] = d at *
          clear hg1 hg2 r1 r2
          go_wp2_with fail
          go_quiet (fail)
          have HI4 := hide (below_drewN (unhide HI3) nq)
          generalize wr.drewN nq = W4 at *

          clear xa1 xb1
          clear y2 y3 z2 z3
          go_wp2
          go_roundw
          case rel => exact ⟨k + 1, by go_num, by omega, HI4⟩
          case measure => simp [intOf]; omega
        · have hkk : k = dl := by omega
          subst hkk
          have hlk2 : ¬ (k : Int) < k := by omega
          clear r1 r2
          go_wp2_with fail
          go_roundw
          case rel => exact ⟨j + 1, by go_num, by omega, HI3⟩
          case measure => simp [intOf]; omega
    · have hjn : j = n := by omega
      subst hjn
      have hlt2 : ¬ (j : Int) < j := by omega

      have xa2 := cells_of (unhide HTW).1 2 _ rfl
      have xa3 := cells_of (unhide HTW).1 3 _ rfl
      have xa4 := cells_of (unhide HTW).1 4 _ rfl
      have xa5 := cells_of (unhide HTW).1 5 _ rfl
      have xb2 := cells_of (unhide HTW).2.1 2 _ rfl
      have xb3 := cells_of (unhide HTW).2.1 3 _ rfl
      have xb4 := cells_of (unhide HTW).2.1 4 _ rfl
      have xb5 := cells_of (unhide HTW).2.1 5 _ rfl
      go_wp2_with fail
      refine (same_none _ _ _ _ _).mono ?_
      rintro e v1 ⟨rfl, hb1⟩
      have HT1 := hide ((unhide HTW).below hb1)
      have HI1 : Hid (Below W2.heap.size W2 v1) := hide (bthen (unhide HI) hb1)
      clear hb1
      clear xa2 xa3 xa4 xa5 xb2 xb3 xb4 xb5
      have xa6 := cells_of (unhide HT1).1 6 _ rfl
      have xa7 := cells_of (unhide HT1).1 7 _ rfl
      have xa8 := cells_of (unhide HT1).1 8 _ rfl
      have xa9 := cells_of (unhide HT1).1 9 _ rfl
      have xb6 := cells_of (unhide HT1).2.1 6 _ rfl
      have xb7 := cells_of (unhide HT1).2.1 7 _ rfl
      have xb8 := cells_of (unhide HT1).2.1 8 _ rfl
      have xb9 := cells_of (unhide HT1).2.1 9 _ rfl
      go_wp2_with fail
      refine (same_none _ _ _ _ _).mono ?_
      rintro e v2 ⟨rfl, hb2⟩
      have HT2 := hide ((unhide HT1).below hb2)
      have HI2 : Hid (Below W2.heap.size W2 v2) := hide (bthen (unhide HI1) hb2)
      clear hb2
      clear xa6 xa7 xa8 xa9 xb6 xb7 xb8 xb9
      have xa11 := cells_of (unhide HT2).1 11 _ rfl
      have xa12 := cells_of (unhide HT2).1 12 _ rfl
      have xa13 := cells_of (unhide HT2).1 13 _ rfl
      have xa14 := cells_of (unhide HT2).1 14 _ rfl
      have xb11 := cells_of (unhide HT2).2.1 11 _ rfl
      have xb12 := cells_of (unhide HT2).2.1 12 _ rfl
      have xb13 := cells_of (unhide HT2).2.1 13 _ rfl
      have xb14 := cells_of (unhide HT2).2.1 14 _ rfl
      go_wp2_with fail
      refine (same_none _ _ _ _ _).mono ?_
      rintro e v3 ⟨rfl, hb3⟩
      have HT3 := hide ((unhide HT2).below hb3)
      have HI3 : Hid (Below W2.heap.size W2 v3) := hide (bthen (unhide HI2) hb3)
      clear hb3
      clear xa11 xa12 xa13 xa14 xb11 xb12 xb13 xb14
      have xa15 := cells_of (unhide HT3).1 15 _ rfl
      have xa16 := cells_of (unhide HT3).1 16 _ rfl
      have xa17 := cells_of (unhide HT3).1 17 _ rfl
      have xa18 := cells_of (unhide HT3).1 18 _ rfl
      have xb15 := cells_of (unhide HT3).2.1 15 _ rfl
      have xb16 := cells_of (unhide HT3).2.1 16 _ rfl
      have xb17 := cells_of (unhide HT3).2.1 17 _ rfl
      have xb18 := cells_of (unhide HT3).2.1 18 _ rfl
      go_wp2_with fail
      refine (same_none _ _ _ _ _).mono ?_
      rintro e v4 ⟨rfl, hb4⟩
      have HT4 := hide ((unhide HT3).below hb4)
      have HI4 : Hid (Below W2.heap.size W2 v4) := hide (bthen (unhide HI3) hb4)
      clear hb4
      clear xa15 xa16 xa17 xa18 xb15 xb16 xb17 xb18
      have xa20 := cells_of (unhide HT4).1 20 _ rfl
      have xa21 := cells_of (unhide HT4).1 21 _ rfl
      have xa22 := cells_of (unhide HT4).1 22 _ rfl
      have xa23 := cells_of (unhide HT4).1 23 _ rfl
      have xb20 := cells_of (unhide HT4).2.1 20 _ rfl
      have xb21 := cells_of (unhide HT4).2.1 21 _ rfl
      have xb22 := cells_of (unhide HT4).2.1 22 _ rfl
      have xb23 := cells_of (unhide HT4).2.1 23 _ rfl
      go_wp2_with fail
      refine (same_none _ _ _ _ _).mono ?_
      rintro e v5 ⟨rfl, hb5⟩
      have HT5 := hide ((unhide HT4).below hb5)
      have HI5 : Hid (Below W2.heap.size W2 v5) := hide (bthen (unhide HI4) hb5)
      clear hb5
      clear xa20 xa21 xa22 xa23 xb20 xb21 xb22 xb23
      have xa24 := cells_of (unhide HT5).1 24 _ rfl
      have xa25 := cells_of (unhide HT5).1 25 _ rfl
      have xa26 := cells_of (unhide HT5).1 26 _ rfl
      have xa27 := cells_of (unhide HT5).1 27 _ rfl
      have xb24 := cells_of (unhide HT5).2.1 24 _ rfl
      have xb25 := cells_of (unhide HT5).2.1 25 _ rfl
      have xb26 := cells_of (unhide HT5).2.1 26 _ rfl
      have xb27 := cells_of (unhide HT5).2.1 27 _ rfl
      go_wp2_with fail
      refine (same_none _ _ _ _ _).mono ?_
      rintro e v6 ⟨rfl, hb6⟩
      have HT6 := hide ((unhide HT5).below hb6)
      have HI6 : Hid (Below W2.heap.size W2 v6) := hide (bthen (unhide HI5) hb6)
      clear hb6
      clear xa24 xa25 xa26 xa27 xb24 xb25 xb26 xb27
      go_wp2_with fail
      go_ret
      exact ⟨rfl, bthen (unhide HB) (unhide HI6)⟩
end Go.Proofs.YthkbchefjagbbaaGreatDoor.Line
