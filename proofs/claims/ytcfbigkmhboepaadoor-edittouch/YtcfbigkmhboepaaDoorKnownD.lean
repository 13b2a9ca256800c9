/- The contract of the law's known. -/
import Derived.Test.YtcfbigkmhboepaaDoorBackD
import Derived.Test.YtcfbigkmhboepaaDoorDiffD
namespace Go.Proofs.YtcfbigkmhboepaaDoor.Line
open Go.ChangeShapes Go.WideShapes Go.ChangeAt Go.RowKit
set_option linter.unusedVariables false

abbrev kL : List (List UInt8) := [[97], [98], [99]]
abbrev kX : List (List UInt8) := [[120], [121]]
abbrev kE : List RawE := [⟨1, 2, kX⟩]
abbrev kM : List (List UInt8) := [[97], [120], [121], [99]]
abbrev kB : List RawE := [⟨1, 3, [[98]]⟩]
theorem k_err : Edits.errE ((kL.length : Nat) : Int) kE = (0, 0) := by decide
theorem k_made : made kL kE = kM := by decide
theorem k_backs : backs kL kE = kB := rfl
theorem k_err2 : Edits.errE ((kM.length : Nat) : Int) kB = (0, 0) := by decide
theorem k_made2 : made kM kB = kL := by decide
theorem k_err3 : Edits.errE (1 : Int) kE = (1, 0) := by decide
theorem k_diff : IsDiff kL kM kE := by
  refine .inr ⟨by decide, 1, 1, ⟨by decide, by decide, fun j hj => ?_, fun _ _ => by decide⟩, ⟨by decide, by decide, fun j hj => ?_, fun _ _ => by decide⟩, rfl⟩
  · obtain rfl : j = 0 := by omega
    rfl
  · obtain rfl : j = 0 := by omega
    rfl

theorem k_lay (w : World) : ∃ W, ((w.alloc (.cells #[.string ⟨#[97]⟩, .string ⟨#[98]⟩, .string ⟨#[99]⟩] 9)).alloc (.cells #[.string ⟨#[120]⟩, .string ⟨#[121]⟩] 9)).alloc (.cells #[.int .i64 1, .int .i64 2, .slice (some ⟨w.heap.size + 1, 0, none⟩) 2 2] 50) = W ∧ Row W (.slice (some ⟨w.heap.size, 0, none⟩) 3 3) kL ∧ Eds W (.slice (some ⟨w.heap.size + 1 + 1, 0, none⟩) 1 1) kE ∧ Below w.heap.size w W := by
  refine ⟨_, rfl, ?_, ?_, ((alloc_below w _).alloc (by simp) _).alloc (by simp; omega) _⟩
  · exact ((show Own w.heap.size (w.alloc (.cells #[.string ⟨#[97]⟩, .string ⟨#[98]⟩, .string ⟨#[99]⟩] 9)) (.slice (some ⟨w.heap.size, 0, none⟩) 3 3) kL from World.ownsRow_lit w _ 3 (Nat.le_refl _) (by decide) rfl).row.below (alloc_below _ _)).below (alloc_below _ _)
  · generalize hw1 : w.alloc (.cells #[.string ⟨#[97]⟩, .string ⟨#[98]⟩, .string ⟨#[99]⟩] 9) = w1
    have e1 : w.heap.size + 1 = w1.heap.size := by rw [← hw1]; simp
    have hx : Row (w1.alloc (.cells #[.string ⟨#[120]⟩, .string ⟨#[121]⟩] 9)) (.slice (some ⟨w1.heap.size, 0, none⟩) 2 2) kX := (show Own w1.heap.size (w1.alloc (.cells #[.string ⟨#[120]⟩, .string ⟨#[121]⟩] 9)) (.slice (some ⟨w1.heap.size, 0, none⟩) 2 2) kX from World.ownsRow_lit w1 _ 2 (Nat.le_refl _) (by decide) rfl).row
    rw [e1]
    rw [show w1.heap.size + 1 = (w1.alloc (.cells #[.string ⟨#[120]⟩, .string ⟨#[121]⟩] 9)).heap.size by simp]
    exact (ownE_one (B := w.heap.size) (by simp; omega) hx).eds
theorem Says.ok {B : Nat} {w : World} {f : Value} {word : List UInt8} {k e : Nat} (h : Says B w f word k e) (he : e = 0) : f = .nilIface := by
  rcases h with ⟨_, h⟩ | ⟨h, _⟩
  · exact h
  · exact absurd he h

set_option maxHeartbeats 4000000 in
set_option maxRecDepth 100000 in
theorem known_any (w : World) (hG : Glob w) : Calls Tryd.prog 9 #[] w fun e w' => e = .returned (.bool true) ∧ Below w.heap.size w w' := by
  have HG := hide hG
  clear hG
  obtain ⟨W, hW, hL, hE, hB⟩ := k_lay w
  have hGW := (unhide HG).below hB
  have H0 := hide (And.intro hL (And.intro hE (And.intro hB hGW)))
  have HW := hide hW
  clear hL hE hB hGW hW
  go_enter Tryd.func9, Tryd.ntmps9
  go_wp2_with fail
  rw [unhide HW]
  generalize hB0 : w.heap.size = B0 at *
  have HB0 := hide hB0
  clear hB0 HW
  obtain ⟨hL, hE, hB, hGW⟩ := unhide H0
  refine (apply_any _ _ kL kE W hGW hL hE (by decide) (by decide) (by decide)).mono ?_
  rintro e w1 ⟨u1, g1, rfl, hu1, hs1, hb1⟩
  obtain rfl := hs1.ok (by rw [k_err])
  rw [k_made] at hu1
  obtain ⟨a1, c1, rfl⟩ := hu1.shape
  clear hs1 H0
  have H1 := hide (And.intro hL (And.intro hE (And.intro hB (And.intro hGW (And.intro hu1 hb1)))))
  clear hL hE hB hGW hu1 hb1
  go_wp2_with fail
  obtain ⟨hL, hE, hB, hGW, hu1, hb1⟩ := unhide H1
  have hL1 := hL.below hb1
  have hE1 := hE.below hb1
  refine (back_any _ _ kL kE w1 (hGW.below hb1) hL1 hE1 (by decide) (by decide) (by decide)).mono ?_
  rintro e w2 ⟨u2, g2, rfl, hu2, hs2, hb2⟩
  obtain rfl := hs2.ok (by rw [k_err])
  rw [k_backs] at hu2
  obtain ⟨a2, c2, rfl⟩ := hu2.eds.shape
  have hG2 := (hGW.below hb1).below hb2
  have hB2 : Below B0 w w2 := (hB.trans (hb1.mono (by have := hB.size; have := unhide HB0; omega))).trans (hb2.mono (by have := hB.size; have := hb1.size; have := unhide HB0; omega))
  have hL2 := hL1.below hb2
  have hE2 := hE1.below hb2
  have hM2 := hu1.row.below hb2
  have hK2 := hu2.eds
  clear hs2 H1 hL hE hB hGW hu1 hb1 hL1 hE1 hb2 hu2
  have H2 := hide (And.intro hL2 (And.intro hE2 (And.intro hM2 (And.intro hK2 (And.intro hG2 hB2)))))
  clear hL2 hE2 hM2 hK2 hG2 hB2
  go_wp2_with fail
  obtain ⟨hL2, hE2, hM2, hK2, hG2, hB2⟩ := unhide H2
  refine (diff_any _ _ kL kM w2 hL2 hM2 (by decide) (by decide)).mono ?_
  rintro e w3 ⟨u3, D, rfl, hu3, hD, hb3⟩
  obtain rfl := hD.unique k_diff
  obtain ⟨a3, c3, rfl⟩ := hu3.eds.shape
  have hL3 := hL2.below hb3
  have hE3 := hE2.below hb3
  have hM3 := hM2.below hb3
  have hK3 := hK2.below hb3
  have hG3 := hG2.below hb3
  have hD3 := hu3.eds
  have hB3 : Below B0 w w3 := hB2.trans (hb3.mono (by have := hB2.size; have := unhide HB0; omega))
  clear H2 hL2 hE2 hM2 hK2 hG2 hB2 hb3 hu3 hD
  have H3 := hide (And.intro hL3 (And.intro hE3 (And.intro hM3 (And.intro hK3 (And.intro hG3 (And.intro hD3 hB3))))))
  clear hL3 hE3 hM3 hK3 hG3 hD3 hB3
  go_wp2_with fail
  obtain ⟨hL3, hE3, hM3, hK3, hG3, hD3, hB3⟩ := unhide H3
  refine (apply_any _ _ kM kB w3 hG3 hM3 hK3 (by decide) (by decide) (by decide)).mono ?_
  rintro e w4 ⟨u4, g4, rfl, hu4, hs4, hb4⟩
  obtain rfl := hs4.ok (by rw [k_err2])
  rw [k_made2] at hu4
  obtain ⟨a4, c4, rfl⟩ := hu4.shape
  have hL4 := hL3.below hb4
  have hE4 := hE3.below hb4
  have hM4 := hM3.below hb4
  have hK4 := hK3.below hb4
  have hD4 := hD3.below hb4
  have hB4 : Below B0 w w4 := hB3.trans (hb4.mono (by have := hB3.size; have := unhide HB0; omega))
  have hN4 := hu4.row
  clear hs4 H3 hL3 hE3 hM3 hK3 hG3 hD3 hB3 hu4 hb4
  have H4 := hide (And.intro hL4 (And.intro hE4 (And.intro hM4 (And.intro hK4 (And.intro hD4 (And.intro hN4 hB4))))))
  clear hL4 hE4 hM4 hK4 hD4 hN4 hB4
  go_wp2_with fail
  obtain ⟨hL4, hE4, hM4, hK4, hD4, hN4, hB4⟩ := unhide H4
  refine (sameLines_eq _ _ kL w4 hN4 hL4 (by decide)).mono ?_
  rintro e w5 ⟨rfl, n, rfl⟩
  replace hL4 := hL4.drewN n
  replace hE4 := hE4.drewN n
  replace hM4 := hM4.drewN n
  replace hK4 := hK4.drewN n
  replace hD4 := hD4.drewN n
  replace hB4 := below_drewN hB4 n
  clear H4 hN4
  generalize w4.drewN n = W5 at *
  obtain ⟨o1, k1, hm1, hm2⟩ := hM4.arg
  injection hm1 with hm1 hm3 hm4
  subst hm1
  obtain ⟨mb, mo, rfl, hmc⟩ := hm2 2 (by decide)
  rcases hK4 with ⟨_, _, _, h⟩ | ⟨kb, ko, kc, hk1, hk2, hk3⟩
  · cases h
  injection hk1 with hk1 hk4 hk5
  subst hk1
  obtain ⟨kd0, kd1, ku, kd2, kr⟩ := hk3 0 (by decide)
  rcases hD4 with ⟨_, _, _, h⟩ | ⟨db, dof, dc, hd1, hd2, hd3⟩
  · cases h
  injection hd1 with hd1 hd4 hd5
  subst hd1
  obtain ⟨dd0, dd1, du, dd2, dr⟩ := hd3 0 (by decide)
  simp only [Nat.zero_mul, Nat.add_zero, List.getElem_cons_zero, List.getElem_cons_succ] at kd0 kd1 kd2 dd0 dd1 dd2 hmc
  have H5 := hide (And.intro hL4 (And.intro hE4 hB4))
  clear hL4 hE4 hM4 hm2 hk3 hd3 hk2 hd2 kr dr hk4 hk5 hd4 hd5 hm3 hm4 hB4
  go_wp2_with fail
  obtain ⟨hL5, hE5, hB5⟩ := unhide H5
  refine (check_any 1 kE _ W5 hE5 (by decide)).mono ?_
  rintro e w6 ⟨g6, rfl, hs6, hb6⟩
  rw [k_err3] at hs6
  rcases hs6 with ⟨h, _⟩ | ⟨_, b6, _, rfl, _⟩
  · cases h
  have hL6 := hL5.below hb6
  have hB6 : Below B0 w w6 := hB5.trans (hb6.mono (by have := hB5.size; have := unhide HB0; omega))
  clear H5 hL5 hE5 hB5 hb6
  have H6 := hide (And.intro hL6 hB6)
  clear hL6 hB6
  go_wp2_with fail
  obtain ⟨hL6, hB6⟩ := unhide H6
  refine (diff_any _ _ kL kL w6 hL6 hL6 (by decide) (by decide)).mono ?_
  rintro e w7 ⟨u7, D, rfl, hu7, hD, hb7⟩
  obtain rfl := hD.unique (.inl ⟨rfl, rfl⟩)
  obtain ⟨a7, c7, rfl⟩ := hu7.eds.shape
  have hB7 : Below B0 w w7 := hB6.trans (hb7.mono (by have := hB6.size; have := unhide HB0; omega))
  have H7 := hide hB7
  clear H6 hL6 hB6 hu7 hD hb7 hB7
  go_wp2
  go_ret
  exact ⟨rfl, by rw [unhide HB0]; exact unhide H7⟩
end Go.Proofs.YtcfbigkmhboepaaDoor.Line
