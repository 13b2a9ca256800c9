/- Sums, products, values of forms where nothing is too great; forms in boxes. -/
import Derived.Test.YtmbhamnkbpcljaaDoorLnDot
import Derived.Test.YtmbhamnkbpcljaaDoorLnAdd
import Derived.Test.YtmbhamnkbpcljaaDoorLnScl
import Derived.Test.YtmbhamnkbpcljaaDoorLnSm
namespace Go.Proofs.YtmbhamnkbpcljaaDoor.Line
open Go.ChangeShapes Go.WideShapes Go.ChangeAt Go.RowKit
set_option linter.unusedVariables false

theorem Says.nilOf {B : Nat} {w : World} {f : Value} {word : List UInt8} {k err : Nat} (h : Says B w f word k err) (h0 : err = 0) : f = .nilIface := by
  rcases h with ⟨_, h⟩ | ⟨h, _⟩
  · exact h
  · exact absurd h0 h
theorem allF_ofRng {l : List Int} (h : Rng l) : allF l = true := List.all_eq_true.2 fun y hy => fitO_iff.2 (h y hy)
theorem addOk (W : World) (av bv : Value) (a b l : List Int) (ka kb kl : Int) (n : Nat) (ha : Ints W av a) (hb : Ints W bv b) (ra : Rng a) (rb : Rng b) (ia : In64 ka) (ib : In64 kb) (hla : a.length = n) (hlb : b.length = n) (hn : n ≤ 1000) (hl : sumL a b = l) (hk : ka + kb = kl) (rl : Rng l) (ik : In64 kl) :
    Calls Tryd.prog 11 #[formV av ka, formV bv kb] W fun e w' => ∃ sa sc, e = .returned (.tuple #[formV (.slice sa n sc) kl, .nilIface]) ∧ Ints w' (.slice sa n sc) l ∧ Below W.heap.size W w' := by
  have he : addE a b ka kb = 0 := by
    unfold addE
    rw [if_neg (by omega), hl, hk, allF_ofRng rl, fitO_iff.2 ik]
    rfl
  have hc : addC a b ka kb = l := by unfold addC; rw [if_pos he, hl]
  have hk' : addK a b ka kb = kl := by unfold addK; rw [if_pos he, hk]
  refine (linAdd_any W av bv a b ka kb ha hb ra rb ia ib (by omega) (by omega)).mono ?_
  rintro e w' ⟨cv, f, rfl, hi, hs, hbl⟩
  rw [hc] at hi
  rw [he] at hs
  obtain ⟨sa, sc, rfl⟩ := hi.shape
  have hll : l.length = n := by rw [← hl, sumL_len a b (by omega), hla]
  rw [hk', hs.nilOf rfl]
  rw [hll] at hi ⊢
  exact ⟨sa, sc, rfl, hi, hbl⟩
theorem mulOk (W : World) (av : Value) (a l : List Int) (ka k kl : Int) (n : Nat) (ha : Ints W av a) (ra : Rng a) (ia : In64 ka) (ik0 : In64 k) (hla : a.length = n) (hn : n ≤ 1000) (hl : mulL a k = l) (hk : ka * k = kl) (rl : Rng l) (ik : In64 kl) :
    Calls Tryd.prog 14 #[formV av ka, .int .i64 k] W fun e w' => ∃ sa sc, e = .returned (.tuple #[formV (.slice sa n sc) kl, .nilIface]) ∧ Ints w' (.slice sa n sc) l ∧ Below W.heap.size W w' := by
  have he : mulE a ka k = 0 := by
    unfold mulE
    rw [hl, hk, allF_ofRng rl, fitO_iff.2 ik]
    rfl
  have hc : mulC a ka k = l := by unfold mulC; rw [if_pos he, hl]
  have hk' : mulK a ka k = kl := by unfold mulK; rw [if_pos he, hk]
  refine (linScale_any W av a ka k ha ra ia ik0 (by omega)).mono ?_
  rintro e w' ⟨cv, f, rfl, hi, hs, hbl⟩
  rw [hc] at hi
  rw [he] at hs
  obtain ⟨sa, sc, rfl⟩ := hi.shape
  have hll : l.length = n := by rw [← hl, mulL_len, hla]
  rw [hk', hs.nilOf rfl]
  rw [hll] at hi ⊢
  exact ⟨sa, sc, rfl, hi, hbl⟩
theorem atOk (W : World) (av xv : Value) (a x : List Int) (ka v : Int) (ha : Ints W av a) (hx : Ints W xv x) (ra : Rng a) (rx : Rng x) (ia : In64 ka) (hla : a.length = x.length) (hn : a.length ≤ 1000) (hv : atP a x ka = some v) :
    Calls Tryd.prog 19 #[formV av ka, xv] W fun e w' => e = .returned (.tuple #[.int .i64 v, .nilIface]) ∧ Below W.heap.size W w' := by
  obtain ⟨h1, h2⟩ := atE_some hla hv
  refine (linAt_any W av xv a x ka ha hx ra rx ia (by omega) (by omega)).mono ?_
  rintro e w' ⟨f, rfl, hs, hbl⟩
  rw [h1] at hs
  rw [h2, hs.nilOf rfl]
  exact ⟨rfl, hbl⟩
theorem sameOk (W : World) (av bv : Value) (a : List Int) (ka : Int) (ha : Ints W av a) (hb : Ints W bv a) (hn : a.length ≤ 1000) :
    Calls Tryd.prog 18 #[formV av ka, formV bv ka] W fun e w' => e = .returned (.bool true) ∧ Below W.heap.size W w' := by
  have h := same_any W av bv a a ka ka ha hb hn hn
  rwa [sameP_refl] at h
/-- a form in a box of two cells -/
structure FB (W : World) (b n : Nat) (sa : Option Addr) (sc : Nat) (l : List Int) (K : Int) : Prop where
  bx : Bx W b (.slice sa n sc) (.int .i64 K)
  ints : Ints W (.slice sa n sc) l
theorem FB.keep {W W' : World} {b n sc : Nat} {sa : Option Addr} {l : List Int} {K : Int} (h : FB W b n sa sc l K) (hb : Below W.heap.size W W') : FB W' b n sa sc l K := ⟨h.bx.keep hb, h.ints.below hb⟩
theorem FB.new {W : World} {n sc : Nat} {sa : Option Addr} {l : List Int} {K : Int} (h : Ints W (.slice sa n sc) l) (t : TypeId) : FB (W.alloc (.cells #[.slice sa n sc, .int .i64 K] t)) W.heap.size n sa sc l K := ⟨Bx.new _ _ _ _, h.below (alloc_below _ _)⟩

/-- all within B of nought -/
def Sm (B : Nat) (l : List Int) : Prop := ∀ y ∈ l, y.natAbs ≤ B
theorem Sm.rng {B : Nat} {l : List Int} (h : Sm B l) (hB : B ≤ 9223372036854775807) : Rng l := fun y hy => by
  have := h y hy
  exact ⟨by omega, by omega⟩
theorem Sm.sum {A B : Nat} : ∀ {a b : List Int}, Sm A a → Sm B b → Sm (A + B) (sumL a b)
  | [], _, _, _ => fun y hy => by simp [sumL] at hy
  | x :: a, [], _, _ => fun y hy => by simp [sumL] at hy
  | x :: a, z :: b, ha, hb => fun y hy => by
    simp only [sumL, List.mem_cons] at hy
    rcases hy with rfl | hy
    · have h1 := ha x (List.mem_cons_self ..)
      have h2 := hb z (List.mem_cons_self ..)
      omega
    · exact Sm.sum (fun y hy => ha y (List.mem_cons_of_mem _ hy)) (fun y hy => hb y (List.mem_cons_of_mem _ hy)) y hy
theorem Sm.mul {A B : Nat} {a : List Int} {k : Int} (ha : Sm A a) (hk : k.natAbs ≤ B) : Sm (A * B) (mulL a k) := fun y hy => by
  obtain ⟨z, hz, rfl⟩ := List.mem_map.1 hy
  rw [Int.natAbs_mul]
  exact Nat.mul_le_mul (ha z hz) hk
/-- what FormRing asks of its numbers -/
structure RingP (C D Y : List Int) (p q k : Int) (S U V X : List Int) (s u v x M N : Int) : Prop where
  hS : sumL C D = S
  hs : p + q = s
  hT : sumL D C = S
  ht : q + p = s
  hU : mulL S k = U
  hu : s * k = u
  hV : mulL C k = V
  hv : p * k = v
  hX : mulL D k = X
  hx : q * k = x
  hZ : sumL V X = U
  hz : v + x = u
  rC : Rng C
  rD : Rng D
  rY : Rng Y
  rS : Rng S
  rU : Rng U
  rV : Rng V
  rX : Rng X
  ip : In64 p
  iq : In64 q
  ik : In64 k
  is : In64 s
  iu : In64 u
  iv : In64 v
  ix : In64 x
  hM : atP C Y p = some M
  hN : atP D Y q = some N
  hO : atP U Y u = some (k * (M + N))
  w1 : IntKind.i64.wrap (M + N) = M + N
  w2 : IntKind.i64.wrap (k * (M + N)) = k * (M + N)
set_option maxHeartbeats 8000000 in
set_option maxRecDepth 100000 in
theorem ring_plain {n : Nat} {C D Y : List Int} {p q k : Int} (hn : n ≤ 6) (hC : C.length = n) (hD : D.length = n) (hY : Y.length = n) (sC : Sm 32768 C) (sD : Sm 32768 D) (sY : Sm 32768 Y) (sp : p.natAbs ≤ 32768) (sq : q.natAbs ≤ 32768) (sk : k.natAbs ≤ 32768) :
    RingP C D Y p q k (sumL C D) (mulL (sumL C D) k) (mulL C k) (mulL D k) (p + q) ((p + q) * k) (p * k) (q * k) (dot C Y + p) (dot D Y + q) := by
  have hSl : (sumL C D).length = n := by rw [sumL_len C D (by omega), hC]
  have sS : Sm 65536 (sumL C D) := fun y hy => by have := sC.sum sD y hy; omega
  have sU : Sm 2147483648 (mulL (sumL C D) k) := fun y hy => by have := sS.mul sk y hy; omega
  have sV : Sm 1073741824 (mulL C k) := fun y hy => by have := sC.mul sk y hy; omega
  have sX : Sm 1073741824 (mulL D k) := fun y hy => by have := sD.mul sk y hy; omega
  have d1 : (dot C Y).natAbs ≤ 6442450944 := by
    have := dot_small 32768 32768 C Y sC sY
    have := Nat.mul_le_mul_right (32768 * 32768) (show C.length ≤ 6 by omega)
    omega
  have d2 : (dot D Y).natAbs ≤ 6442450944 := by
    have := dot_small 32768 32768 D Y sD sY
    have := Nat.mul_le_mul_right (32768 * 32768) (show D.length ≤ 6 by omega)
    omega
  have f1 : (p * k).natAbs ≤ 1073741824 := by
    have := Nat.mul_le_mul sp sk
    rw [Int.natAbs_mul]; omega
  have f2 : (q * k).natAbs ≤ 1073741824 := by
    have := Nat.mul_le_mul sq sk
    rw [Int.natAbs_mul]; omega
  have f3 : ((p + q) * k).natAbs ≤ 2147483648 := by
    have := Nat.mul_le_mul (show (p + q).natAbs ≤ 65536 by omega) sk
    rw [Int.natAbs_mul]; omega
  have f4 : (k * (dot C Y + p + (dot D Y + q))).natAbs ≤ 422214612713472 := by
    have := Nat.mul_le_mul sk (show (dot C Y + p + (dot D Y + q)).natAbs ≤ 12884967424 by omega)
    rw [Int.natAbs_mul]; omega
  have hO : dot (mulL (sumL C D) k) Y + (p + q) * k = k * (dot C Y + p + (dot D Y + q)) := by
    rw [dot_mul, dot_sum C D Y (by omega) (by omega), Int.mul_comm (p + q) k, ← Int.mul_add]
    congr 1
    omega
  have aM : atP C Y p = some (dot C Y + p) := by
    have := Nat.mul_le_mul_right (32768 * 32768) (show C.length ≤ 6 by omega)
    exact atP_dot 32768 32768 C Y p (by omega) sC sY (by omega)
  have aN : atP D Y q = some (dot D Y + q) := by
    have := Nat.mul_le_mul_right (32768 * 32768) (show D.length ≤ 6 by omega)
    exact atP_dot 32768 32768 D Y q (by omega) sD sY (by omega)
  have aO : atP (mulL (sumL C D) k) Y ((p + q) * k) = some (k * (dot C Y + p + (dot D Y + q))) := by
    rw [← hO]
    have hl : (mulL (sumL C D) k).length = Y.length := by rw [mulL_len, hSl, hY]
    have := Nat.mul_le_mul_right (2147483648 * 32768) (show (mulL (sumL C D) k).length ≤ 6 by omega)
    exact atP_dot 2147483648 32768 _ Y _ hl sU sY (by omega)
  have w1 : IntKind.i64.wrap (dot C Y + p + (dot D Y + q)) = dot C Y + p + (dot D Y + q) := by rw [IntKind.wrap_i64]; omega
  have w2 : IntKind.i64.wrap (k * (dot C Y + p + (dot D Y + q))) = k * (dot C Y + p + (dot D Y + q)) := by rw [IntKind.wrap_i64]; omega
  have r1 := sC.rng (by omega)
  have r2 := sD.rng (by omega)
  have r3 := sY.rng (by omega)
  have r4 := sS.rng (by omega)
  have r5 := sU.rng (by omega)
  have r6 := sV.rng (by omega)
  have r7 := sX.rng (by omega)
  have i1 : In64 p := ⟨by omega, by omega⟩
  have i2 : In64 q := ⟨by omega, by omega⟩
  have i3 : In64 k := ⟨by omega, by omega⟩
  have i4 : In64 (p + q) := ⟨by omega, by omega⟩
  have i5 : In64 ((p + q) * k) := ⟨by omega, by omega⟩
  have i6 : In64 (p * k) := ⟨by omega, by omega⟩
  have i7 : In64 (q * k) := ⟨by omega, by omega⟩
  exact ⟨rfl, rfl, sum_comm _ _, Int.add_comm _ _, rfl, rfl, rfl, rfl, rfl, rfl, (mul_sum C D k).symm, (Int.add_mul p q k).symm, r1, r2, r3, r4, r5, r6, r7, i1, i2, i3, i4, i5, i6, i7, aM, aN, aO, w1, w2⟩
end Go.Proofs.YtmbhamnkbpcljaaDoor.Line
