/- FormEnds, walked. -/
import Derived.Test.YtmbhamnkbpcljaaDoorLnKn
namespace Go.Proofs.YtmbhamnkbpcljaaDoor.Line
open Go.ChangeShapes Go.WideShapes Go.ChangeAt Go.RowKit
set_option linter.unusedVariables false

theorem abs_mul {a b : Int} {A B : Nat} (ha : a.natAbs ≤ A) (hb : b.natAbs ≤ B) : (a * b).natAbs ≤ A * B := by
  rw [Int.natAbs_mul]; exact Nat.mul_le_mul ha hb
theorem lit1 (w : World) (a : Int) : Ints (w.alloc (.cells #[.int .i64 a] 2)) (.slice (some ⟨w.heap.size, 0, none⟩) 1 1) [a] := by
  refine ⟨_, 1, rfl, Nat.le_refl _, by decide, .inr ⟨w.heap.size, 0, rfl, fun i hi => ?_⟩⟩
  have : i = 0 := by simp at hi; omega
  subst this
  simp
theorem rng1 {a : Int} (ha : In64 a) : Rng [a] := by
  intro x hx
  rw [List.mem_singleton.1 hx]
  exact ha
theorem atP_one {c x k : Int} (h1 : In64 (c * x)) (h2 : In64 (c * x + k)) : atP [c] [x] k = some (c * x + k) := by
  unfold atP
  rw [atGo]
  rw [Int.zero_add, fitO_iff.2 h1]
  simp only [Bool.and_self, if_true, atGo, Option.bind_some, fitO_iff.2 h2]
theorem ends_plain {c k a b : Int} (hc : -32768 ≤ c ∧ c ≤ 32767) (hk : -2147483648 ≤ k ∧ k ≤ 2147483647) (ha : -32768 ≤ a ∧ a ≤ 32767) (hb : a ≤ b ∧ b ≤ 98302) :
    (atE [c] [a] k = 0 ∧ atV [c] [a] k = c * a + k) ∧ (atE [c] [b] k = 0 ∧ atV [c] [b] k = c * b + k) ∧ (rngE [c] [b + 1] [a] k = 1 ∧ rngV [c] [b + 1] [a] k = (0, 0)) ∧ rngE [c] [a] [b] k = 0 ∧ (c * a + k < c * b + k → rngV [c] [a] [b] k = (c * a + k, c * b + k)) ∧ (¬ c * a + k < c * b + k → rngV [c] [a] [b] k = (c * b + k, c * a + k)) := by
  have h1 : (c * a).natAbs ≤ 32768 * 98302 := abs_mul (by omega) (by omega)
  have h2 : (c * b).natAbs ≤ 32768 * 98302 := abs_mul (by omega) (by omega)
  have pa := atP_one (c := c) (x := a) (k := k) (by unfold In64; omega) (by unfold In64; omega)
  have pb := atP_one (c := c) (x := b) (k := k) (by unfold In64; omega) (by unfold In64; omega)
  have hbox : boxP 1 [a] [b] = true := boxP_in rfl rfl (fun i hi => by
    have : i = 0 := by omega
    subst this
    exact hb.1)
  have hnb : boxP 1 [b + 1] [a] = false := boxP_out (n := 1) 0 (by decide) (by show ¬ b + 1 ≤ a; omega)
  refine ⟨atE_some rfl pa, atE_some rfl pb, rngE_box (c := [c]) hnb, ?_⟩
  by_cases hn : c < 0
  · have hle : c * b ≤ c * a := Int.mul_le_mul_of_nonpos_left (by omega) hb.1
    have e1 : lowL [c] [a] [b] = [b] := by simp [lowL, hn]
    have e2 : lowL [c] [b] [a] = [a] := by simp [lowL, hn]
    have hr := rngE_some (c := [c]) (lo := [a]) (hi := [b]) (k := k) (u := c * b + k) (v := c * a + k) hbox (by rw [e1]; exact pb) (by rw [e2]; exact pa)
    exact ⟨hr.1, fun h => by omega, fun _ => hr.2⟩
  · have hle : c * a ≤ c * b := Int.mul_le_mul_of_nonneg_left hb.1 (by omega)
    have e1 : lowL [c] [a] [b] = [a] := by simp [lowL, hn]
    have e2 : lowL [c] [b] [a] = [b] := by simp [lowL, hn]
    have hr := rngE_some (c := [c]) (lo := [a]) (hi := [b]) (k := k) (u := c * a + k) (v := c * b + k) hbox (by rw [e1]; exact pa) (by rw [e2]; exact pb)
    refine ⟨hr.1, fun _ => hr.2, fun h => ?_⟩
    have : c * a = c * b := by omega
    rw [hr.2, this]
set_option maxHeartbeats 16000000 in
set_option maxRecDepth 100000 in
theorem formEnds_walk (c k lo n : Int) (w : World) (hG : Glob w) (hT : Tab w) (hc : -32768 ≤ c ∧ c ≤ 32767) (hk : -2147483648 ≤ k ∧ k ≤ 2147483647) (ha : -32768 ≤ lo ∧ lo ≤ 32767) (hn : 0 ≤ n ∧ n ≤ 65535) :
    Calls Tryd.prog 8 #[.int .i16 c, .int .i32 k, .int .i16 lo, .int .u16 n] w fun e w' => e = .returned (.bool true) ∧ Below w.heap.size w w' := by
  obtain ⟨⟨pa1, pa2⟩, ⟨pb1, pb2⟩, pn, pr, pv1, pv2⟩ := ends_plain (b := lo + n) hc hk ha (by omega)
  have h1 : (c * lo).natAbs ≤ 32768 * 98302 := abs_mul (by omega) (by omega)
  have h2 : (c * (lo + n)).natAbs ≤ 32768 * 98302 := abs_mul (by omega) (by omega)
  obtain ⟨P, Q, hpq⟩ : ∃ P Q, rngV [c] [lo] [lo + n] k = (P, Q) := ⟨(rngV [c] [lo] [lo + n] k).1, (rngV [c] [lo] [lo + n] k).2, rfl⟩
  rw [hpq] at pv1 pv2
  have hp1 : c * lo + k < c * (lo + n) + k → P = c * lo + k ∧ Q = c * (lo + n) + k := fun h => by
    have := pv1 h
    injection this with e1 e2
    exact ⟨e1, e2⟩
  have hp2 : ¬ c * lo + k < c * (lo + n) + k → P = c * (lo + n) + k ∧ Q = c * lo + k := fun h => by
    have := pv2 h
    injection this with e1 e2
    exact ⟨e1, e2⟩
  have HKN := hide (known_any w hG hT)
  have HPA := hide (And.intro pa1 pa2)
  have HPB := hide (And.intro pb1 pb2)
  have HPN := hide pn
  have HPR := hide (And.intro pr hpq)
  clear pa1 pa2 pb1 pb2 pn pr pv1 pv2 hpq
  go_enter Tryd.func8, Tryd.ntmps8
  go_wp2_with fail
  refine (unhide HKN).mono ?_
  rintro ev w1 ⟨rfl, hb1⟩
  have HB1 := hide hb1
  clear hb1 HKN
  have hb2 := bthen (unhide HB1) (bthen (alloc_below w1 (Obj.cells #[Value.int .i64 (c)] 2)) (alloc_below _ (.cells #[.slice (some ⟨w1.heap.size, 0, none⟩) 1 1, .int .i64 k] FmT)))
  have hx2 := Bx.new (w1.alloc (Obj.cells #[Value.int .i64 (c)] 2)) (.slice (some ⟨w1.heap.size, 0, none⟩) 1 1) (.int .i64 k) FmT
  rw [size_ac] at hx2
  have HK := hide (And.intro hb2 (And.intro hx2 ((lit1 w1 c).below (alloc_below _ (.cells #[.slice (some ⟨w1.heap.size, 0, none⟩) 1 1, .int .i64 k] FmT)))))
  clear hb2 hx2 HB1
  have ic : In64 c := ⟨by omega, by omega⟩
  have ik : In64 k := ⟨by omega, by omega⟩
  have il : In64 lo := ⟨by omega, by omega⟩
  have in1 : In64 (lo + n) := ⟨by omega, by omega⟩
  have in2 : In64 (lo + n + 1) := ⟨by omega, by omega⟩
  have HIN := hide (And.intro (rng1 ic) (And.intro ik (And.intro (rng1 il) (And.intro (rng1 in1) (rng1 in2)))))
  clear ic ik il in1 in2
  go_upto_region 6 with fail
  generalize (w1.alloc (Obj.cells #[Value.int .i64 (c)] 2)).alloc (.cells #[.slice (some ⟨w1.heap.size, 0, none⟩) 1 1, .int .i64 k] FmT) = W2 at *
  generalize hfb : w1.heap.size + 1 = fb at *
  generalize hqf : w1.heap.size = qf at *
  clear hfb hqf
  obtain ⟨c0, c1, c2, c3, c4⟩ := (unhide HK).2.1
  have hl2 := lit1 (W2.alloc (Obj.cells #[Value.int .i64 (lo)] 2)) (lo + n)
  rw [size_ac] at hl2
  have HR := hide (linRange_any ((W2.alloc (Obj.cells #[Value.int .i64 (lo)] 2)).alloc (Obj.cells #[Value.int .i64 (lo + n)] 2)) (.slice (some ⟨qf, 0, none⟩) 1 1) (.slice (some ⟨W2.heap.size, 0, none⟩) 1 1) (.slice (some ⟨W2.heap.size + 1, 0, none⟩) 1 1) [c] [lo] [lo + n] k (((unhide HK).2.2.below (alloc_below _ _)).below (alloc_below _ _)) ((lit1 W2 (lo)).below (alloc_below _ _)) hl2 (unhide HIN).1 ((unhide HIN).2.2.1) ((unhide HIN).2.2.2.1) (unhide HIN).2.1 (by simp) (by simp) (by simp))
  have HB2 := hide (bthen (alloc_below W2 (Obj.cells #[Value.int .i64 (lo)] 2)) (alloc_below _ (Obj.cells #[Value.int .i64 (lo + n)] 2)))
  clear hl2
  rw [(unhide HPR).1, (unhide HPR).2] at HR
  go_upto_region 7 with (go_at_call 21; refine (unhide HR).mono ?_; rintro ev w3 ⟨f1, rfl, hs1, hb3⟩; obtain rfl := says_zero hs1)
  clear hs1
  have HK2 : Hid (Below w.heap.size w w3 ∧ Bx w3 fb (.slice (some ⟨qf, 0, none⟩) 1 1) (.int .i64 k) ∧ Ints w3 (.slice (some ⟨qf, 0, none⟩) 1 1) [c]) := hide ⟨bthen (unhide HK).1 (bthen (unhide HB2) hb3), (unhide HK).2.1.keep (bthen (unhide HB2) hb3), (unhide HK).2.2.below (bthen (unhide HB2) hb3)⟩
  clear c0 c1 c2 c3 c4 hb3 HB2 HK HR
  have HK := HK2
  clear HK2
  obtain ⟨c0, c1, c2, c3, c4⟩ := (unhide HK).2.1
  have HR := hide (linAt_any (w3.alloc (Obj.cells #[Value.int .i64 (lo)] 2)) (.slice (some ⟨qf, 0, none⟩) 1 1) (.slice (some ⟨w3.heap.size, 0, none⟩) 1 1) [c] [lo] k ((unhide HK).2.2.below (alloc_below _ _)) (lit1 w3 (lo)) (unhide HIN).1 ((unhide HIN).2.2.1) (unhide HIN).2.1 (by simp) (by simp))
  rw [(unhide HPA).1, (unhide HPA).2] at HR
  have HB2 := hide (alloc_below w3 (Obj.cells #[Value.int .i64 (lo)] 2))
  go_upto_region 8 with (go_at_call 19; refine (unhide HR).mono ?_; rintro ev w4 ⟨f1, rfl, hs1, hb3⟩; obtain rfl := says_zero hs1)
  clear hs1
  have HK2 : Hid (Below w.heap.size w w4 ∧ Bx w4 fb (.slice (some ⟨qf, 0, none⟩) 1 1) (.int .i64 k) ∧ Ints w4 (.slice (some ⟨qf, 0, none⟩) 1 1) [c]) := hide ⟨bthen (unhide HK).1 (bthen (unhide HB2) hb3), (unhide HK).2.1.keep (bthen (unhide HB2) hb3), (unhide HK).2.2.below (bthen (unhide HB2) hb3)⟩
  clear c0 c1 c2 c3 c4 hb3 HB2 HK HR
  have HK := HK2
  clear HK2
  obtain ⟨c0, c1, c2, c3, c4⟩ := (unhide HK).2.1
  have HR := hide (linAt_any (w4.alloc (Obj.cells #[Value.int .i64 (lo + n)] 2)) (.slice (some ⟨qf, 0, none⟩) 1 1) (.slice (some ⟨w4.heap.size, 0, none⟩) 1 1) [c] [lo + n] k ((unhide HK).2.2.below (alloc_below _ _)) (lit1 w4 (lo + n)) (unhide HIN).1 ((unhide HIN).2.2.2.1) (unhide HIN).2.1 (by simp) (by simp))
  rw [(unhide HPB).1, (unhide HPB).2] at HR
  have HB2 := hide (alloc_below w4 (Obj.cells #[Value.int .i64 (lo + n)] 2))
  go_upto_region 9 with (go_at_call 19; refine (unhide HR).mono ?_; rintro ev w5 ⟨f1, rfl, hs1, hb3⟩; obtain rfl := says_zero hs1)
  clear hs1
  have HK2 : Hid (Below w.heap.size w w5 ∧ Bx w5 fb (.slice (some ⟨qf, 0, none⟩) 1 1) (.int .i64 k) ∧ Ints w5 (.slice (some ⟨qf, 0, none⟩) 1 1) [c]) := hide ⟨bthen (unhide HK).1 (bthen (unhide HB2) hb3), (unhide HK).2.1.keep (bthen (unhide HB2) hb3), (unhide HK).2.2.below (bthen (unhide HB2) hb3)⟩
  clear c0 c1 c2 c3 c4 hb3 HB2 HK HR
  have HK := HK2
  clear HK2
  obtain ⟨c0, c1, c2, c3, c4⟩ := (unhide HK).2.1
  have hl2 := lit1 (w5.alloc (Obj.cells #[Value.int .i64 (lo + n + 1)] 2)) (lo)
  rw [size_ac] at hl2
  have HR := hide (linRange_any ((w5.alloc (Obj.cells #[Value.int .i64 (lo + n + 1)] 2)).alloc (Obj.cells #[Value.int .i64 (lo)] 2)) (.slice (some ⟨qf, 0, none⟩) 1 1) (.slice (some ⟨w5.heap.size, 0, none⟩) 1 1) (.slice (some ⟨w5.heap.size + 1, 0, none⟩) 1 1) [c] [lo + n + 1] [lo] k (((unhide HK).2.2.below (alloc_below _ _)).below (alloc_below _ _)) ((lit1 w5 (lo + n + 1)).below (alloc_below _ _)) hl2 (unhide HIN).1 ((unhide HIN).2.2.2.2) ((unhide HIN).2.2.1) (unhide HIN).2.1 (by simp) (by simp) (by simp))
  have HB2 := hide (bthen (alloc_below w5 (Obj.cells #[Value.int .i64 (lo + n + 1)] 2)) (alloc_below _ (Obj.cells #[Value.int .i64 (lo)] 2)))
  clear hl2
  rw [(unhide HPN).1, (unhide HPN).2] at HR
  go_upto_region 10 with (go_at_call 21; refine (unhide HR).mono ?_; rintro ev w6 ⟨f1, rfl, hs1, hb3⟩; obtain ⟨-, bf, -, rfl, -⟩ : 1 ≠ 0 ∧ ∃ b, _ ≤ b ∧ f1 = .iface 80 (.pointer (some ⟨b, 0, none⟩)) ∧ True := by (rcases hs1 with ⟨h, _⟩ | ⟨h, b, h1, h2, _⟩; exact absurd h (by decide); exact ⟨h, b, h1, h2, trivial⟩))
  clear hs1
  have HK2 : Hid (Below w.heap.size w w6 ∧ Bx w6 fb (.slice (some ⟨qf, 0, none⟩) 1 1) (.int .i64 k) ∧ Ints w6 (.slice (some ⟨qf, 0, none⟩) 1 1) [c]) := hide ⟨bthen (unhide HK).1 (bthen (unhide HB2) hb3), (unhide HK).2.1.keep (bthen (unhide HB2) hb3), (unhide HK).2.2.below (bthen (unhide HB2) hb3)⟩
  clear c0 c1 c2 c3 c4 hb3 HB2 HK HR
  have HK := HK2
  clear HK2
  have HB := hide (unhide HK).1
  clear HK
  have hp2' : c * (lo + n) + k ≤ c * lo + k → P = c * (lo + n) + k ∧ Q = c * lo + k := fun h => hp2 (by omega)
  have hq1 : -9223372036854775808 ≤ c * lo ∧ c * lo ≤ 9223372036854775807 := by omega
  have hq2 : -9223372036854775808 ≤ c * lo + k ∧ c * lo + k ≤ 9223372036854775807 := by omega
  have HQ := hide (And.intro hq1 hq2)
  clear h1 h2 hp2 hn hq1 hq2
  obtain ⟨U, hU⟩ : ∃ U, U = c * lo + k := ⟨_, rfl⟩
  obtain ⟨V, hV⟩ : ∃ V, V = c * (lo + n) + k := ⟨_, rfl⟩
  rw [← hU, ← hV] at hp1 hp2' ⊢
  have HU := hide hU
  clear hU hV
  obtain ⟨⟨q1, q2⟩, q3, q4⟩ := unhide HQ
  have w1 : IntKind.i64.wrap (c * lo) = c * lo := by rw [IntKind.wrap_i64]; omega
  have w2 : IntKind.i64.wrap (c * lo + k) = U := by rw [IntKind.wrap_i64, unhide HU]; omega
  by_cases hlt : U < V
  · have hmn : min U V = U := by omega
    have hmx : max U V = V := by omega
    obtain ⟨rfl, rfl⟩ := hp1 hlt
    clear hp1 hp2' hlt
    go_wp2_with fail
    go_ret
    exact ⟨rfl, unhide HB⟩
  · have hmn : min U V = V := by omega
    have hmx : max U V = U := by omega
    obtain ⟨rfl, rfl⟩ := hp2' (by omega)
    clear hp1 hp2' hlt
    go_wp2_with fail
    all_goals (go_ret)
    all_goals exact ⟨rfl, unhide HB⟩
end Go.Proofs.YtmbhamnkbpcljaaDoor.Line
