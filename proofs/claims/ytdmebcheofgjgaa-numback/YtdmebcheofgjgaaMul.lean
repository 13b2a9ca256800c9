/- Contracts of the checked product: math/bits.Mul64, num.signed, num.Mul and the reference's. -/
import Derived.Test.YtdmebcheofgjgaaSmall
namespace Go.Proofs.Ytdmebcheofgjgaa.Num
open Go.ChangeShapes Go.WideShapes Go.ChangeAt Go.RowKit Plain
set_option linter.unusedVariables false

theorem maskN (a : Nat) (ha : a < 18446744073709551616) : bits .and .u64 (a : Int) 4294967295 = ((a % 4294967296 : Nat) : Int) := by
  have h := bits_and_u64_nat a 4294967295 ha (by omega)
  rw [Nat.and_two_pow_sub_one_eq_mod a 32] at h
  exact h
theorem divN (a : Nat) : (a : Int) / 4294967296 = ((a / 4294967296 : Nat) : Int) := by omega
theorem wrapN (a : Nat) (ha : a < 18446744073709551616) : IntKind.u64.wrap (a : Int) = (a : Int) := by rw [IntKind.wrap_u64]; omega
theorem wrapM (a : Nat) : IntKind.u64.wrap (a : Int) = ((a % 18446744073709551616 : Nat) : Int) := by rw [IntKind.wrap_u64]; omega

theorem mul64_any (x y : Nat) (hx : x < 18446744073709551616) (hy : y < 18446744073709551616) (w : World) :
    Calls Try.prog 26 #[.int .u64 x, .int .u64 y] w fun e w' => e = .returned (.tuple #[.int .u64 ((x * y / 18446744073709551616 : Nat) : Int), .int .u64 ((x * y % 18446744073709551616 : Nat) : Int)]) ∧ w' = w := by
  obtain ⟨bd, bt, bw, hhi⟩ := Lib.mul64_hi x y hx hy
  have ba := Lib.half_mul_le (a := x / 4294967296) (b := y / 4294967296) (by omega) (by omega)
  have bb := Lib.half_mul_le (a := x / 4294967296) (b := y % 4294967296) (by omega) (by omega)
  have bc := Lib.half_mul_le (a := x % 4294967296) (b := y / 4294967296) (by omega) (by omega)
  have ba' : x / 4294967296 * (y / 4294967296) < 18446744073709551616 := by omega
  have bb' : x / 4294967296 * (y % 4294967296) < 18446744073709551616 := by omega
  have bc' : x % 4294967296 * (y / 4294967296) < 18446744073709551616 := by omega
  have bh1 : x / 4294967296 * (y / 4294967296) + (x / 4294967296 * (y % 4294967296) + x % 4294967296 * (y % 4294967296) / 4294967296) / 4294967296 < 18446744073709551616 := by omega
  have bh : x / 4294967296 * (y / 4294967296) + (x / 4294967296 * (y % 4294967296) + x % 4294967296 * (y % 4294967296) / 4294967296) / 4294967296 + ((x / 4294967296 * (y % 4294967296) + x % 4294967296 * (y % 4294967296) / 4294967296) % 4294967296 + x % 4294967296 * (y / 4294967296)) / 4294967296 < 18446744073709551616 := by omega
  go_enter Try.func26, Try.ntmps26
  go_wp2
  simp only [maskN x hx, maskN y hy, divN, ← Int.natCast_mul, ← Int.natCast_add, wrapN _ bd, wrapN _ bb', wrapN _ bt, maskN _ bt, wrapN _ bc', wrapN _ bw, wrapN _ ba', wrapN _ bh1, wrapN _ bh, wrapM (x * y)]
  rw [hhi]
  go_ret2
  exact ⟨rfl, rfl⟩

theorem signed_any (n : Int) (b : Bool) (w : World) (h1 : 0 ≤ n) (h2 : n ≤ 18446744073709551615) :
    Calls Try.prog 28 #[.int .u64 n, .bool b] w fun e w' => e = .returned (.tuple #[.int .i64 (fitV (if b = true then -n else n)), .bool (fitO (if b = true then -n else n))]) ∧ w' = w := by
  cases b
  · simp only [Bool.false_eq_true, if_false]
    go_enter Try.func28, Try.ntmps28
    go_wp2
    all_goals go_ret2
    all_goals first
      | exact ⟨ret_two (fitV_out (by omega)).symm (fitO_out (by omega)).symm, rfl⟩
      | exact ⟨ret_two (fitV_in (by omega) (by omega)).symm (fitO_in (by omega) (by omega)).symm, rfl⟩
  · simp only [if_true]
    go_enter Try.func28, Try.ntmps28
    go_wp2
    all_goals go_ret2
    all_goals first
      | exact ⟨ret_two (fitV_out (by omega)).symm (fitO_out (by omega)).symm, rfl⟩
      | exact ⟨ret_two ((by rw [IntKind.wrap_u64]; unfold wrap64; omega : _ = -n).trans (fitV_in (by omega) (by omega)).symm) (fitO_in (by omega) (by omega)).symm, rfl⟩

theorem prod_same {a b : Int} (h : a < 0 ↔ b < 0) : a * b = ↑a.natAbs * ↑b.natAbs := by
  by_cases ha : a < 0
  · have hb := h.1 ha
    rw [show (a.natAbs : Int) = -a by omega, show (b.natAbs : Int) = -b by omega, Int.neg_mul_neg]
  · have hb := fun g => ha (h.2 g)
    rw [show (a.natAbs : Int) = a by omega, show (b.natAbs : Int) = b by omega]
theorem prod_diff {a b : Int} (h : ¬ (a < 0 ↔ b < 0)) : a * b = -(↑a.natAbs * ↑b.natAbs) := by
  by_cases ha : a < 0
  · rw [show (a.natAbs : Int) = -a by omega, show (b.natAbs : Int) = b by omega, Int.neg_mul, Int.neg_neg]
  · rw [show (a.natAbs : Int) = a by omega, show (b.natAbs : Int) = -b by omega, Int.mul_neg, Int.neg_neg]
theorem prod_nonneg (a b : Int) : 0 ≤ (a.natAbs : Int) * (b.natAbs : Int) := Int.mul_nonneg (by omega) (by omega)
theorem prod_great {a b : Int} (h : ((a.natAbs : Int) * (b.natAbs : Int) / 18446744073709551616 != 0) = true) : a * b < -9223372036854775808 ∨ 9223372036854775807 < a * b := by
  have := prod_nonneg a b
  have h : ¬ ((a.natAbs : Int) * (b.natAbs : Int) / 18446744073709551616 = 0) := by simpa using h
  by_cases g : a < 0 ↔ b < 0
  · rw [prod_same g]; omega
  · rw [prod_diff g]; omega
theorem prod_small {a b : Int} (h : ((a.natAbs : Int) * (b.natAbs : Int) / 18446744073709551616 != 0) = false) : (a.natAbs : Int) * (b.natAbs : Int) % 18446744073709551616 = (a.natAbs : Int) * (b.natAbs : Int) := by
  have := prod_nonneg a b
  have h : ((a.natAbs : Int) * (b.natAbs : Int) / 18446744073709551616 = 0) := by simpa using h
  omega

theorem mul_any (a b : Int) (w : World) (h1 : -9223372036854775808 ≤ a) (h2 : a ≤ 9223372036854775807) (h3 : -9223372036854775808 ≤ b) (h4 : b ≤ 9223372036854775807) :
    Calls Try.prog 12 #[.int .i64 a, .int .i64 b] w fun e w' => e = .returned (.tuple #[.int .i64 (fitV (a * b)), .bool (fitO (a * b))]) ∧ w' = w := by
  go_enter Try.func12, Try.ntmps12
  go_wp2_with (first
    | (go_at_call 27; refine (size_any _ _ (by assumption) (by assumption)).mono ?_; rintro e w' ⟨rfl, rfl⟩)
    | (go_at_call 26; refine (mul64_any _ _ (by omega) (by omega) _).mono ?_; rintro e w' ⟨rfl, rfl⟩)
    | (go_at_call 28; refine (signed_any _ _ _ (by omega) (by omega)).mono ?_; rintro e w' ⟨rfl, rfl⟩))
  all_goals go_ret2
  · exact ⟨ret_two (fitV_out (prod_great ‹_›)).symm (fitO_out (prod_great ‹_›)).symm, rfl⟩
  · have e : (a.natAbs : Int) * (b.natAbs : Int) % 18446744073709551616 = a * b := (prod_small ‹_›).trans (prod_same ‹_›).symm
    exact ⟨ret_two (by rw [e]) (by rw [e]), rfl⟩
  · have e : -((a.natAbs : Int) * (b.natAbs : Int) % 18446744073709551616) = a * b := by rw [prod_small ‹_›]; exact (prod_diff ‹_›).symm
    exact ⟨ret_two (by rw [e]) (by rw [e]), rfl⟩

theorem refMul_any (a b : Int) (w : World) (h1 : -9223372036854775808 ≤ a) (h2 : a ≤ 9223372036854775807) (h3 : -9223372036854775808 ≤ b) (h4 : b ≤ 9223372036854775807) :
    Calls Try.prog 17 #[.int .i64 a, .int .i64 b] w fun e w' => e = .returned (.tuple #[.int .i64 (fitV (a * b)), .bool (fitO (a * b))]) ∧ w' = w := by
  by_cases ha : a = 0
  · subst ha
    rw [Int.zero_mul]
    go_enter Try.func17, Try.ntmps17
    go_wp2
    go_ret2
    exact ⟨ret_two (fitV_in (by omega) (by omega)).symm (fitO_in (by omega) (by omega)).symm, rfl⟩
  by_cases hb : b = 0
  · subst hb
    rw [Int.mul_zero]
    go_enter Try.func17, Try.ntmps17
    go_wp2
    all_goals go_ret2
    all_goals exact ⟨ret_two (fitV_in (by omega) (by omega)).symm (fitO_in (by omega) (by omega)).symm, rfl⟩
  by_cases hm : b = -1
  · subst hm
    rw [Int.mul_neg_one]
    cases hl : (a == -9223372036854775808)
    · have hl' : ¬ a = -9223372036854775808 := by simpa using hl
      go_enter Try.func17, Try.ntmps17
      go_wp2
      all_goals go_ret2
      · exact ⟨ret_two (Eq.trans (by omega) (fitV_in (x := -a) (by omega) (by omega)).symm) (fitO_in (by omega) (by omega)).symm, rfl⟩
      · exact ⟨ret_two (fitV_in (by omega) (by omega)).symm (fitO_in (by omega) (by omega)).symm, rfl⟩
    · have hl' : a = -9223372036854775808 := by simpa using hl
      subst hl'
      go_enter Try.func17, Try.ntmps17
      go_wp2
      all_goals go_ret2
      all_goals exact ⟨ret_two (fitV_out (by omega)).symm (fitO_out (by omega)).symm, rfl⟩
  by_cases hn : a = -1 ∧ b = -9223372036854775808
  · obtain ⟨rfl, rfl⟩ := hn
    go_enter Try.func17, Try.ntmps17
    go_wp2
    all_goals go_ret2
    all_goals exact ⟨ret_two (fitV_out (by omega)).symm (fitO_out (by omega)).symm, rfl⟩
  have hz := mul_round a b h1 h2 h3 h4 hb hm
  have HZ : Hid ((-9223372036854775808 ≤ a * b ∧ a * b ≤ 9223372036854775807) ↔ wrap64 ((wrap64 (a * b)).tdiv b) = a) := hz
  clear hz
  have hb' : (b == 0) = false := by simpa using hb
  have hm' : (b == -1) = false := by simpa using hm
  cases hc : (a == -1)
  · clear hn
    go_enter Try.func17, Try.ntmps17
    go_wp2
    all_goals go_ret2
    · have g : ¬ wrap64 ((wrap64 (a * b)).tdiv b) = a := by simpa using ‹(wrap64 ((wrap64 (a * b)).tdiv b) != a) = true›
      have g : ¬ (-9223372036854775808 ≤ a * b ∧ a * b ≤ 9223372036854775807) := fun x => g (HZ.out.1 x)
      exact ⟨ret_two (fitV_out (by omega)).symm (fitO_out (by omega)).symm, rfl⟩
    · have g : wrap64 ((wrap64 (a * b)).tdiv b) = a := by simpa using ‹(wrap64 ((wrap64 (a * b)).tdiv b) != a) = false›
      have g := HZ.out.2 g
      exact ⟨ret_two ((wrap64_self _ g.1 g.2).trans (fitV_in g.1 g.2).symm) (fitO_in g.1 g.2).symm, rfl⟩
  · have hl : (b == -9223372036854775808) = false := by simp at *; omega
    clear hn
    go_enter Try.func17, Try.ntmps17
    go_wp2
    all_goals go_ret2
    · have g : ¬ wrap64 ((wrap64 (a * b)).tdiv b) = a := by simpa using ‹(wrap64 ((wrap64 (a * b)).tdiv b) != a) = true›
      have g : ¬ (-9223372036854775808 ≤ a * b ∧ a * b ≤ 9223372036854775807) := fun x => g (HZ.out.1 x)
      exact ⟨ret_two (fitV_out (by omega)).symm (fitO_out (by omega)).symm, rfl⟩
    · have g : wrap64 ((wrap64 (a * b)).tdiv b) = a := by simpa using ‹(wrap64 ((wrap64 (a * b)).tdiv b) != a) = false›
      have g := HZ.out.2 g
      exact ⟨ret_two ((wrap64_self _ g.1 g.2).trans (fitV_in g.1 g.2).symm) (fitO_in g.1 g.2).symm, rfl⟩
end Go.Proofs.Ytdmebcheofgjgaa.Num
