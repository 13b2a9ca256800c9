/- Contracts of the checked sum and product: num.Add, num.Mul and what they call. -/
import Derived.Lib.Mul64
import Derived.Laws.Bits64b
import Derived.IntWalk
import Derived.WalkLawsBesides
import Derived.Test.YtmbhamnkbpcljaaDoorBaseAll
namespace Go.Proofs.YtmbhamnkbpcljaaDoor.Line
open Go.ChangeShapes Go.WideShapes Go.ChangeAt Go.RowKit
set_option linter.unusedVariables false

/-- What a checked operation answers for the whole number x: x itself where 64 bits hold it, else 0. -/
def fitV (x : Int) : Int := if -9223372036854775808 ≤ x ∧ x ≤ 9223372036854775807 then x else 0
/-- Whether 64 bits hold x. -/
def fitO (x : Int) : Bool := decide (-9223372036854775808 ≤ x ∧ x ≤ 9223372036854775807)
theorem fitV_in {x : Int} (h : -9223372036854775808 ≤ x) (g : x ≤ 9223372036854775807) : fitV x = x := by
  unfold fitV; rw [if_pos ⟨h, g⟩]
theorem fitO_in {x : Int} (h : -9223372036854775808 ≤ x) (g : x ≤ 9223372036854775807) : fitO x = true := by
  unfold fitO; exact decide_eq_true ⟨h, g⟩
theorem fitV_out {x : Int} (h : x < -9223372036854775808 ∨ 9223372036854775807 < x) : fitV x = 0 := by
  unfold fitV; rw [if_neg (by omega)]
theorem fitO_out {x : Int} (h : x < -9223372036854775808 ∨ 9223372036854775807 < x) : fitO x = false := by
  unfold fitO; exact decide_eq_false (by omega)
theorem ret_two {k : IntKind} {a b : Int} {c d : Bool} (h : a = b) (g : c = d) :
    Ending.returned (.tuple #[.int k a, .bool c]) = .returned (.tuple #[.int k b, .bool d]) := by rw [h, g]

/- quotients -/
theorem size_any (a : Int) (w : World) (h1 : -9223372036854775808 ≤ a) (h2 : a ≤ 9223372036854775807) :
    Calls Tryd.prog 62 #[.int .i64 a] w fun e w' => e = .returned (.int .u64 (a.natAbs : Int)) ∧ w' = w := by
  go_enter Tryd.func62, Tryd.ntmps62
  go_wp2
  all_goals go_ret
  · exact ⟨ret_int (by rw [IntKind.wrap_u64, IntKind.wrap_u64]; omega), rfl⟩
  · exact ⟨ret_int (by omega), rfl⟩
theorem add_any (a b : Int) (w : World) (h1 : -9223372036854775808 ≤ a) (h2 : a ≤ 9223372036854775807) (h3 : -9223372036854775808 ≤ b) (h4 : b ≤ 9223372036854775807) :
    Calls Tryd.prog 51 #[.int .i64 a, .int .i64 b] w fun e w' => e = .returned (.tuple #[.int .i64 (fitV (a + b)), .bool (fitO (a + b))]) ∧ w' = w := by
  go_enter Tryd.func51, Tryd.ntmps51
  go_wp2
  all_goals go_ret2
  all_goals first
    | exact ⟨ret_two (fitV_out (by omega)).symm (fitO_out (by omega)).symm, rfl⟩
    | exact ⟨ret_two (fitV_in (by omega) (by omega)).symm (fitO_in (by omega) (by omega)).symm, rfl⟩
theorem maskN (a : Nat) (ha : a < 18446744073709551616) : bits .and .u64 (a : Int) 4294967295 = ((a % 4294967296 : Nat) : Int) := by
  have h := bits_and_u64_nat a 4294967295 ha (by omega)
  rw [Nat.and_two_pow_sub_one_eq_mod a 32] at h
  exact h
theorem divN (a : Nat) : (a : Int) / 4294967296 = ((a / 4294967296 : Nat) : Int) := by omega
theorem wrapN (a : Nat) (ha : a < 18446744073709551616) : IntKind.u64.wrap (a : Int) = (a : Int) := by rw [IntKind.wrap_u64]; omega
theorem wrapM (a : Nat) : IntKind.u64.wrap (a : Int) = ((a % 18446744073709551616 : Nat) : Int) := by rw [IntKind.wrap_u64]; omega
theorem mul64_any (x y : Nat) (hx : x < 18446744073709551616) (hy : y < 18446744073709551616) (w : World) :
    Calls Tryd.prog 61 #[.int .u64 x, .int .u64 y] w fun e w' => e = .returned (.tuple #[.int .u64 ((x * y / 18446744073709551616 : Nat) : Int), .int .u64 ((x * y % 18446744073709551616 : Nat) : Int)]) ∧ w' = w := by
  obtain ⟨bd, bt, bw, hhi⟩ := Lib.mul64_hi x y hx hy
  have ba := Lib.half_mul_le (a := x / 4294967296) (b := y / 4294967296) (by omega) (by omega)
  have bb := Lib.half_mul_le (a := x / 4294967296) (b := y % 4294967296) (by omega) (by omega)
  have bc := Lib.half_mul_le (a := x % 4294967296) (b := y / 4294967296) (by omega) (by omega)
  have ba' : x / 4294967296 * (y / 4294967296) < 18446744073709551616 := by omega
  have bb' : x / 4294967296 * (y % 4294967296) < 18446744073709551616 := by omega
  have bc' : x % 4294967296 * (y / 4294967296) < 18446744073709551616 := by omega
  have bh1 : x / 4294967296 * (y / 4294967296) + (x / 4294967296 * (y % 4294967296) + x % 4294967296 * (y % 4294967296) / 4294967296) / 4294967296 < 18446744073709551616 := by omega
  have bh : x / 4294967296 * (y / 4294967296) + (x / 4294967296 * (y % 4294967296) + x % 4294967296 * (y % 4294967296) / 4294967296) / 4294967296 + ((x / 4294967296 * (y % 4294967296) + x % 4294967296 * (y % 4294967296) / 4294967296) % 4294967296 + x % 4294967296 * (y / 4294967296)) / 4294967296 < 18446744073709551616 := by omega
  go_enter Tryd.func61, Tryd.ntmps61
  go_wp2
  simp only [maskN x hx, maskN y hy, divN, ← Int.natCast_mul, ← Int.natCast_add, wrapN _ bd, wrapN _ bb', wrapN _ bt, maskN _ bt, wrapN _ bc', wrapN _ bw, wrapN _ ba', wrapN _ bh1, wrapN _ bh, wrapM (x * y)]
  rw [hhi]
  go_ret2
  exact ⟨rfl, rfl⟩
theorem signed_any (n : Int) (b : Bool) (w : World) (h1 : 0 ≤ n) (h2 : n ≤ 18446744073709551615) :
    Calls Tryd.prog 63 #[.int .u64 n, .bool b] w fun e w' => e = .returned (.tuple #[.int .i64 (fitV (if b = true then -n else n)), .bool (fitO (if b = true then -n else n))]) ∧ w' = w := by
  cases b
  · simp only [Bool.false_eq_true, if_false]
    go_enter Tryd.func63, Tryd.ntmps63
    go_wp2
    all_goals go_ret2
    all_goals first
      | exact ⟨ret_two (fitV_out (by omega)).symm (fitO_out (by omega)).symm, rfl⟩
      | exact ⟨ret_two (fitV_in (by omega) (by omega)).symm (fitO_in (by omega) (by omega)).symm, rfl⟩
  · simp only [if_true]
    go_enter Tryd.func63, Tryd.ntmps63
    go_wp2
    all_goals go_ret2
    all_goals first
      | exact ⟨ret_two (fitV_out (by omega)).symm (fitO_out (by omega)).symm, rfl⟩
      | exact ⟨ret_two ((by rw [IntKind.wrap_u64]; unfold wrap64; omega : _ = -n).trans (fitV_in (by omega) (by omega)).symm) (fitO_in (by omega) (by omega)).symm, rfl⟩
theorem prod_same {a b : Int} (h : a < 0 ↔ b < 0) : a * b = ↑a.natAbs * ↑b.natAbs := by
  by_cases ha : a < 0
  · have hb := h.1 ha
    rw [show (a.natAbs : Int) = -a by omega, show (b.natAbs : Int) = -b by omega, Int.neg_mul_neg]
  · have hb := fun g => ha (h.2 g)
    rw [show (a.natAbs : Int) = a by omega, show (b.natAbs : Int) = b by omega]
theorem prod_diff {a b : Int} (h : ¬ (a < 0 ↔ b < 0)) : a * b = -(↑a.natAbs * ↑b.natAbs) := by
  by_cases ha : a < 0
  · rw [show (a.natAbs : Int) = -a by omega, show (b.natAbs : Int) = b by omega, Int.neg_mul, Int.neg_neg]
  · rw [show (a.natAbs : Int) = a by omega, show (b.natAbs : Int) = -b by omega, Int.mul_neg, Int.neg_neg]
theorem prod_nonneg (a b : Int) : 0 ≤ (a.natAbs : Int) * (b.natAbs : Int) := Int.mul_nonneg (by omega) (by omega)
theorem prod_great {a b : Int} (h : ((a.natAbs : Int) * (b.natAbs : Int) / 18446744073709551616 != 0) = true) : a * b < -9223372036854775808 ∨ 9223372036854775807 < a * b := by
  have := prod_nonneg a b
  have h : ¬ ((a.natAbs : Int) * (b.natAbs : Int) / 18446744073709551616 = 0) := by simpa using h
  by_cases g : a < 0 ↔ b < 0
  · rw [prod_same g]; omega
  · rw [prod_diff g]; omega
theorem prod_small {a b : Int} (h : ((a.natAbs : Int) * (b.natAbs : Int) / 18446744073709551616 != 0) = false) : (a.natAbs : Int) * (b.natAbs : Int) % 18446744073709551616 = (a.natAbs : Int) * (b.natAbs : Int) := by
  have := prod_nonneg a b
  have h : ((a.natAbs : Int) * (b.natAbs : Int) / 18446744073709551616 = 0) := by simpa using h
  omega
theorem mul_any (a b : Int) (w : World) (h1 : -9223372036854775808 ≤ a) (h2 : a ≤ 9223372036854775807) (h3 : -9223372036854775808 ≤ b) (h4 : b ≤ 9223372036854775807) :
    Calls Tryd.prog 52 #[.int .i64 a, .int .i64 b] w fun e w' => e = .returned (.tuple #[.int .i64 (fitV (a * b)), .bool (fitO (a * b))]) ∧ w' = w := by
  go_enter Tryd.func52, Tryd.ntmps52
  go_wp2_with (first
    | (go_at_call 62; refine (size_any _ _ (by assumption) (by assumption)).mono ?_; rintro e w' ⟨rfl, rfl⟩)
    | (go_at_call 61; refine (mul64_any _ _ (by omega) (by omega) _).mono ?_; rintro e w' ⟨rfl, rfl⟩)
    | (go_at_call 63; refine (signed_any _ _ _ (by omega) (by omega)).mono ?_; rintro e w' ⟨rfl, rfl⟩))
  all_goals go_ret2
  · exact ⟨ret_two (fitV_out (prod_great ‹_›)).symm (fitO_out (prod_great ‹_›)).symm, rfl⟩
  · have e : (a.natAbs : Int) * (b.natAbs : Int) % 18446744073709551616 = a * b := (prod_small ‹_›).trans (prod_same ‹_›).symm
    exact ⟨ret_two (by rw [e]) (by rw [e]), rfl⟩
  · have e : -((a.natAbs : Int) * (b.natAbs : Int) % 18446744073709551616) = a * b := by rw [prod_small ‹_›]; exact (prod_diff ‹_›).symm
    exact ⟨ret_two (by rw [e]) (by rw [e]), rfl⟩
end Go.Proofs.YtmbhamnkbpcljaaDoor.Line
