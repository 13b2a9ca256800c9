/- Plain arithmetic for the laws NumRounds and NumBack: what rounded quotients are, multiplied back. -/
import Derived.Test.YtdmebcheofgjgaaPlain
namespace Go.Proofs.Ytdmebcheofgjgaa.Plain
open Go.RowKit (wrap64 wrap32)

/-- The quotients of two numbers of 32 bits: they are there, part by one just where there is a rest, and lie on either side. -/
theorem rounds (a b : Int) (h1 : -2147483648 ≤ a) (h2 : a ≤ 2147483647) (h3 : -2147483648 ≤ b) (h4 : b ≤ 2147483647) (hb : ¬ b = 0) :
    quoO a b = true ∧ (a.tmod b = 0 → floorV a b = a.tdiv b ∧ ceilV a b = a.tdiv b) ∧ (¬ a.tmod b = 0 → ceilV a b = floorV a b + 1) ∧
    (-2147483649 ≤ floorV a b ∧ floorV a b ≤ 2147483649 ∧ -2147483649 ≤ a.tdiv b ∧ a.tdiv b ≤ 2147483649) ∧
    (-8589934592 ≤ floorV a b * b ∧ floorV a b * b ≤ 8589934592 ∧ -8589934592 ≤ ceilV a b * b ∧ ceilV a b * b ≤ 8589934592) ∧
    (b < 0 → a ≤ floorV a b * b ∧ ceilV a b * b ≤ a) ∧ (0 < b → floorV a b * b ≤ a ∧ a ≤ ceilV a b * b) := by
  have hq : quoO a b = true := by unfold quoO; exact decide_eq_true ⟨hb, by omega⟩
  have hr := tmod_eq a b
  have hl := tmod_lt a b hb
  have hd : (a.tdiv b).natAbs = a.natAbs / b.natAbs := Int.natAbs_tdiv a b
  have hg : a.natAbs / b.natAbs ≤ a.natAbs := Nat.div_le_self _ _
  have hz : floorV a b = down a b := by unfold floorV; rw [if_pos hq]
  have hy : ceilV a b = up a b := by unfold ceilV; rw [if_pos hq]
  rw [hz, hy]
  unfold down up
  rw [Int.mul_comm] at hr
  generalize a.tdiv b = q at *
  generalize a.tmod b = r at *
  have e1 : (q - 1) * b = q * b - b := by rw [Int.sub_mul, Int.one_mul]
  have e2 : (q + 1) * b = q * b + b := by rw [Int.add_mul, Int.one_mul]
  refine ⟨hq, ?_⟩
  clear hz hy hq
  by_cases c1 : (0 < r ∧ b < 0) ∨ (r < 0 ∧ 0 < b) <;> by_cases c2 : (0 < r ∧ 0 < b) ∨ (r < 0 ∧ b < 0)
  · omega
  · rw [if_pos c1, if_neg c2, e1]; generalize q * b = m at *; omega
  · rw [if_neg c1, if_pos c2, e2]; generalize q * b = m at *; omega
  · rw [if_neg c1, if_neg c2]; generalize q * b = m at *; omega

/-- A product divided by one factor is the other, rounded either way. -/
theorem quo_back (a b : Int) (hb : ¬ b = 0) (hq : quoO (a * b) b = true) : floorV (a * b) b = a ∧ ceilV (a * b) b = a := by
  have ht : (a * b).tmod b = 0 := Int.mul_tmod_left ..
  have hd : (a * b).tdiv b = a := Int.mul_tdiv_cancel _ hb
  unfold floorV ceilV down up
  rw [if_pos hq, if_pos hq, ht, hd]
  constructor <;> rw [if_neg (by omega)]
theorem quo_prod (a b : Int) (h2 : a ≤ 9223372036854775807) (hb : ¬ b = 0) : quoO (a * b) b = true := by
  unfold quoO
  refine decide_eq_true ⟨hb, ?_⟩
  rintro ⟨h, rfl⟩
  omega
end Go.Proofs.Ytdmebcheofgjgaa.Plain
