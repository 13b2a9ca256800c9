/- Plain arithmetic for the law NumGcd. -/
import Derived.Test.YtdmebcheofgjgaaPlain
namespace Go.Proofs.Ytdmebcheofgjgaa.Plain
open Go.RowKit (wrap64 wrap32)

theorem gcd_pos {a b : Int} (h : ¬ (a = 0 ∧ b = 0)) : 0 < Int.gcd a b := by
  rcases Nat.eq_zero_or_pos (Int.gcd a b) with g | g
  · rw [Int.gcd_eq_zero_iff] at g; exact absurd g h
  · exact g
theorem gcd_le {a b : Int} (h1 : -2147483648 ≤ a) (h2 : a ≤ 2147483647) (h3 : -2147483648 ≤ b) (h4 : b ≤ 2147483647) : Int.gcd a b ≤ 2147483648 := by
  by_cases h : a = 0 ∧ b = 0
  · obtain ⟨rfl, rfl⟩ := h; decide
  · by_cases ha : a = 0
    · have hb : ¬ b = 0 := fun g => h ⟨ha, g⟩
      have : Int.gcd a b ≤ b.natAbs := Nat.le_of_dvd (by omega) (Nat.gcd_dvd_right _ _)
      omega
    · have : Int.gcd a b ≤ a.natAbs := Nat.le_of_dvd (by omega) (Nat.gcd_dvd_left _ _)
      omega
theorem gcd_tmod_left (a b : Int) : a.tmod (Int.gcd a b : Int) = 0 := Int.tmod_eq_zero_of_dvd (Int.gcd_dvd_left ..)
theorem gcd_tmod_right (a b : Int) : b.tmod (Int.gcd a b : Int) = 0 := Int.tmod_eq_zero_of_dvd (Int.gcd_dvd_right ..)
theorem gcd_multiple (a k : Int) : Int.gcd a (a * k) = a.natAbs := by
  show Nat.gcd a.natAbs (a * k).natAbs = a.natAbs
  rw [Int.natAbs_mul, Nat.gcd_mul_right_right]
theorem gcd_rest (a b : Int) (h : ¬ (a = 0 ∧ b = 0)) : Int.gcd (a.tdiv (Int.gcd a b)) (b.tdiv (Int.gcd a b)) = 1 := by
  show Nat.gcd (a.tdiv (Int.gcd a b)).natAbs (b.tdiv (Int.gcd a b)).natAbs = 1
  have e : ∀ x : Int, (x.tdiv (Int.gcd a b)).natAbs = x.natAbs / Int.gcd a b := fun x => (Int.natAbs_tdiv x _).trans (by rw [Int.natAbs_natCast]; rfl)
  rw [e, e]
  exact Nat.coprime_div_gcd_div_gcd (gcd_pos h)
theorem gcd_swap (a b : Int) : Int.gcd b a = Int.gcd a b := Int.gcd_comm b a
theorem gcd_zero_zero : Int.gcd 0 0 = 0 := rfl
end Go.Proofs.Ytdmebcheofgjgaa.Plain
