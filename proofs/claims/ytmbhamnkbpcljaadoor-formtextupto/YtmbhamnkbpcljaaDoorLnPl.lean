/- Plain arithmetic: a product that goes round, divided again. -/
import Derived.Test.YtmbhamnkbpcljaaDoorNumB
namespace Go.Proofs.YtmbhamnkbpcljaaDoor.Line
open Go.RowKit (wrap64 wrap32)
set_option linter.unusedVariables false

/-- Whether a quotient is there: not by 0, and not the one that is too great. -/
def quoO (a b : Int) : Bool := decide (¬ b = 0 ∧ ¬ (a = -9223372036854775808 ∧ b = -1))
theorem tdiv_bounds (a b : Int) (h1 : -9223372036854775808 ≤ a) (h2 : a ≤ 9223372036854775807) (hq : quoO a b = true) :
    -9223372036854775808 ≤ a.tdiv b ∧ a.tdiv b ≤ 9223372036854775807 := by
  have h : (a.tdiv b).natAbs = a.natAbs / b.natAbs := Int.natAbs_tdiv a b
  have g : a.natAbs / b.natAbs ≤ a.natAbs := Nat.div_le_self _ _
  by_cases e : a = -9223372036854775808
  · unfold quoO at hq
    have hq := of_decide_eq_true hq
    by_cases e1 : b = 1
    · subst e1; rw [Int.tdiv_one]; omega
    · have : 2 ≤ b.natAbs := by omega
      have : a.natAbs / b.natAbs ≤ a.natAbs / 2 := Nat.div_le_div_left this (by omega)
      omega
  · omega

theorem tmod_eq (a b : Int) : b * a.tdiv b + a.tmod b = a := Int.mul_tdiv_add_tmod a b
theorem tmod_lt (a b : Int) (h : ¬ b = 0) : (a.tmod b).natAbs < b.natAbs := by
  rw [Int.natAbs_tmod]; exact Nat.mod_lt _ (by omega)
theorem wrap64_mod (x : Int) : ∃ k : Int, wrap64 x = x - k * 18446744073709551616 ∧ -9223372036854775808 ≤ wrap64 x ∧ wrap64 x ≤ 9223372036854775807 :=
  ⟨(x + 9223372036854775808) / 18446744073709551616, by unfold wrap64; omega, by unfold wrap64; omega, by unfold wrap64; omega⟩
theorem wrap64_self (x : Int) (h : -9223372036854775808 ≤ x) (g : x ≤ 9223372036854775807) : wrap64 x = x := by unfold wrap64; omega

/-- The product that goes round, divided again: it is the first factor just where nothing went round. -/
theorem mul_round (a b : Int) (h1 : -9223372036854775808 ≤ a) (h2 : a ≤ 9223372036854775807) (h3 : -9223372036854775808 ≤ b) (h4 : b ≤ 9223372036854775807)
    (hb : ¬ b = 0) (hm : ¬ b = -1) : (-9223372036854775808 ≤ a * b ∧ a * b ≤ 9223372036854775807) ↔ wrap64 ((wrap64 (a * b)).tdiv b) = a := by
  constructor
  · rintro ⟨g1, g2⟩
    rw [wrap64_self _ g1 g2, Int.mul_tdiv_cancel _ hb, wrap64_self _ h1 h2]
  · intro h
    obtain ⟨k, hk, k1, k2⟩ := wrap64_mod (a * b)
    have hq : quoO (wrap64 (a * b)) b = true := by unfold quoO; exact decide_eq_true ⟨hb, fun g => hm g.2⟩
    have hd := tdiv_bounds _ b k1 k2 hq
    rw [wrap64_self _ hd.1 hd.2] at h
    have hr := tmod_eq (wrap64 (a * b)) b
    have hl := tmod_lt (wrap64 (a * b)) b hb
    rw [h, Int.mul_comm b a] at hr
    generalize a * b = p at *
    generalize (wrap64 p).tmod b = r at *
    omega

end Go.Proofs.YtmbhamnkbpcljaaDoor.Line
