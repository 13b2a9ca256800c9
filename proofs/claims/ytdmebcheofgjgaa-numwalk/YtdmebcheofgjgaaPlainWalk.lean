/- Plain arithmetic for the law NumWalk: a loop's turns, counted one by one. -/
import Derived.Test.YtdmebcheofgjgaaPlain
namespace Go.Proofs.Ytdmebcheofgjgaa.Plain

/-- k turns upward, the last of them within, the next one beyond: what is told of the loop. -/
theorem count_up (lo hi s : Int) (k : Nat) (hs : 0 < s) (hk : 0 < k) (h : lo + k * s - s ≤ hi) (g : hi < lo + k * s) (b : k ≤ 1000000) :
    timesV lo hi s = k ∧ lastV lo hi s = lo + k * s - s := by
  obtain ⟨m, rfl⟩ : ∃ m, k = m + 1 := ⟨k - 1, by omega⟩
  obtain ⟨t, rfl⟩ : ∃ t : Nat, s = t := ⟨s.toNat, by omega⟩
  have e : ((m + 1 : Nat) : Int) * (t : Int) = ((m * t : Nat) : Int) + t := by
    rw [← Int.natCast_mul, Nat.add_mul, Nat.one_mul, Int.natCast_add]
  rw [e] at h g ⊢
  have hd : (hi - lo).natAbs / t = m := by
    apply Nat.div_eq_of_lt_le
    · generalize m * t = p at *; omega
    · rw [Nat.add_mul, Nat.one_mul]; generalize m * t = p at *; omega
  have hv : stepsV lo hi t = m := by unfold stepsV; rw [Int.natAbs_natCast, hd]
  have hg : goesO lo hi t = true := goes_up (by omega) (by generalize m * t = p at *; omega)
  rw [times_some hg (by rw [hv]; omega), last_some hg, hv]
  refine ⟨by omega, ?_⟩
  rw [Int.natCast_mul]; omega

/-- The same downward. -/
theorem count_down (lo hi s : Int) (k : Nat) (hs : s < 0) (hk : 0 < k) (h : hi ≤ lo + k * s - s) (g : lo + k * s < hi) (b : k ≤ 1000000) :
    timesV lo hi s = k ∧ lastV lo hi s = lo + k * s - s := by
  obtain ⟨m, rfl⟩ : ∃ m, k = m + 1 := ⟨k - 1, by omega⟩
  obtain ⟨t, rfl⟩ : ∃ t : Nat, s = -(t : Int) := ⟨(-s).toNat, by omega⟩
  have e : ((m + 1 : Nat) : Int) * (-(t : Int)) = -((m * t : Nat) : Int) - t := by
    rw [Int.mul_neg, ← Int.natCast_mul, Nat.add_mul, Nat.one_mul, Int.natCast_add]; omega
  rw [e] at h g ⊢
  have hd : (hi - lo).natAbs / t = m := by
    apply Nat.div_eq_of_lt_le
    · generalize m * t = p at *; omega
    · rw [Nat.add_mul, Nat.one_mul]; generalize m * t = p at *; omega
  have hv : stepsV lo hi (-(t : Int)) = m := by unfold stepsV; rw [Int.natAbs_neg, Int.natAbs_natCast, hd]
  have hg : goesO lo hi (-(t : Int)) = true := goes_down (by omega) (by generalize m * t = p at *; omega)
  rw [times_some hg (by rw [hv]; omega), last_some hg, hv]
  refine ⟨by omega, ?_⟩
  rw [Int.mul_neg, Int.natCast_mul]; omega
end Go.Proofs.Ytdmebcheofgjgaa.Plain
