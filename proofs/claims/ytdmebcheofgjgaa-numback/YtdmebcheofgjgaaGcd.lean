/- Contracts of the greatest common divisor: num.Gcd and the reference's. The loop's region draws its order: the world may have drawn. -/
import Derived.Test.YtdmebcheofgjgaaSmall
namespace Go.Proofs.Ytdmebcheofgjgaa.Num
open Go.ChangeShapes Go.WideShapes Go.ChangeAt Go.RowKit Plain
set_option linter.unusedVariables false

theorem gcd_any (a b : Int) (w : World) (h1 : -9223372036854775808 ≤ a) (h2 : a ≤ 9223372036854775807) (h3 : -9223372036854775808 ≤ b) (h4 : b ≤ 9223372036854775807) :
    Calls Try.prog 20 #[.int .i64 a, .int .i64 b] w fun e w' => e = .returned (.int .u64 (Int.gcd a b : Int)) ∧ ∃ n, w' = w.drewN n := by
  have hg : Int.gcd a b = Nat.gcd a.natAbs b.natAbs := rfl
  rw [hg]; clear hg
  go_enter Try.func20, Try.ntmps20
  go_wp2_with (go_at_call 27; refine (size_any _ _ (by assumption) (by assumption)).mono ?_; rintro e w' ⟨rfl, hw⟩; have hw := hw.symm; subst hw)
  go_loopw [5, 6] (fun x y wr => ∃ p q : Nat, x = .int .u64 p ∧ y = .int .u64 q ∧ p ≤ 9223372036854775808 ∧ q ≤ 9223372036854775808 ∧ Hid (Nat.gcd p q = Nat.gcd a.natAbs b.natAbs) ∧ ∃ n, wr = World.drewN w n) (fun _ y _ => (intOf y).toNat)
  case atStart => exact ⟨a.natAbs, b.natAbs, rfl, rfl, by omega, by omega, rfl, 0, rfl⟩
  case round =>
    obtain ⟨p, q, rfl, rfl, hp, hq, HG, n, rfl⟩ := hrel
    by_cases hz : q = 0
    · subst hz
      go_wp2
      go_ret
      exact ⟨ret_int (by rw [← HG.out, Nat.gcd_zero_right]), n, rfl⟩
    · have hz' : ((q : Int) == 0) = false := by simpa using hz
      have hz2 : ¬ (q : Int) = 0 := by simpa using hz
      have hl : p % q < q := Nat.mod_lt _ (by omega)
      go_wp2
      go_region
      go_wp2
      go_roundw
      case rel => exact ⟨q, p % q, rfl, rfl, by omega, by omega, (by show Nat.gcd q (p % q) = _; rw [Nat.gcd_comm, ← Nat.gcd_rec, Nat.gcd_comm]; exact HG.out), n + 1, rfl⟩
      case measure => simp [intOf]; omega

theorem refGcd_any (a b : Int) (w : World) (h1 : -9223372036854775808 ≤ a) (h2 : a ≤ 9223372036854775807) (h3 : -9223372036854775808 ≤ b) (h4 : b ≤ 9223372036854775807) :
    Calls Try.prog 21 #[.int .i64 a, .int .i64 b] w fun e w' => e = .returned (.int .u64 (Int.gcd a b : Int)) ∧ ∃ n, w' = w.drewN n := by
  have hg : Int.gcd a b = Nat.gcd a.natAbs b.natAbs := rfl
  rw [hg]; clear hg
  go_enter Try.func21, Try.ntmps21
  go_wp2_with (go_at_call 30; refine (refSize_any _ _ (by assumption) (by assumption)).mono ?_; rintro e w' ⟨rfl, hw⟩; have hw := hw.symm; subst hw)
  go_loopw [5, 6] (fun x y wr => ∃ p q : Nat, x = .int .u64 p ∧ y = .int .u64 q ∧ p ≤ 9223372036854775808 ∧ q ≤ 9223372036854775808 ∧ Hid (Nat.gcd p q = Nat.gcd a.natAbs b.natAbs) ∧ ∃ n, wr = World.drewN w n) (fun _ y _ => (intOf y).toNat)
  case atStart => exact ⟨a.natAbs, b.natAbs, rfl, rfl, by omega, by omega, rfl, 0, rfl⟩
  case round =>
    obtain ⟨p, q, rfl, rfl, hp, hq, HG, n, rfl⟩ := hrel
    by_cases hz : q = 0
    · subst hz
      go_wp2
      go_ret
      exact ⟨ret_int (by rw [← HG.out, Nat.gcd_zero_right]), n, rfl⟩
    · have hz' : ((q : Int) == 0) = false := by simpa using hz
      have hz2 : ¬ (q : Int) = 0 := by simpa using hz
      have hl : p % q < q := Nat.mod_lt _ (by omega)
      go_wp2
      go_roundw
      case rel => exact ⟨q, p % q, rfl, rfl, by omega, by omega, (by show Nat.gcd q (p % q) = _; rw [Nat.gcd_comm, ← Nat.gcd_rec, Nat.gcd_comm]; exact HG.out), n, rfl⟩
      case measure => simp [intOf]; omega
end Go.Proofs.Ytdmebcheofgjgaa.Num
