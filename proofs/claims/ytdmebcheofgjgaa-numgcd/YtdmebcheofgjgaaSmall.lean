/- Contracts of the small functions of package num and of the reference's: Add, Sub, the size of a number, whether there is a quotient. -/
import Derived.Test.YtdmebcheofgjgaaRows
import Derived.WalkKit
import Derived.ProofKit
import Derived.OpenShut
import Derived.WalkLawsBesides
import Derived.Test.YtdmebcheofgjgaaPlain
namespace Go.Proofs.Ytdmebcheofgjgaa.Num
open Go.ChangeShapes Go.WideShapes Go.ChangeAt Go.RowKit Plain
set_option linter.unusedVariables false

theorem size_any (a : Int) (w : World) (h1 : -9223372036854775808 ≤ a) (h2 : a ≤ 9223372036854775807) :
    Calls Try.prog 27 #[.int .i64 a] w fun e w' => e = .returned (.int .u64 (a.natAbs : Int)) ∧ w' = w := by
  go_enter Try.func27, Try.ntmps27
  go_wp2
  all_goals go_ret
  · exact ⟨ret_int (by rw [IntKind.wrap_u64, IntKind.wrap_u64]; omega), rfl⟩
  · exact ⟨ret_int (by omega), rfl⟩

theorem refSize_any (a : Int) (w : World) (h1 : -9223372036854775808 ≤ a) (h2 : a ≤ 9223372036854775807) :
    Calls Try.prog 30 #[.int .i64 a] w fun e w' => e = .returned (.int .u64 (a.natAbs : Int)) ∧ w' = w := by
  go_enter Try.func30, Try.ntmps30
  go_wp2
  all_goals go_ret
  · exact ⟨ret_int (by simp only [IntKind.wrap_u64]; omega), rfl⟩
  · exact ⟨ret_int (by omega), rfl⟩

theorem add_any (a b : Int) (w : World) (h1 : -9223372036854775808 ≤ a) (h2 : a ≤ 9223372036854775807) (h3 : -9223372036854775808 ≤ b) (h4 : b ≤ 9223372036854775807) :
    Calls Try.prog 10 #[.int .i64 a, .int .i64 b] w fun e w' => e = .returned (.tuple #[.int .i64 (fitV (a + b)), .bool (fitO (a + b))]) ∧ w' = w := by
  go_enter Try.func10, Try.ntmps10
  go_wp2
  all_goals go_ret2
  all_goals first
    | exact ⟨ret_two (fitV_out (by omega)).symm (fitO_out (by omega)).symm, rfl⟩
    | exact ⟨ret_two (fitV_in (by omega) (by omega)).symm (fitO_in (by omega) (by omega)).symm, rfl⟩

theorem sub_any (a b : Int) (w : World) (h1 : -9223372036854775808 ≤ a) (h2 : a ≤ 9223372036854775807) (h3 : -9223372036854775808 ≤ b) (h4 : b ≤ 9223372036854775807) :
    Calls Try.prog 11 #[.int .i64 a, .int .i64 b] w fun e w' => e = .returned (.tuple #[.int .i64 (fitV (a - b)), .bool (fitO (a - b))]) ∧ w' = w := by
  go_enter Try.func11, Try.ntmps11
  go_wp2
  all_goals go_ret2
  all_goals first
    | exact ⟨ret_two (fitV_out (by omega)).symm (fitO_out (by omega)).symm, rfl⟩
    | exact ⟨ret_two (fitV_in (by omega) (by omega)).symm (fitO_in (by omega) (by omega)).symm, rfl⟩

theorem refAdd_any (a b : Int) (w : World) (h1 : -9223372036854775808 ≤ a) (h2 : a ≤ 9223372036854775807) (h3 : -9223372036854775808 ≤ b) (h4 : b ≤ 9223372036854775807) :
    Calls Try.prog 15 #[.int .i64 a, .int .i64 b] w fun e w' => e = .returned (.tuple #[.int .i64 (fitV (a + b)), .bool (fitO (a + b))]) ∧ w' = w := by
  have hw : wrap64 (a + b) = if 9223372036854775807 < a + b then a + b - 18446744073709551616 else if a + b < -9223372036854775808 then a + b + 18446744073709551616 else a + b := by
    unfold wrap64; split
    · omega
    · split <;> omega
  have H : Hid (wrap64 (a + b) = if 9223372036854775807 < a + b then a + b - 18446744073709551616 else if a + b < -9223372036854775808 then a + b + 18446744073709551616 else a + b) := hw
  clear hw
  go_enter Try.func15, Try.ntmps15
  go_wp2
  all_goals go_ret2
  all_goals have HW := H.out
  all_goals split at HW
  all_goals first
    | exact ⟨ret_two (fitV_out (by omega)).symm (fitO_out (by omega)).symm, rfl⟩
    | exact ⟨ret_two ((fitV_in (by omega) (by omega)).trans (by omega)).symm (fitO_in (by omega) (by omega)).symm, rfl⟩
    | (split at HW
       all_goals first
         | (exfalso; omega)
         | exact ⟨ret_two (fitV_out (by omega)).symm (fitO_out (by omega)).symm, rfl⟩
         | exact ⟨ret_two (HW.trans (fitV_in (by omega) (by omega)).symm) (fitO_in (by omega) (by omega)).symm, rfl⟩)

theorem refSub_any (a b : Int) (w : World) (h1 : -9223372036854775808 ≤ a) (h2 : a ≤ 9223372036854775807) (h3 : -9223372036854775808 ≤ b) (h4 : b ≤ 9223372036854775807) :
    Calls Try.prog 16 #[.int .i64 a, .int .i64 b] w fun e w' => e = .returned (.tuple #[.int .i64 (fitV (a - b)), .bool (fitO (a - b))]) ∧ w' = w := by
  have hw : wrap64 (a - b) = if 9223372036854775807 < a - b then a - b - 18446744073709551616 else if a - b < -9223372036854775808 then a - b + 18446744073709551616 else a - b := by
    unfold wrap64; split
    · omega
    · split <;> omega
  have H : Hid (wrap64 (a - b) = if 9223372036854775807 < a - b then a - b - 18446744073709551616 else if a - b < -9223372036854775808 then a - b + 18446744073709551616 else a - b) := hw
  clear hw
  go_enter Try.func16, Try.ntmps16
  go_wp2
  all_goals go_ret2
  all_goals have HW := H.out
  all_goals split at HW
  all_goals first
    | exact ⟨ret_two (fitV_out (by omega)).symm (fitO_out (by omega)).symm, rfl⟩
    | exact ⟨ret_two ((fitV_in (by omega) (by omega)).trans (by omega)).symm (fitO_in (by omega) (by omega)).symm, rfl⟩
    | (split at HW
       all_goals first
         | (exfalso; omega)
         | exact ⟨ret_two (fitV_out (by omega)).symm (fitO_out (by omega)).symm, rfl⟩
         | exact ⟨ret_two (HW.trans (fitV_in (by omega) (by omega)).symm) (fitO_in (by omega) (by omega)).symm, rfl⟩)

theorem hasQuo_any (a b : Int) (w : World) (h1 : -9223372036854775808 ≤ a) (h2 : a ≤ 9223372036854775807) (h3 : -9223372036854775808 ≤ b) (h4 : b ≤ 9223372036854775807) :
    Calls Try.prog 29 #[.int .i64 a, .int .i64 b] w fun e w' => e = .returned (.bool (quoO a b)) ∧ w' = w := by
  go_enter Try.func29, Try.ntmps29
  go_wp2
  all_goals go_ret
  all_goals
    refine ⟨?_, rfl⟩
    simp at *
    try simp [quoO, *]
end Go.Proofs.Ytdmebcheofgjgaa.Num
