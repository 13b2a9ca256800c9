/- errors.Is and errors.As by their contracts, at a Fault that wraps an Errno, at an Errno, with an Errno, a Fault or an Errno as the target. The library s own text is walked. -/
import Derived.Test.YtmdifoejacogpaaDoorErrFactsB
namespace Go.Proofs.YtmdifoejacogpaaDoor.Err
open Go.RowKit Go.Extern.Stop Go.Stop Go.Extern Line
set_option linter.unusedVariables false

set_option maxHeartbeats 2000000 in
theorem is_hit (b : Nat) (err : Nat) (w : World) (h2 : w.cell? ⟨b, 2, none⟩ = some (.iface 52 (.int .i64 err))) :
    Calls Tryd.prog 26 #[.iface 53 (.pointer (some ⟨b, 0, none⟩)), .iface 52 (.int .i64 err)] w fun e w' => e = .returned (.bool true) ∧ w' = w := by
  obtain ⟨i, hi, hcmp⟩ := Option.map_eq_some_iff.1 comp46
  have h29 := @run_callFunc_extern Tryd.prog 40 _ ReflectliteType.typeOf Tryd.func40 (by kernel_rfl) (by kernel_rfl) (by kernel_rfl) (by kernel_rfl)
  have h86 := call86
  have tT := typeOf46
  have cT := cmp46
  have mR := mComparable
  have n45 := noIs45
  have u45 := hasUnwrap45
  have mU := mUnwrap
  have heq := run_eql_num (P := Tryd.prog) w (err : Int) (err : Int) Tryd.underlying25 Tryd.underlying52 hi hcmp
  have hty := run_eql_iface_types (P := Tryd.prog) 53 52 (.pointer (some ⟨b, 0, none⟩)) (.int .i64 (err : Int)) Tryd.underlying25 (by decide) w
  go_enter Tryd.func26, Tryd.ntmps26
  go_wp2
  refine wp_loop_rounds 2 ?_
  rw [rounds_succ]
  go_wp2
  rw [rounds_succ]
  go_wp2
  go_ret
  exact ⟨rfl, rfl⟩
end Go.Proofs.YtmdifoejacogpaaDoor.Err
