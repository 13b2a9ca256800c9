/- errors.Is and errors.As by their contracts, at a Fault that wraps an Errno, at an Errno, with an Errno, a Fault or an Errno as the target. The library s own text is walked. -/
import Derived.Test.YtdpjipphbhomkaaGreatDoorErrFactsB
namespace Go.Proofs.YtdpjipphbhomkaaGreatDoor.Err
open Go.RowKit Go.Extern.Stop Go.Stop Go.Extern Line
set_option linter.unusedVariables false

set_option maxHeartbeats 2000000 in
theorem is_hit (b : Nat) (err : Nat) (w : World) (h2 : w.cell? ⟨b, 2, none⟩ = some (.iface 93 (.int .i64 err))) :
    Calls Tryz.prog 29 #[.iface 77 (.pointer (some ⟨b, 0, none⟩)), .iface 93 (.int .i64 err)] w fun e w' => e = .returned (.bool true) ∧ w' = w := by
  obtain ⟨i, hi, hcmp⟩ := Option.map_eq_some_iff.1 comp46
  have h29 := @run_callFunc_extern Tryz.prog 69 _ ReflectliteType.typeOf Tryz.func69 (by kernel_rfl) (by kernel_rfl) (by kernel_rfl) (by kernel_rfl)
  have h86 := call86
  have tT := typeOf46
  have cT := cmp46
  have mR := mComparable
  have n45 := noIs45
  have u45 := hasUnwrap45
  have mU := mUnwrap
  have heq := run_eql_num (P := Tryz.prog) w (err : Int) (err : Int) Tryz.underlying32 Tryz.underlying93 hi hcmp
  have hty := run_eql_iface_types (P := Tryz.prog) 77 93 (.pointer (some ⟨b, 0, none⟩)) (.int .i64 (err : Int)) Tryz.underlying32 (by decide) w
  go_enter Tryz.func29, Tryz.ntmps29
  go_wp2
  refine wp_loop_rounds 2 ?_
  rw [rounds_succ]
  go_wp2
  rw [rounds_succ]
  go_wp2
  go_ret
  exact ⟨rfl, rfl⟩
end Go.Proofs.YtdpjipphbhomkaaGreatDoor.Err
