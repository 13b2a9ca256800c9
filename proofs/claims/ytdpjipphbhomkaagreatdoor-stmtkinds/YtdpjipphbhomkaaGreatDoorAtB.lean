/- The contract of the reference's At: the told Wrong in new memory. -/
import Derived.Test.YtdpjipphbhomkaaGreatDoorMemB
namespace Go.Proofs.YtdpjipphbhomkaaGreatDoor.Line
open Go.ChangeShapes Go.WideShapes Go.ChangeAt Go.RowKit
set_option linter.unusedVariables false

set_option maxHeartbeats 1000000 in
theorem at_any (word : List UInt8) (k err : Nat) (w : World) : Calls Tryz.prog 17 #[.string ⟨word.toArray⟩, .int .i64 k, .int .i64 err] w fun e w' => ∃ b, e = .returned (.agg #[.slice (some ⟨b, 0, none⟩) 1 1, .int .i64 err]) ∧ w.heap.size ≤ b ∧ w'.cell? ⟨b, 0, none⟩ = some (.string ⟨word.toArray⟩) ∧ w'.cell? ⟨b, 1, none⟩ = some (.int .i64 k) ∧ Below w.heap.size w w' := by
  go_enter Tryz.func17, Tryz.ntmps17
  go_wp2
  exact bodyPost_ret (v := .agg #[.slice (some ⟨w.heap.size + 1, 0, none⟩) 1 1, .int .i64 err]) (by simp [results, Tryz.results17, go_sem]) rfl ⟨_, rfl, by omega, by simp, by simp, ((Below.refl _ _).alloc (Nat.le_refl _) _).alloc (by simp) _⟩

end Go.Proofs.YtdpjipphbhomkaaGreatDoor.Line
