/- Contract of the laws' common example (known): it answers true. -/
import Derived.Test.YtdmebcheofgjgaaQuo
import Derived.Test.YtdmebcheofgjgaaGcd
import Derived.Test.YtdmebcheofgjgaaTimes
namespace Go.Proofs.Ytdmebcheofgjgaa.Num
open Go.ChangeShapes Go.WideShapes Go.ChangeAt Go.RowKit Plain
set_option linter.unusedVariables false

theorem known_any (w : World) :
    Calls Try.prog 9 #[] w fun e w' => e = .returned (.bool true) ∧ ∃ n, w' = w.drewN n := by
  have f1 : floorV (-7) 2 = -4 := by decide
  have f2 : quoO (-7) 2 = true := by decide
  have f3 : ceilV (-7) 2 = -3 := by decide
  have f4 : fitO 9223372036854775808 = false := by decide
  have f5 : (Int.gcd 12 (-18)) = 6 := by decide
  have f6 : timesV 10 1 (-4) = 3 := by decide
  have f7 : lastV 10 1 (-4) = 2 := by decide
  have f8 : timesV 1 0 1 = 0 := by decide
  have f9 : lastV 1 0 1 = 1 := by decide
  go_enter Try.func9, Try.ntmps9
  go_wp2_with (first
    | (go_at_call 13; refine (floor_any _ _ _ (by omega) (by omega) (by omega) (by omega)).mono ?_; rintro e w' ⟨rfl, n, rfl⟩)
    | (go_at_call 14; refine (ceil_any _ _ _ (by omega) (by omega) (by omega) (by omega)).mono ?_; rintro e w' ⟨rfl, n, rfl⟩)
    | (go_at_call 10; refine (add_any _ _ _ (by omega) (by omega) (by omega) (by omega)).mono ?_; rintro e w' ⟨rfl, rfl⟩)
    | (go_at_call 20; refine (gcd_any _ _ _ (by omega) (by omega) (by omega) (by omega)).mono ?_; rintro e w' ⟨rfl, n, rfl⟩)
    | (go_at_call 22; refine (times_any _ _ _ _ (by omega) (by omega) (by omega) (by omega) (by omega) (by omega)).mono ?_; rintro e w' ⟨rfl, rfl⟩)
    | (go_at_call 24; refine (last_any _ _ _ _ (by omega) (by omega) (by omega) (by omega) (by omega) (by omega)).mono ?_; rintro e w' ⟨rfl, rfl⟩))
  go_ret
  exact ⟨rfl, _, rfl⟩
end Go.Proofs.Ytdmebcheofgjgaa.Num
