/- The walk of furrowlaw2.LineSplit: true at every text; nothing that was there has turned. -/
import Derived.Test.YtlebbbkmbljnoaaDoorTellsAny
namespace Go.Proofs.YtlebbbkmbljnoaaDoor.Line
open Go.ChangeShapes Go.WideShapes Go.ChangeAt Go.RowKit Plain Err
set_option linter.unusedVariables false

set_option maxHeartbeats 2000000 in
theorem lineSplit_long (l : List UInt8) (w : World) (hl : 70000 < l.length) : Calls Tryd.prog 3 #[.string ⟨l.toArray⟩] w fun e w' => e = .returned (.bool true) ∧ Below w.heap.size w w' := by
  go_enter Tryd.func3, Tryd.ntmps3
  go_wp2_with (go_at_call 8; refine (known_any _).mono ?_; rintro e w1 ⟨rfl, b1⟩)
  go_ret
  exact ⟨rfl, b1⟩

theorem alloc_below (w : World) (o : Obj) : Below w.heap.size w (w.alloc o) := (Below.refl _ _).alloc (Nat.le_refl _) o

set_option maxHeartbeats 4000000 in
theorem lineSplit_ok (l : List UInt8) (w : World) (hl : ¬ 70000 < l.length) (hG : Glob w) (he : errS l = 0) : Calls Tryd.prog 3 #[.string ⟨l.toArray⟩] w fun e w' => e = .returned (.bool true) ∧ Below w.heap.size w w' := by
  have HS := hide (fun w => split_ok l w (by omega) he)
  have HR := hide (fun w => refSplit_ok l w (by omega) he)
  have HF := hide (flatten_lines l)
  have hln := lines_length_le l
  generalize lines l = ls at *
  have HT := hide (fun (w : World) => tells_none w)
  have HQ := hide (fun (w : World) u v h1 h2 => sameLines_eq u v ls w h1 h2 (by omega))
  have HJ := hide (fun (w : World) v h1 => join_any v ls w h1 (by omega) (by rw [unhide HF]; omega))
  have HG := hide hG
  clear hG he
  go_enter Tryd.func3, Tryd.ntmps3
  go_wp2_with (first
    | (go_at_call 8; refine (known_any _).mono ?_; rintro e w1 ⟨rfl, b1⟩)
    | (go_at_call 9; refine (unhide HS _).mono ?_; rintro e w2 ⟨v, rfl, o2, b2⟩; have R2 := hide o2.row; clear o2)
    | (go_at_call 10; refine (unhide HR _).mono ?_; rintro e w3 ⟨u, rfl, o3, b3⟩; have R3 := hide o3.row; clear o3; have R2' := hide ((unhide R2).below b3); have c0 := alloc_below w3 (.cells #[.slice none 0 0, .int .i64 0] 30))
    | (go_at_call 11; refine (unhide HT _).mono ?_; rintro e w4 ⟨rfl, b4⟩; have R2'' := hide (((unhide R2').below c0).below b4); have R3'' := hide (((unhide R3).below c0).below b4); have cell := (b4.cell (p := ⟨w3.heap.size, 1, none⟩) (by simp)))
    | (go_at_call 12; refine (unhide HQ _ _ _ (unhide R2'') (unhide R3'')).mono ?_; rintro e w5 ⟨rfl, n5, rfl⟩)
    | (go_at_call 13; refine (unhide HJ _ _ ((unhide R2'').drewN n5)).mono ?_; rintro e w6 ⟨rfl, b6⟩))
  go_ret
  exact ⟨ret_bool (by rw [unhide HF]; simp), bthen (below_drewN (bthen (bthen (bthen (bthen b1 b2) b3) c0) b4) n5) b6⟩

set_option maxHeartbeats 4000000 in
theorem lineSplit_bad (l : List UInt8) (w : World) (hl : ¬ 70000 < l.length) (hG : Glob w) (he : errS l ≠ 0) : Calls Tryd.prog 3 #[.string ⟨l.toArray⟩] w fun e w' => e = .returned (.bool true) ∧ Below w.heap.size w w' := by
  have HS := hide (fun w => split_bad l w (by omega) he)
  have HR := hide (fun w => refSplit_bad l w (by omega) he)
  have hrg := errS_range l
  have HE := hide he
  clear he
  generalize errS l = er at *
  generalize wordS l = wd at *
  generalize atS l = ka at *
  have hne : ((er : Int) != 0) = true := by rw [bne_iff_ne]; have := unhide HE; omega
  have hne2 : ¬ (er : Int) = 0 := by have := unhide HE; omega
  have HQ := hide (fun (w : World) u v h1 h2 => sameLines_eq u v [] w h1 h2 (by simp))
  have HG := hide hG
  clear hG
  go_enter Tryd.func3, Tryd.ntmps3
  go_wp2_with (first
    | (go_at_call 8; refine (known_any _).mono ?_; rintro e w1 ⟨rfl, b1⟩)
    | (go_at_call 9; refine (unhide HS _).mono ?_; rintro e w2 ⟨v, p, rfl, o2, s2, b2⟩; have R2 := hide o2.row; have S2 := hide s2; clear o2 s2)
    | (go_at_call 10; refine (unhide HR _).mono ?_; rintro e w3 ⟨u, p2, rfl, o3, t3, b3⟩; have R3 := hide o3.row; have T3 := hide t3; clear o3 t3; have R2' := hide ((unhide R2).below b3); have S3 := hide ((unhide S2).below b3); have c0 := alloc_below w3 (.cells #[.slice (some ⟨p2, 0, none⟩) 1 1, .int .i64 er] 30))
    | (go_at_call 11; refine (tells_any _ _ _ wd ka er (((((unhide HG).below b1).below b2).below b3).below c0) ((unhide S3).below c0) ((unhide T3).below c0)).mono ?_; rintro e w4 ⟨rfl, b4⟩; have R2'' := hide (((unhide R2').below c0).below b4); have R3'' := hide (((unhide R3).below c0).below b4); have cell := (b4.cell (p := ⟨w3.heap.size, 1, none⟩) (by simp)))
    | (go_at_call 12; refine (unhide HQ _ _ _ (unhide R2'') (unhide R3'')).mono ?_; rintro e w5 ⟨rfl, n5, rfl⟩))
  go_ret
  exact ⟨rfl, below_drewN (bthen (bthen (bthen (bthen b1 b2) b3) c0) b4) n5⟩

theorem lineSplit_any (l : List UInt8) (w : World) (hG : Glob w) : Calls Tryd.prog 3 #[.string ⟨l.toArray⟩] w fun e w' => e = .returned (.bool true) ∧ Below w.heap.size w w' := by
  by_cases h : 70000 < l.length
  · exact lineSplit_long l w h
  · by_cases he : errS l = 0
    · exact lineSplit_ok l w h hG he
    · exact lineSplit_bad l w h hG he
end Go.Proofs.YtlebbbkmbljnoaaDoor.Line
