/- The contract of furrowlaw2.known: true, and nothing that was there has turned. -/
import Derived.Test.YtlebbbkmbljnoaaDoorSplit
import Derived.Test.YtlebbbkmbljnoaaDoorIndent
import Derived.Test.YtlebbbkmbljnoaaDoorRows2
namespace Go.Proofs.YtlebbbkmbljnoaaDoor.Line
open Go.ChangeShapes Go.WideShapes Go.ChangeAt Go.RowKit Plain
set_option linter.unusedVariables false

theorem k_part (w : World) : Calls Tryd.prog 14 #[.string ⟨#[32, 32, 120, 32, 61, 32, 49, 32, 33, 32, 111, 110, 101, 32, 33, 32, 116, 119, 111, 10]⟩] w fun e w' =>
    e = .returned (.tuple #[.string ⟨#[32, 32, 120, 32, 61, 32, 49, 32]⟩, .string ⟨#[33, 32, 111, 110, 101, 32, 33, 32, 116, 119, 111]⟩, .string ⟨#[10]⟩]) ∧ Below w.heap.size w w' := by
  refine (part_any [32, 32, 120, 32, 61, 32, 49, 32, 33, 32, 111, 110, 101, 32, 33, 32, 116, 119, 111, 10] w (by decide)).mono ?_
  rintro e w' ⟨rfl, n, rfl⟩
  exact ⟨three_eq (a' := [32, 32, 120, 32, 61, 32, 49, 32]) (b' := [33, 32, 111, 110, 101, 32, 33, 32, 116, 119, 111]) (c' := [10]) (by decide +kernel) (by decide +kernel) (by decide +kernel), below_drewN (Below.refl _ _) n⟩
theorem k_rows : rowS [97, 10, 10, 98] = [[97, 10], [10], [98]] ∧ errS [97, 10, 10, 98] = 0 := by decide +kernel
theorem k_split (w : World) : Calls Tryd.prog 9 #[.string ⟨#[97, 10, 10, 98]⟩] w fun e w' =>
    ∃ b off cap, e = .returned (.tuple #[.slice (some ⟨b, off, none⟩) 3 cap, .nilIface]) ∧ 3 ≤ cap ∧ w'.cell? ⟨b, off, none⟩ = some (.string ⟨#[97, 10]⟩) ∧ w'.cell? ⟨b, off + 1, none⟩ = some (.string ⟨#[10]⟩) ∧ w'.cell? ⟨b, off + 2, none⟩ = some (.string ⟨#[98]⟩) ∧ Below w.heap.size w w' := by
  refine (split_any [97, 10, 10, 98] w (by decide)).mono ?_
  rintro e w' ⟨v, f, rfl, ho, hs, hB⟩
  rw [k_rows.1] at ho
  rw [k_rows.2] at hs
  rcases hs with ⟨_, rfl⟩ | ⟨h, _⟩
  · rcases ho.row with ⟨a, cap, rfl, h⟩ | ⟨b, off, cap, rfl, hc, hcell⟩
    · cases h
    · exact ⟨b, off, cap, rfl, hc, hcell 0 (by decide), hcell 1 (by decide), hcell 2 (by decide), hB⟩
  · exact absurd rfl h
theorem k_join (b off cap : Nat) (w : World) (hc : 3 ≤ cap) (h0 : w.cell? ⟨b, off, none⟩ = some (.string ⟨#[97, 10]⟩)) (h1 : w.cell? ⟨b, off + 1, none⟩ = some (.string ⟨#[10]⟩)) (h2 : w.cell? ⟨b, off + 2, none⟩ = some (.string ⟨#[98]⟩)) :
    Calls Tryd.prog 13 #[.slice (some ⟨b, off, none⟩) 3 cap] w fun e w' => e = .returned (.string ⟨#[97, 10, 10, 98]⟩) ∧ Below w.heap.size w w' :=
  join_any _ [[97, 10], [10], [98]] w (.inr ⟨b, off, cap, rfl, hc, fun i hi => by
    match i, hi with
    | 0, _ => exact h0
    | 1, _ => exact h1
    | 2, _ => exact h2⟩) (by decide) (by decide)
theorem k_indent (w : World) : Calls Tryd.prog 16 #[.string ⟨#[32, 9, 120]⟩] w fun e w' => e = .returned (.string ⟨#[32, 9]⟩) ∧ Below w.heap.size w w' := by
  refine (indent_any [32, 9, 120] w (by decide)).mono ?_
  rintro e w' ⟨rfl, hB⟩
  exact ⟨ret_str (b := [32, 9]) (by decide +kernel), hB⟩

theorem bthen {w w1 w2 : World} (h : Below w.heap.size w w1) (k : Below w1.heap.size w1 w2) : Below w.heap.size w w2 := h.trans (k.mono h.size)

set_option maxHeartbeats 2000000 in
theorem known_any (w : World) : Calls Tryd.prog 8 #[] w fun e w' => e = .returned (.bool true) ∧ Below w.heap.size w w' := by
  go_enter Tryd.func8, Tryd.ntmps8
  go_wp2_with (first
    | (go_at_call 14; refine (k_part _).mono ?_; rintro e w1 ⟨rfl, b1⟩)
    | (go_at_call 9; refine (k_split _).mono ?_; rintro e w2 ⟨b, off, cap, rfl, hc, h0, h1, h2, b2⟩)
    | (go_at_call 13; refine (k_join b off cap _ hc h0 h1 h2).mono ?_; rintro e w3 ⟨rfl, b3⟩)
    | (go_at_call 16; refine (k_indent _).mono ?_; rintro e w4 ⟨rfl, b4⟩))
  go_ret
  exact ⟨rfl, bthen (bthen (bthen b1 b2) b3) b4⟩
end Go.Proofs.YtlebbbkmbljnoaaDoor.Line
