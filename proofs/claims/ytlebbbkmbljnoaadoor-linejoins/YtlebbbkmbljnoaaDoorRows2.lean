/- Contracts of the reference's SameLines and of line.Join, over slices of strings that are only read. -/
import Derived.Test.YtlebbbkmbljnoaaDoorMem
namespace Go.Proofs.YtlebbbkmbljnoaaDoor.Line
open Go.ChangeShapes Go.WideShapes Go.ChangeAt Go.RowKit Plain
set_option linter.unusedVariables false

theorem str_ne {a b : List UInt8} (h : a ≠ b) : (a != b) = true := by simpa using h

set_option maxHeartbeats 2000000 in
set_option maxRecDepth 100000 in
theorem sameLines_eq (u v : Value) (ls : List (List UInt8)) (w : World) (hu : Row w u ls) (hv : Row w v ls) (hl : ls.length ≤ 9223372036854775806) :
    Calls Tryd.prog 12 #[u, v] w fun e w' => e = .returned (.bool true) ∧ ∃ n, w' = w.drewN n := by
  by_cases h0 : ls = []
  · subst h0
    obtain ⟨a, c, rfl⟩ : ∃ a c, u = .slice a 0 c := by
      rcases hu with ⟨a, c, rfl, _⟩ | ⟨b, off, c, rfl, _⟩
      · exact ⟨_, _, rfl⟩
      · exact ⟨_, _, rfl⟩
    obtain ⟨a', c', rfl⟩ : ∃ a c, v = .slice a 0 c := by
      rcases hv with ⟨a, c, rfl, _⟩ | ⟨b, off, c, rfl, _⟩
      · exact ⟨_, _, rfl⟩
      · exact ⟨_, _, rfl⟩
    go_enter Tryd.func12, Tryd.ntmps12
    go_wp2
    refine wp_loop_rounds 1 ?_
    rw [rounds_succ]
    go_wp2
    go_ret
    exact ⟨rfl, 0, rfl⟩
  · rcases hu with ⟨_, _, _, h⟩ | ⟨b, off, c, rfl, hc, hcell⟩
    · exact absurd h h0
    rcases hv with ⟨_, _, _, h⟩ | ⟨b', off', c', rfl, hc', hcell'⟩
    · exact absurd h h0
    clear h0
    have H1 := hide hcell
    have H2 := hide hcell'
    clear hcell hcell'
    go_enter Tryd.func12, Tryd.ntmps12
    go_wp2
    go_loopw [5] (fun q wr => ∃ i : Nat, i ≤ ls.length ∧ q = .int .i64 i ∧ ∃ n, wr = w.drewN n) (fun q _ => ls.length - (intOf q).toNat)
    case atStart => exact ⟨0, Nat.zero_le _, rfl, 0, rfl⟩
    case round =>
      obtain ⟨i, hi, rfl, n, rfl⟩ := hrel
      by_cases hlt : i < ls.length
      · have c1 := unhide H1 i hlt
        have c2 := unhide H2 i hlt
        generalize ls[i] = x at *
        go_wp2
        go_region
        all_goals go_wp2
        all_goals go_roundw
        case rel => exact ⟨i + 1, by omega, by go_num, n + 1, rfl⟩
        case measure => simp [intOf]; omega
      · go_wp2
        go_ret
        exact ⟨rfl, n, rfl⟩

theorem join_flat (ls : List (List UInt8)) : Lib.join ls [] = ls.flatten := by
  unfold Lib.join
  induction ls with
  | nil => rfl
  | cons a r ih =>
    cases r with
    | nil => simp
    | cons b r => simp at ih ⊢; rw [← ih]

set_option maxHeartbeats 1000000 in
theorem join_any (v : Value) (ls : List (List UInt8)) (w : World) (hv : Row w v ls) (hl : ls.length ≤ 140737488355328) (hf : ls.flatten.length ≤ 140737488355328) :
    Calls Tryd.prog 13 #[v] w fun e w' => e = .returned (.string ⟨ls.flatten.toArray⟩) ∧ Below w.heap.size w w' := by
  have hcon : Calls Tryd.prog 24 #[v, .string ⟨#[]⟩] w fun e w' => e = .returned (.string ⟨ls.flatten.toArray⟩) ∧ Below w.heap.size w w' := by
    rcases hv with ⟨a, c, rfl, rfl⟩ | ⟨b, off, c, rfl, hc, hcell⟩
    · exact (strings_Join_none a c ⟨#[]⟩ w).mono fun e w' ⟨h1, h2⟩ => ⟨h1, h2 ▸ Below.refl _ _⟩
    · by_cases h0 : ls = []
      · subst h0
        exact (strings_Join_none _ c ⟨#[]⟩ w).mono fun e w' ⟨h1, h2⟩ => ⟨h1, h2 ▸ Below.refl _ _⟩
      · have hb : b < w.heap.size := cell_lt (hcell 0 (List.length_pos_iff.2 h0))
        have hm : (ls.map fun l => (⟨l.toArray⟩ : ByteArray)).map (·.data.toList) = ls := by
          rw [List.map_map]
          exact List.map_id' ls
        have := strings_Join b off c (ls.map fun l => ⟨l.toArray⟩) ⟨#[]⟩ w (fun j x hj => by
          rw [List.getElem?_map] at hj
          obtain ⟨y, hy, rfl⟩ := Option.map_eq_some_iff.1 hj
          obtain ⟨hlt, rfl⟩ := List.getElem?_eq_some_iff.1 hy
          exact hcell j hlt) hb (by simpa using hl) (by simpa using hc) (by rw [hm]; show (Lib.join ls []).length ≤ _; rw [join_flat]; exact hf)
        rw [hm, List.length_map] at this
        have e : Lib.join ls (⟨#[]⟩ : ByteArray).data.toList = ls.flatten := join_flat ls
        rw [e] at this
        exact this
  have HC := hide hcon
  clear hcon
  go_enter Tryd.func13, Tryd.ntmps13
  go_wp2_with (go_at_call 24; refine (unhide HC).mono ?_; rintro e w' ⟨rfl, hB⟩)
  go_ret
  exact ⟨rfl, hB⟩
end Go.Proofs.YtlebbbkmbljnoaaDoor.Line
