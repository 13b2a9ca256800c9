/- The contracts of eval.parts, firstTwo, quotient, held, value. -/
import Derived.Test.YtomnbidppkpfiaaDoorEvCell
import Derived.Deep.RegionWith
namespace Go.Proofs.YtomnbidppkpfiaaDoor.Line
open Go.ChangeShapes Go.WideShapes Go.ChangeAt Go.RowKit
open Ex (E)
open Ev (Sy Res)
set_option linter.unusedVariables false

/-- a tree's cells at an address -/
structure At (w : World) (b o : Nat) (x : E) (sx : Value) : Prop where
  c0 : w.cell? ⟨b, o, none⟩ = some (.int .i64 x.kind)
  c1 : w.cell? ⟨b, o + 1, none⟩ = some (.int .i64 x.n)
  c2 : w.cell? ⟨b, o + 2, none⟩ = some (.string ⟨x.name.toArray⟩)
  c3 : w.cell? ⟨b, o + 3, none⟩ = some sx
theorem At.below {w w' : World} {b o : Nat} {x : E} {sx : Value} (h : At w b o x sx) (hb : Below w.heap.size w w') : At w' b o x sx :=
  ⟨(hb.cell (p := ⟨b, o, none⟩) (cell_lt h.c0)).trans h.c0, (hb.cell (p := ⟨b, o + 1, none⟩) (cell_lt h.c1)).trans h.c1, (hb.cell (p := ⟨b, o + 2, none⟩) (cell_lt h.c2)).trans h.c2, (hb.cell (p := ⟨b, o + 3, none⟩) (cell_lt h.c3)).trans h.c3⟩
def partV (x : E) (sx : Value) : Value := if 3 ≤ x.kind ∧ x.kind ≤ 8 then sx else .slice none 0 0
theorem partV_forest {w : World} {S : Nat → Prop} {x : E} {sx : Value} (h : Forest w S x.a sx) : Forest w S (Ev.parts x) (partV x sx) := by
  unfold Ev.parts partV
  split
  · exact h
  · exact .nil _ _
set_option maxHeartbeats 4000000 in
theorem parts_any (w : World) (b o : Nat) (x : E) (sx : Value) (h : At w b o x sx) : Calls Tryd.prog 26 #[.pointer (some ⟨b, o, none⟩)] w fun e w' => e = .returned (partV x sx) ∧ w' = w := by
  have h0 := h.c0
  have h3 := h.c3
  unfold partV
  clear h
  generalize x.kind = k at *
  by_cases g : 3 ≤ k ∧ k ≤ 8
  · rw [if_pos g]
    have : k = 3 ∨ k = 4 ∨ k = 5 ∨ k = 6 ∨ k = 7 ∨ k = 8 := by omega
    clear g
    rcases this with rfl | rfl | rfl | rfl | rfl | rfl
    all_goals
      go_enter Tryd.func26, Tryd.ntmps26
      go_wp2
      go_ret
      exact ⟨rfl, rfl⟩
  · rw [if_neg g]
    have k3 : ¬ k = 3 := by omega
    have k4 : ¬ k = 4 := by omega
    have k5 : ¬ k = 5 := by omega
    have k6 : ¬ k = 6 := by omega
    have k7 : ¬ k = 7 := by omega
    have k8 : ¬ k = 8 := by omega
    go_enter Tryd.func26, Tryd.ntmps26
    go_wp2
    go_ret
    exact ⟨rfl, rfl⟩
set_option maxHeartbeats 4000000 in
theorem firstTwo_any (w : World) (lv : Value) (l : List Int) (h : Ints w lv l) : Calls Tryd.prog 45 #[lv] w fun e w' => e = .returned (.tuple #[.int .i64 (Ev.nth l 0), .int .i64 (Ev.nth l 1)]) ∧ w' = w := by
  by_cases h0 : 0 < l.length
  · obtain ⟨b, off, cap, rfl, hc, hm, hcl⟩ := h.at h0
    have c0 := hcl 0 h0
    rw [Nat.add_zero] at c0
    have e0 := hide (Ev.nth_zero l h0)
    by_cases h1 : 1 < l.length
    · have c1 := hcl 1 h1
      have e1 := hide (Ev.nth_one l h1)
      clear hcl h
      generalize l[0] = a at *
      generalize l[1] = c at *
      generalize hn : l.length = n at *
      have i0 : (0 : Int) < n := by omega
      have i1 : (1 : Int) < n := by omega
      go_enter Tryd.func45, Tryd.ntmps45
      go_wp2
      go_ret2
      exact ⟨by rw [unhide e0, unhide e1]; rfl, rfl⟩
    · have e1 := hide (Ev.nth_out l 1 h1)
      clear hcl h
      generalize l[0] = a at *
      generalize hn : l.length = n at *
      have i0 : (0 : Int) < n := by omega
      have i1 : ¬ (1 : Int) < n := by omega
      go_enter Tryd.func45, Tryd.ntmps45
      go_wp2
      go_ret2
      exact ⟨by rw [unhide e0, unhide e1]; rfl, rfl⟩
  · have e0 := hide (Ev.nth_out l 0 h0)
    have e1 := hide (Ev.nth_out l 1 (by omega))
    obtain ⟨a, cap, rfl⟩ := h.shape
    clear h
    generalize hn : l.length = n at *
    have i0 : ¬ (0 : Int) < n := by omega
    have i1 : ¬ (1 : Int) < n := by omega
    go_enter Tryd.func45, Tryd.ntmps45
    go_wp2
    go_ret2
    exact ⟨by rw [unhide e0, unhide e1]; rfl, rfl⟩
set_option maxHeartbeats 4000000 in
theorem quotient_any (w : World) (a b : Int) : Calls Tryd.prog 47 #[.int .i64 a, .int .i64 b] w fun e w' => ∃ f, e = .returned (.tuple #[.int .i64 (Ev.quoP a b).v, f]) ∧ Says w.heap.size w' f (Ev.quoP a b).word (Ev.quoP a b).at_ (Ev.quoP a b).err ∧ Below w.heap.size w w' := by
  by_cases hb : b = 0
  · have hq : Ev.quoP a b = .bad Ev.wDiv 0 13 := if_pos hb
    rw [hq]
    subst hb
    clear hq
    go_enter Tryd.func47, Tryd.ntmps47
    go_wp2
    go_ret2
    exact ⟨_, rfl, says_new _ w _ _ 0 13 (by decide) (Nat.le_refl _), alloc_below w _⟩
  · have hq : Ev.quoP a b = .ok (wrap64 (a.tdiv b)) := if_neg hb
    rw [hq]
    clear hq
    go_enter Tryd.func47, Tryd.ntmps47
    go_wp2
    go_ret2
    exact ⟨_, rfl, says_none _ _ _ _, Below.refl _ _⟩
end Go.Proofs.YtomnbidppkpfiaaDoor.Line
