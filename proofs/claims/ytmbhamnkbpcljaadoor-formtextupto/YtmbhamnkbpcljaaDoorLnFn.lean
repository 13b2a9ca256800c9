/- Contracts of what is small: fault, unlike, over, Const, Index, factor, coef, few, Of. -/
import Derived.Test.YtmbhamnkbpcljaaDoorLnRef
import Derived.Test.YtmbhamnkbpcljaaDoorBaseAll
import Derived.Test.YtmbhamnkbpcljaaDoorLnBx
namespace Go.Proofs.YtmbhamnkbpcljaaDoor.Line
open Go.ChangeShapes Go.WideShapes Go.ChangeAt Go.RowKit
set_option linter.unusedVariables false

def wForm : List UInt8 := [102, 111, 114, 109]
abbrev FmT : TypeId := 24
abbrev RfT : TypeId := 31
abbrev WrT : TypeId := 34
theorem fault_any (k : Nat) (hk : k ≠ 0) (w : World) : Calls Tryd.prog 30 #[.int .i64 k] w fun e w' => ∃ f, e = .returned f ∧ Says w.heap.size w' f wForm 0 k ∧ Below w.heap.size w w' := by
  go_enter Tryd.func30, Tryd.ntmps30
  go_wp2_with fail
  go_ret
  exact ⟨_, rfl, says_new _ w _ wForm 0 k hk (Nat.le_refl _), alloc_below w _⟩
theorem unlike_any (w : World) : Calls Tryd.prog 32 #[] w fun e w' => ∃ b, e = .returned (.agg #[.slice (some ⟨b, 0, none⟩) 1 1, .int .i64 1]) ∧ Told w.heap.size w' (.agg #[.slice (some ⟨b, 0, none⟩) 1 1, .int .i64 1]) wForm 0 1 ∧ Below w.heap.size w w' := by
  have HA := hide (fun w => at_any wForm 0 1 w)
  have HB := hide (Bx.new w (.slice none 0 0) (.int .i64 0) WrT)
  have HW := hide (alloc_below w (.cells #[.slice none 0 0, .int .i64 0] WrT))
  go_enter Tryd.func32, Tryd.ntmps32
  go_wp2_with fail
  refine (unhide HA _).mono ?_
  rintro e w2 ⟨b, rfl, hb, h0, h1, hB⟩
  obtain ⟨c0, c1, f0, f1, lt⟩ := (unhide HB).keep hB
  have hlt : w.heap.size < b := by have : w.heap.size + 1 ≤ b := by simpa using hb
                                   omega
  have HT := hide ((((told_new (B := b) (err := 1) (by decide) (Nat.le_refl _) h0 h1).setCell ⟨w.heap.size, 0, none⟩ hlt (.slice (some ⟨b, 0, none⟩) 1 1)).setCell ⟨w.heap.size, 1, none⟩ hlt (.int .i64 1)).mono (Nat.le_of_lt hlt))
  have HW2 := hide (((bthen (unhide HW) hB).setCell (p := (⟨w.heap.size, 0, none⟩ : Addr)) (Nat.le_refl _) (.slice (some ⟨b, 0, none⟩) 1 1)).setCell (p := (⟨w.heap.size, 1, none⟩ : Addr)) (Nat.le_refl _) (.int .i64 1))
  clear hB HB HW hb h0 h1
  go_wp2_with fail
  exact bodyPost_ret (v := .agg #[.slice (some ⟨b, 0, none⟩) 1 1, .int .i64 1]) (by simp [results, Tryd.results32, go_sem, c0, c1]) rfl ⟨_, rfl, unhide HT, unhide HW2⟩
theorem over_any (w : World) : Calls Tryd.prog 34 #[] w fun e w' => ∃ b, e = .returned (.agg #[.slice (some ⟨b, 0, none⟩) 1 1, .int .i64 5]) ∧ Told w.heap.size w' (.agg #[.slice (some ⟨b, 0, none⟩) 1 1, .int .i64 5]) wForm 0 5 ∧ Below w.heap.size w w' := by
  have HA := hide (fun w => at_any wForm 0 5 w)
  have HB := hide (Bx.new w (.slice none 0 0) (.int .i64 0) WrT)
  have HW := hide (alloc_below w (.cells #[.slice none 0 0, .int .i64 0] WrT))
  go_enter Tryd.func34, Tryd.ntmps34
  go_wp2_with fail
  refine (unhide HA _).mono ?_
  rintro e w2 ⟨b, rfl, hb, h0, h1, hB⟩
  obtain ⟨c0, c1, f0, f1, lt⟩ := (unhide HB).keep hB
  have hlt : w.heap.size < b := by have : w.heap.size + 1 ≤ b := by simpa using hb
                                   omega
  have HT := hide ((((told_new (B := b) (err := 5) (by decide) (Nat.le_refl _) h0 h1).setCell ⟨w.heap.size, 0, none⟩ hlt (.slice (some ⟨b, 0, none⟩) 1 1)).setCell ⟨w.heap.size, 1, none⟩ hlt (.int .i64 5)).mono (Nat.le_of_lt hlt))
  have HW2 := hide (((bthen (unhide HW) hB).setCell (p := (⟨w.heap.size, 0, none⟩ : Addr)) (Nat.le_refl _) (.slice (some ⟨b, 0, none⟩) 1 1)).setCell (p := (⟨w.heap.size, 1, none⟩ : Addr)) (Nat.le_refl _) (.int .i64 5))
  clear hB HB HW hb h0 h1
  go_wp2_with fail
  exact bodyPost_ret (v := .agg #[.slice (some ⟨b, 0, none⟩) 1 1, .int .i64 5]) (by simp [results, Tryd.results34, go_sem, c0, c1]) rfl ⟨_, rfl, unhide HT, unhide HW2⟩

/- factor, coef, few, Of -/
theorem getD_lt (l : List Int) (i : Nat) (h : i < l.length) : l.getD i 0 = l[i] := by simp [h]
theorem getD_ge (l : List Int) (i : Nat) (h : l.length ≤ i) : l.getD i 0 = 0 := by simp [h]
theorem factor_any (w : World) (cv : Value) (k : Int) (c : List Int) (i : Nat) (h : Ints w cv c) (hi : i ≤ 100000) : Calls Tryd.prog 40 #[formV cv k, .int .i64 i] w fun e w' => e = .returned (.int .i64 (c.getD i 0)) ∧ Below w.heap.size w w' := by
  have HI := hide (h.below (alloc_below w (.cells #[cv, .int .i64 k] FmT)))
  have HW := hide (alloc_below w (.cells #[cv, .int .i64 k] FmT))
  by_cases hlt : i < c.length
  · obtain ⟨b, off, cap, rfl, h1, h2, h3⟩ := h.at (by omega)
    have hc := unhide HI
    obtain ⟨b', off', cap', e, _, _, h4⟩ := hc.at (by omega)
    injection e with e1 e2 e3
    injection e1 with e1
    injection e1 with e1 e5
    subst e1 e5
    have c2 := h4 i hlt
    rw [getD_lt c i hlt]
    have hlt' : (i : Int) < (c.length : Int) := by omega
    have hmx : c.length ≤ 9223372036854775807 := by unfold maxLen at h2; omega
    clear h h4 h3 hc e2 e3
    generalize c[i] = x at *
    generalize c.length = n at *
    go_enter Tryd.func40, Tryd.ntmps40
    go_wp2_with fail
    go_ret
    exact ⟨rfl, unhide HW⟩
  · obtain ⟨a, cap, rfl⟩ := h.shape
    rw [getD_ge c i (by omega)]
    have hlt' : ¬ (i : Int) < (c.length : Int) := by omega
    generalize c.length = n at *
    go_enter Tryd.func40, Tryd.ntmps40
    go_wp2_with fail
    go_ret
    exact ⟨rfl, unhide HW⟩
theorem coef_any (w : World) (cv : Value) (k : Int) (c : List Int) (i : Nat) (h : Ints w cv c) (hi : i ≤ 100000) : Calls Tryd.prog 39 #[formV cv k, .int .i64 i] w fun e w' => e = .returned (.int .i64 (c.getD i 0)) ∧ Below w.heap.size w w' := by
  have HI := hide (h.below (alloc_below w (.cells #[cv, .int .i64 k] RfT)))
  have HW := hide (alloc_below w (.cells #[cv, .int .i64 k] RfT))
  by_cases hlt : i < c.length
  · obtain ⟨b, off, cap, rfl, h1, h2, h3⟩ := h.at (by omega)
    have hc := unhide HI
    obtain ⟨b', off', cap', e, _, _, h4⟩ := hc.at (by omega)
    injection e with e1 e2 e3
    injection e1 with e1
    injection e1 with e1 e5
    subst e1 e5
    have c2 := h4 i hlt
    rw [getD_lt c i hlt]
    have hlt' : ¬ (c.length : Int) ≤ (i : Int) := by omega
    have hlt'' : (i : Int) < (c.length : Int) := by omega
    have hmx : c.length ≤ 9223372036854775807 := by unfold maxLen at h2; omega
    clear h h4 h3 hc e2 e3
    generalize c[i] = x at *
    generalize c.length = n at *
    go_enter Tryd.func39, Tryd.ntmps39
    go_wp2_with fail
    go_ret
    exact ⟨rfl, unhide HW⟩
  · obtain ⟨a, cap, rfl⟩ := h.shape
    rw [getD_ge c i (by omega)]
    have hlt' : (c.length : Int) ≤ (i : Int) := by omega
    generalize c.length = n at *
    go_enter Tryd.func39, Tryd.ntmps39
    go_wp2_with fail
    go_ret
    exact ⟨rfl, unhide HW⟩
theorem few_any (w : World) (a : Option Addr) (n cap : Nat) (k : Int) : Calls Tryd.prog 10 #[formV (.slice a n cap) k] w fun e w' => e = .returned (.bool (decide ((n : Int) ≤ 20))) ∧ Below w.heap.size w w' := by
  have HW := hide (alloc_below w (.cells #[.slice a n cap, .int .i64 k] FmT))
  go_enter Tryd.func10, Tryd.ntmps10
  go_wp2_with fail
  go_ret
  exact ⟨rfl, unhide HW⟩
theorem ofF_any (w : World) (sa : Option Addr) (n cap : Nat) (k : Int) : Calls Tryd.prog 13 #[formV (.slice sa n cap) k] w fun e w' => e = .returned (formV (.slice sa n cap) k) ∧ Below w.heap.size w w' := by
  have HW := hide (bthen (alloc_below w (.cells #[.slice sa n cap, .int .i64 k] FmT)) (alloc_below _ (.cells #[.slice sa n cap, .int .i64 k] RfT)))
  go_enter Tryd.func13, Tryd.ntmps13
  go_wp2_with fail
  exact bodyPost_ret (v := formV (.slice sa n cap) k) (by simp [results, Tryd.results13, go_sem]) rfl ⟨rfl, by simpa using unhide HW⟩
end Go.Proofs.YtmbhamnkbpcljaaDoor.Line
