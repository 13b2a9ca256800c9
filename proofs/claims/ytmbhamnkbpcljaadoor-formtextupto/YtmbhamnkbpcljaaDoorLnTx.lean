/- Contracts of the program's Text. -/
import Derived.Test.YtmbhamnkbpcljaaDoorLnSh
import Derived.Test.YtmbhamnkbpcljaaDoorLnPl3
import Derived.Test.YtmbhamnkbpcljaaDoorLnCst
namespace Go.Proofs.YtmbhamnkbpcljaaDoor.Line
open Go.ChangeShapes Go.WideShapes Go.ChangeAt Go.RowKit
set_option linter.unusedVariables false

theorem wpList_append_runT (t u : TypeId) {ops : Array Oper} {rest : List Oper} {o : Oper} {a : Act} {w : World} {Q : Exit → Act → World → Prop} (hgd : o.guard = none) (s x : Operand)
    (ho : o.op = .call { callee := .builtin .append, args := #[s, x], argTypes := #[t, u] }) (hty : o.type = t) (sv xv : Value) (hs : a.eval s = sv) (hx : a.eval x = xv) (v' : Value) (w' : World)
    (hr : (Builtin.append_ #[t, u] t #[sv, xv]).run Tryd.prog w = .ok v' w') (h : wpList Tryd.prog ops Q rest (a.put o.dst v') w') : wpList Tryd.prog ops Q (o :: rest) a w := by
  refine wpList_plain hgd fun K hK => ?_
  unfold Oper.wp execOp
  simp only [ho, hty, resolve, invoke, builtin, Sem.run_bind, Sem.run_pure, Result.andThen_ok, List.map_toArray, List.map_cons, List.map_nil, hs, hx, hr]
  exact hK _ _ h
theorem lsize_any (c : Int) (w : World) (h : In64 c) : Calls Tryd.prog 46 #[.int .i64 c] w fun e w' => e = .returned (.int .u64 (c.natAbs : Int)) ∧ w' = w := by
  obtain ⟨h1, h2⟩ := h
  go_enter Tryd.func46, Tryd.ntmps46
  go_wp2
  all_goals go_ret
  · exact ⟨ret_int (by rw [IntKind.wrap_u64, IntKind.wrap_u64]; omega), rfl⟩
  · exact ⟨ret_int (by omega), rfl⟩
set_option maxHeartbeats 4000000 in
set_option maxRecDepth 100000 in
theorem sign_any (B : Nat) (w : World) (v : Value) (l : List UInt8) (n : Int) (hs : OwnB B w v l) (hB : B ≤ w.heap.size) (hl : l.length + 3 ≤ 140737488355328) :
    Calls Tryd.prog 45 #[v, .int .i64 n] w fun e w' => ∃ v', e = .returned v' ∧ OwnB B w' v' (l ++ signT l.isEmpty (decide (n < 0))) ∧ Below B w w' := by
  obtain ⟨v1, w1, r1, o1, b1⟩ := append_str [32, 45, 32] hs hB hl
  obtain ⟨v2, w2, r2, o2, b2⟩ := append_str [32, 43, 32] hs hB hl
  obtain ⟨v3, w3, r3, o3, b3⟩ := append_b (45 : UInt8) 45 rfl hs hB (by omega)
  have HS := hide hs
  obtain ⟨a, cap, rfl⟩ := hs.shape
  have R1 := hide r1
  have R2 := hide r2
  have R3 := hide r3
  clear r1 r2 r3
  have H1 := hide (And.intro o1 b1)
  have H2 := hide (And.intro o2 b2)
  have H3 := hide (And.intro o3 b3)
  clear o1 b1 o2 b2 o3 b3 hs
  have hl9 : l.length ≤ 9223372036854775807 := by omega
  by_cases h0 : l = []
  · subst h0
    by_cases hn : n < 0
    · have hd : decide (n < 0) = true := decide_eq_true hn
      rw [hd]
      go_enter Tryd.func45, Tryd.ntmps45
      go_wp2_with (at_builtin; refine wpList_append_runT BST BST rfl _ _ rfl rfl _ _ rfl rfl _ _ (unhide R3) ?_)
      go_ret
      exact ⟨v3, rfl, (unhide H3).1, (unhide H3).2⟩
    · have hd : decide (n < 0) = false := decide_eq_false hn
      rw [hd]
      go_enter Tryd.func45, Tryd.ntmps45
      go_wp2_with fail
      go_ret
      exact ⟨_, rfl, unhide HS, Below.refl _ _⟩
  · have he : l.isEmpty = false := by cases l with | nil => exact absurd rfl h0 | cons => rfl
    have hz : ((l.length : Int) == 0) = false := by
      rw [beq_eq_false_iff_ne]
      have : l.length ≠ 0 := fun e => h0 (List.eq_nil_of_length_eq_zero e)
      omega
    rw [he]
    have HQ : Hid (l ++ signT false true = l ++ [32, 45, 32] ∧ l ++ signT false false = l ++ [32, 43, 32]) := hide ⟨rfl, rfl⟩
    generalize hll : l.length = k at *
    by_cases hn : n < 0
    · have hd : decide (n < 0) = true := decide_eq_true hn
      rw [hd, (unhide HQ).1]
      go_enter Tryd.func45, Tryd.ntmps45
      go_wp2_with (at_builtin; refine wpList_append_runT BST STR rfl _ _ rfl rfl _ _ rfl rfl _ _ (unhide R1) ?_)
      go_ret
      exact ⟨v1, rfl, (unhide H1).1, (unhide H1).2⟩
    · have hd : decide (n < 0) = false := decide_eq_false hn
      rw [hd, (unhide HQ).2]
      go_enter Tryd.func45, Tryd.ntmps45
      go_wp2_with (at_builtin; refine wpList_append_runT BST STR rfl _ _ rfl rfl _ _ rfl rfl _ _ (unhide R2) ?_)
      go_ret
      exact ⟨v2, rfl, (unhide H2).1, (unhide H2).2⟩
set_option maxHeartbeats 4000000 in
set_option maxRecDepth 100000 in
theorem lname_any (w : World) (nv : Value) (names : List (List UInt8)) (i : Nat) (hr : Row w nv names) (hi : i < 100) (hl : names.length ≤ 1000) :
    Calls Tryd.prog 43 #[nv, .int .i64 i] w fun e w' => e = .returned (.string ⟨(nameT names i).toArray⟩) ∧ w' = w := by
  have HI := hide (itoaS_any i hi w)
  have hc : (⟨#[120]⟩ : ByteArray) ++ ⟨(Lib.decDigits i).toArray⟩ = ⟨(120 :: Lib.decDigits i).toArray⟩ := cat2 [120] _
  have hdl : (Lib.decDigits i).length ≤ 20 := decDigits_le i (by omega)
  by_cases h1 : i < names.length
  · have hg : names.getD i [] = names[i] := by simp [h1]
    rcases hr with ⟨a, cap, rfl, rfl⟩ | ⟨b, off, cap, rfl, hcap, hcl⟩
    · simp at h1
    have cl := hcl i h1
    by_cases h2 : names[i] = []
    · have HN : Hid (nameT names i = 120 :: Lib.decDigits i) := hide (by unfold nameT; rw [if_neg]; intro h; exact h.2 (hg.trans h2))
      rw [unhide HN]
      rw [h2] at cl
      have h1' : (i : Int) < (names.length : Int) := by omega
      clear hcl hg h2
      generalize names.length = n at *
      generalize Lib.decDigits i = dg at *
      go_enter Tryd.func43, Tryd.ntmps43
      go_wp2_with fail
      refine (unhide HI).mono ?_
      rintro e w' ⟨rfl, hw⟩
      have hw := hw.symm
      subst hw
      go_wp2_with fail
      go_ret
      exact ⟨rfl, rfl⟩
    · have HN : Hid (nameT names i = names[i]) := hide (by unfold nameT; rw [if_pos]; exact hg; exact ⟨h1, fun h => h2 (hg.symm.trans h)⟩)
      rw [unhide HN]
      have h1' : (i : Int) < (names.length : Int) := by omega
      have hne : (names[i]).isEmpty = false := by
        cases hx : names[i] with
        | nil => exact absurd hx h2
        | cons a b => rfl
      clear hcl hg h2 HN
      generalize names[i] = nm at *
      generalize names.length = n at *
      go_enter Tryd.func43, Tryd.ntmps43
      go_wp2_with fail
      go_ret
      exact ⟨rfl, rfl⟩
  · have HN : Hid (nameT names i = 120 :: Lib.decDigits i) := hide (by unfold nameT; rw [if_neg]; intro h; exact h1 h.1)
    rw [unhide HN]
    obtain ⟨a, cap, rfl⟩ : ∃ a cap, nv = .slice a names.length cap := by
      rcases hr with ⟨a, cap, rfl, rfl⟩ | ⟨b, off, cap, rfl, hcap, hcl⟩
      · exact ⟨a, cap, rfl⟩
      · exact ⟨_, cap, rfl⟩
    have h1' : ¬ (i : Int) < (names.length : Int) := by omega
    clear hr
    generalize names.length = n at *
    generalize Lib.decDigits i = dg at *
    go_enter Tryd.func43, Tryd.ntmps43
    go_wp2_with fail
    refine (unhide HI).mono ?_
    rintro e w' ⟨rfl, hw⟩
    have hw := hw.symm
    subst hw
    go_wp2_with fail
    go_ret
    exact ⟨rfl, rfl⟩
theorem appUint_any (B u : Nat) (hu : u < 18446744073709551616) (v : Value) (l : List UInt8) (w : World) (hs : OwnB B w v l) (hB : B ≤ w.heap.size) (hl : l.length + 20 ≤ 140737488355328) (ht : Tab w) :
    Calls Tryd.prog 44 #[v, .int .u64 u, .int .i64 10] w fun e w' => ∃ v', e = .returned v' ∧ OwnB B w' v' (l ++ Lib.decDigits u) ∧ Below B w w' := by
  have HA := hide (appU_any B u hu v l w hs hB hl ht)
  clear hs
  go_enter Tryd.func44, Tryd.ntmps44
  go_wp2_with fail
  refine (unhide HA).mono ?_
  rintro e w' ⟨v', rfl, ho, hb⟩
  go_wp2_with fail
  go_ret
  exact ⟨v', rfl, ho, hb⟩
end Go.Proofs.YtmbhamnkbpcljaaDoor.Line
