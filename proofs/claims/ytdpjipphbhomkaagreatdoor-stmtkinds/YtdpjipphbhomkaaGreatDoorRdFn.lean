/- The contracts of the project's reader: signAt, sign, kindOf, compares, binds, operationEnds. -/
import Derived.Test.YtdpjipphbhomkaaGreatDoorRdMem
import Derived.BigQuiet
import Derived.Deep.QuietTactic
namespace Go.Proofs.YtdpjipphbhomkaaGreatDoor.Line
open Go.ChangeShapes Go.WideShapes Go.ChangeAt Go.RowKit
open Ex (E St)
set_option linter.unusedVariables false

theorem sg_at {T : List Words.T} {p : Nat} (hp : p < T.length) : Ex.sg T p = if T[p].kind = 3 then T[p].text else [] := by unfold Ex.sg; rw [List.getElem?_eq_getElem hp]
theorem sg_out {T : List Words.T} {p : Nat} (hp : ¬ p < T.length) : Ex.sg T p = [] := by unfold Ex.sg; rw [List.getElem?_eq_none (by omega)]
set_option maxHeartbeats 4000000 in
set_option maxRecDepth 100000 in
theorem signAt_any (T : List Words.T) (L : Value) (w : World) (p : Nat) (hT : Tks w L T) (hl : T.length ≤ 1000000) (hp1 : p ≤ 1000001) : Calls Tryz.prog 131 #[L, .int .i64 p] w fun e w' => e = .returned (.string ⟨(Ex.sg T p).toArray⟩) ∧ w' = w := by
  by_cases hp : p < T.length
  · rw [sg_at hp]
    rcases hT with ⟨_, _, _, hnil⟩ | ⟨b, off, cap, rfl, hcap, hcells⟩
    · exact absurd hp (by rw [hnil]; simp)
    obtain ⟨d0, d1, -, -⟩ := hcells p hp
    have hp2 : (p : Int) < T.length := by omega
    have q1 : decide (T.length ≤ p) = false := decide_eq_false (by omega)
    clear hcells
    generalize T[p].kind = k at *
    generalize T[p].text = x at *
    by_cases g1 : k = 3
    · rw [if_pos g1]
      have k1 : (k : Int) = 3 := by omega
      rw [k1] at d0
      clear k1 g1
      go_enter Tryz.func131, Tryz.ntmps131
      go_wp2
      go_ret
      exact ⟨rfl, rfl⟩
    · rw [if_neg g1]
      have k1 : ((k : Int) == 3) = false := by rw [beq_eq_false_iff_ne]; omega
      have k2 : ¬ (k : Int) = 3 := by omega
      have k3 : ((k : Int) != 3) = true := by simp [bne, k1]
      clear g1
      go_enter Tryz.func131, Tryz.ntmps131
      go_wp2
      go_ret
      exact ⟨rfl, rfl⟩
  · rw [sg_out hp]
    obtain ⟨a, cap, rfl⟩ := hT.shape
    have q1 : decide (T.length ≤ p) = true := decide_eq_true (by omega)
    clear hT
    go_enter Tryz.func131, Tryz.ntmps131
    go_wp2
    go_ret
    exact ⟨rfl, rfl⟩
set_option maxHeartbeats 4000000 in
set_option maxRecDepth 100000 in
theorem rsign_any (T : List Words.T) (L : Value) (w : World) (base rb : Nat) (X : Nat → Prop) (pos d : Nat) (v : Value) (K : List (E × Value)) (hi : Nat) (hR : Rd w base rb X L pos d v K hi) (hT : Tks w L T) (hl : T.length ≤ 1000000) (hp1 : pos ≤ 1000001) : Calls Tryz.prog 159 #[.pointer (some ⟨rb, 0, none⟩)] w fun e w' => e = .returned (.string ⟨(Ex.sg T pos).toArray⟩) ∧ ∃ n, w' = w.drewN n := by
  have HC : Hid (∀ n, Calls Tryz.prog 131 #[L, .int .i64 pos] (w.drewN n) fun e w' => e = .returned (.string ⟨(Ex.sg T pos).toArray⟩) ∧ w' = w.drewN n) := hide (fun n => signAt_any T L (w.drewN n) pos (hT.drewN n) hl hp1)
  obtain ⟨a, cap, hL⟩ := hT.shape
  have h1 := hR.c0
  have h2 := hR.c1
  subst hL
  clear hR hT
  generalize Ex.sg T pos = x at *
  go_enter Tryz.func159, Tryz.ntmps159
  go_wp2_with fail
  go_quiet ((go_at_call 131; refine Calls.quiet_of_same (unhide HC _)))
  go_wp2
  go_ret
  exact ⟨rfl, _, rfl⟩
set_option maxHeartbeats 4000000 in
theorem kindOf_any (c : List UInt8) (w : World) : Calls Tryz.prog 161 #[.string ⟨c.toArray⟩] w fun e w' => e = .returned (.int .i64 (Ex.opOf c)) ∧ w' = w := by
  unfold Ex.opOf
  by_cases c1 : c = [43]
  · subst c1
    go_enter Tryz.func161, Tryz.ntmps161
    go_wp2
    go_ret
    exact ⟨rfl, rfl⟩
  by_cases c2 : c = [45]
  · subst c2
    go_enter Tryz.func161, Tryz.ntmps161
    go_wp2
    go_ret
    exact ⟨rfl, rfl⟩
  by_cases c3 : c = [42]
  · subst c3
    go_enter Tryz.func161, Tryz.ntmps161
    go_wp2
    go_ret
    exact ⟨rfl, rfl⟩
  by_cases c4 : c = [47]
  · subst c4
    go_enter Tryz.func161, Tryz.ntmps161
    go_wp2
    go_ret
    exact ⟨rfl, rfl⟩
  · have k1 : (c == [43]) = false := beq_eq_false_iff_ne.2 c1
    have k2 : (c == [45]) = false := beq_eq_false_iff_ne.2 c2
    have k3 : (c == [42]) = false := beq_eq_false_iff_ne.2 c3
    have k4 : (c == [47]) = false := beq_eq_false_iff_ne.2 c4
    rw [if_neg c1, if_neg c2, if_neg c3, if_neg c4]
    clear c1 c2 c3 c4
    go_enter Tryz.func161, Tryz.ntmps161
    go_wp2
    go_ret
    exact ⟨rfl, rfl⟩
set_option maxHeartbeats 4000000 in
theorem binds_any (k : Int) (w : World) : Calls Tryz.prog 137 #[.int .i64 k] w fun e w' => e = .returned (.int .i64 (Ex.bindOf k)) ∧ w' = w := by
  unfold Ex.bindOf
  by_cases c1 : k = 4
  · subst c1
    go_enter Tryz.func137, Tryz.ntmps137
    go_wp2
    go_ret
    exact ⟨rfl, rfl⟩
  by_cases c2 : k = 7
  · subst c2
    go_enter Tryz.func137, Tryz.ntmps137
    go_wp2
    go_ret
    exact ⟨rfl, rfl⟩
  by_cases c3 : k = 8
  · subst c3
    go_enter Tryz.func137, Tryz.ntmps137
    go_wp2
    go_ret
    exact ⟨rfl, rfl⟩
  by_cases c4 : k = 5
  · subst c4
    go_enter Tryz.func137, Tryz.ntmps137
    go_wp2
    go_ret
    exact ⟨rfl, rfl⟩
  by_cases c5 : k = 6
  · subst c5
    go_enter Tryz.func137, Tryz.ntmps137
    go_wp2
    go_ret
    exact ⟨rfl, rfl⟩
  · have k1 : (k == 4) = false := beq_eq_false_iff_ne.2 c1
    have k2 : (k == 7) = false := beq_eq_false_iff_ne.2 c2
    have k3 : (k == 8) = false := beq_eq_false_iff_ne.2 c3
    have k4 : (k == 5) = false := beq_eq_false_iff_ne.2 c4
    have k5 : (k == 6) = false := beq_eq_false_iff_ne.2 c5
    rw [if_neg c1, if_neg (by simp [c2, c3]), if_neg (by simp [c4, c5])]
    clear c1 c2 c3 c4 c5
    go_enter Tryz.func137, Tryz.ntmps137
    go_wp2
    go_ret
    exact ⟨rfl, rfl⟩
def endsB (K : List (E × Value)) (nx : Int) : Bool := match K with
  | [] => false
  | y :: _ => decide (0 < Ex.bindOf y.1.kind) && decide (Ex.bindOf nx ≤ Ex.bindOf y.1.kind)
set_option maxHeartbeats 4000000 in
set_option maxRecDepth 100000 in
theorem opEnds_any (L : Value) (w : World) (base rb : Nat) (X : Nat → Prop) (pos d : Nat) (v : Value) (K : List (E × Value)) (hi : Nat) (nx : Int) (hR : Rd w base rb X L pos d v K hi) (hp1 : pos ≤ 1000001) : Calls Tryz.prog 162 #[.pointer (some ⟨rb, 0, none⟩), .int .i64 nx] w fun e w' => e = .returned (.bool (endsB K nx)) ∧ ∃ n, w' = w.drewN n := by
  have hkl := hR.kl
  have h2 := hR.c2
  cases K with
  | nil =>
    obtain ⟨a, cap, hv⟩ := hR.shape
    subst hv
    clear hR
    go_enter Tryz.func162, Tryz.ntmps162
    go_wp2
    go_ret
    exact ⟨rfl, 0, rfl⟩
  | cons y K =>
    obtain ⟨g, cap, m, ps, rfl, hcap, hmax, hg1, hg2, hgX, ⟨t0, -, -, -⟩, -, -, -, -, -, -, -⟩ := hR.top
    have HC : Hid (∀ n, Calls Tryz.prog 137 #[.int .i64 y.1.kind] (w.drewN n) fun e w' => e = .returned (.int .i64 (Ex.bindOf y.1.kind)) ∧ w' = w.drewN n) := hide (fun n => binds_any _ _)
    have HN : Hid (∀ w, Calls Tryz.prog 137 #[.int .i64 nx] w fun e w' => e = .returned (.int .i64 (Ex.bindOf nx)) ∧ w' = w) := hide (fun w => binds_any _ _)
    have hE : endsB (y :: K) nx = (decide (0 < Ex.bindOf y.1.kind) && decide (Ex.bindOf nx ≤ Ex.bindOf y.1.kind)) := rfl
    rw [hE]
    simp only [List.length_cons] at hkl
    have hlen : ((K.length + 1 : Nat) : Int) = (K.length : Int) + 1 := by omega
    clear hR hE
    generalize Ex.bindOf y.1.kind = A at *
    generalize Ex.bindOf nx = B at *
    generalize y.1.kind = kd at *
    generalize K.length = n at *
    by_cases hA : 0 < A
    · have q1 : decide (0 < A) = true := decide_eq_true hA
      rw [q1]
      by_cases hB : B ≤ A
      · have q2 : decide (B ≤ A) = true := decide_eq_true hB
        rw [q2]
        go_enter Tryz.func162, Tryz.ntmps162
        go_wp2_with fail
        go_quiet ((go_at_call 137; refine Calls.quiet_of_same (unhide HC _)))
        go_wp2_with fail
        refine (unhide HN _).mono ?_
        rintro e w1 ⟨rfl, rfl⟩
        go_wp2
        go_ret
        exact ⟨rfl, _, rfl⟩
      · have q2 : decide (B ≤ A) = false := decide_eq_false hB
        rw [q2]
        go_enter Tryz.func162, Tryz.ntmps162
        go_wp2_with fail
        go_quiet ((go_at_call 137; refine Calls.quiet_of_same (unhide HC _)))
        go_wp2_with fail
        refine (unhide HN _).mono ?_
        rintro e w1 ⟨rfl, rfl⟩
        go_wp2
        go_ret
        exact ⟨rfl, _, rfl⟩
    · have q1 : decide (0 < A) = false := decide_eq_false hA
      rw [q1]
      go_enter Tryz.func162, Tryz.ntmps162
      go_wp2_with fail
      go_quiet ((go_at_call 137; refine Calls.quiet_of_same (unhide HC _)))
      go_wp2
      go_ret
      exact ⟨rfl, _, rfl⟩
end Go.Proofs.YtdpjipphbhomkaaGreatDoor.Line
