/- The contracts of the reference's reader: fail, sign, took. -/
import Derived.Test.YtdpjipphbhomkaaGreatDoorAtB
import Derived.Test.YtdpjipphbhomkaaGreatDoorExprMem
import Derived.BigQuiet
import Derived.Deep.QuietTactic
namespace Go.Proofs.YtdpjipphbhomkaaGreatDoor.Line
open Go.ChangeShapes Go.WideShapes Go.ChangeAt Go.RowKit
open Ex (E St)
set_option linter.unusedVariables false

theorem isSign_err {T : List Words.T} {s : St} {c : List UInt8} (h : s.err ≠ 0) : Ex.isSign T s c = false := by unfold Ex.isSign; rw [decide_eq_false h]; rfl
theorem isSign_out {T : List Words.T} {s : St} {c : List UInt8} (h : ¬ s.pos < T.length) : Ex.isSign T s c = false := by unfold Ex.isSign; rw [List.getElem?_eq_none (by omega)]; simp
theorem isSign_at {T : List Words.T} {s : St} {c : List UInt8} (h0 : s.err = 0) (h : s.pos < T.length) : Ex.isSign T s c = (decide (T[s.pos].kind = 3) && decide (T[s.pos].text = c)) := by unfold Ex.isSign; rw [decide_eq_true h0, List.getElem?_eq_getElem h]; rfl
set_option maxHeartbeats 4000000 in
set_option maxRecDepth 100000 in
theorem rdSign_any (T : List Words.T) (L : Value) (w : World) (S : Nat → Prop) (rb : Nat) (s : St) (c : List UInt8) (hR : Rdr w S wExpr rb L s) (hT : Tks w L T) (hl : T.length ≤ 1000000) : Calls Tryz.prog 110 #[.pointer (some ⟨rb, 0, none⟩), .string ⟨c.toArray⟩] w fun e w' => e = .returned (.bool (Ex.isSign T s c)) ∧ ∃ n, w' = w.drewN n := by
  obtain ⟨h1, h2, -, h5, -, -⟩ := hR
  by_cases h0 : s.err = 0
  · rw [h0] at h5
    have h5' : w.cell? ⟨rb, 3, none⟩ = some (.int .i64 0) := h5
    clear h5
    by_cases hp : s.pos < T.length
    · rw [isSign_at h0 hp]
      rcases hT with ⟨_, _, _, hnil⟩ | ⟨b, off, cap, rfl, hcap, hcells⟩
      · exact absurd hp (by rw [hnil]; simp)
      obtain ⟨d0, d1, -, -⟩ := hcells s.pos hp
      have hp2 : (s.pos : Int) < T.length := by omega
      have q1 : decide (s.pos < T.length) = true := decide_eq_true hp
      clear hcells h0
      generalize T[s.pos].kind = k at *
      generalize T[s.pos].text = x at *
      generalize s.pos = p at *
      by_cases g1 : k = 3
      · have HG := hide g1
        have k1 : (k : Int) = 3 := by omega
        rw [k1] at d0
        clear k1 g1
        by_cases g2 : x = c
        · subst g2
          go_enter Tryz.func110, Tryz.ntmps110
          go_wp2_with fail
          go_quiet (fail)
          go_wp2
          go_ret
          exact ⟨ret_bool (by rw [unhide HG]; simp), _, rfl⟩
        · have k2 : (x == c) = false := beq_eq_false_iff_ne.2 g2
          have HG2 := hide g2
          clear g2
          go_enter Tryz.func110, Tryz.ntmps110
          go_wp2_with fail
          go_quiet (fail)
          go_wp2
          go_ret
          exact ⟨ret_bool (by rw [decide_eq_false (unhide HG2)]; simp), _, rfl⟩
      · have k1 : ((k : Int) == 3) = false := by rw [beq_eq_false_iff_ne]; omega
        have HG := hide g1
        clear g1
        go_enter Tryz.func110, Tryz.ntmps110
        go_wp2_with fail
        go_quiet (fail)
        go_wp2
        go_ret
        exact ⟨ret_bool (by rw [decide_eq_false (unhide HG)]; rfl), _, rfl⟩
    · rw [isSign_out hp]
      obtain ⟨a, cap, rfl⟩ := hT.shape
      have q1 : decide (s.pos < T.length) = false := decide_eq_false hp
      clear hT h0
      generalize s.pos = p at *
      go_enter Tryz.func110, Tryz.ntmps110
      go_wp2_with fail
      go_quiet (fail)
      go_wp2
      go_ret
      exact ⟨rfl, _, rfl⟩
  · rw [isSign_err h0]
    obtain ⟨a, cap, rfl⟩ := hT.shape
    have k1 : ((s.err : Int) == 0) = false := by rw [beq_eq_false_iff_ne]; omega
    clear hT h0
    generalize s.pos = p at *
    generalize s.err = er at *
    go_enter Tryz.func110, Tryz.ntmps110
    go_wp2_with fail
    go_quiet (fail)
    go_wp2
    go_ret
    exact ⟨rfl, _, rfl⟩
set_option maxHeartbeats 4000000 in
theorem rdTook_any (T : List Words.T) (L : Value) (w : World) (S : Nat → Prop) (rb : Nat) (s : St) (c : List UInt8) (hR : Rdr w S wExpr rb L s) (hT : Tks w L T) (hl : T.length ≤ 1000000) (hS : ¬ S rb) : Calls Tryz.prog 111 #[.pointer (some ⟨rb, 0, none⟩), .string ⟨c.toArray⟩] w fun e w' => e = .returned (.bool (Ex.isSign T s c)) ∧ Rdr w' S wExpr rb L (if Ex.isSign T s c then s.next else s) ∧ But rb w w' ∧ w'.heap.size = w.heap.size := by
  have HC := hide (rdSign_any T L w S rb s c hR hT hl)
  have HR := hide hR
  have hpl : Ex.isSign T s c = true → s.pos < T.length := fun h => by
    rcases Nat.lt_or_ge s.pos T.length with h1 | h1
    · exact h1
    · rw [isSign_out (by omega)] at h; cases h
  cases hb : Ex.isSign T s c
  · rw [hb] at HC
    clear hpl hR hT hb
    go_enter Tryz.func111, Tryz.ntmps111
    go_wp2_with fail
    refine (unhide HC).mono ?_
    rintro e w1 ⟨rfl, n, rfl⟩
    go_wp2
    go_ret
    exact ⟨rfl, (unhide HR).drewN n, (but_refl _ _).drewN n, rfl⟩
  · rw [hb] at HC
    have hp := hpl hb
    have hp2 : s.pos ≤ 1000000 := by omega
    clear hpl hR hT hb hp
    go_enter Tryz.func111, Tryz.ntmps111
    go_wp2_with fail
    refine (unhide HC).mono ?_
    rintro e w1 ⟨rfl, n, rfl⟩
    have HR2 := hide ((unhide HR).drewN n)
    have hc1 := (unhide HR2).pos
    have hf1 := (unhide HR2).fr.2.1
    go_wp2
    go_ret
    refine ⟨rfl, (unhide HR2).next hS, ((but_refl _ _).drewN n).set (.inr rfl) _, by simp [World.setCell]⟩
set_option maxHeartbeats 4000000 in
theorem rdFail_any (L : Value) (w : World) (S : Nat → Prop) (rb : Nat) (s : St) (k er : Nat) (hR : Rdr w S wExpr rb L s) (hS : ¬ S rb) (hN : ∀ b, w.heap.size ≤ b → S b) (he : er ≠ 0) : Calls Tryz.prog 109 #[.pointer (some ⟨rb, 0, none⟩), .int .i64 k, .int .i64 er] w fun e w' => e = .returned (.tuple #[]) ∧ Rdr w' S wExpr rb L (s.fail k er) ∧ But rb w w' := by
  have HR := hide hR
  have h5 := hR.err
  have hlt := hR.lt
  clear hR
  by_cases h0 : s.err = 0
  · rw [h0] at h5
    have h5' : w.cell? ⟨rb, 3, none⟩ = some (.int .i64 0) := h5
    clear h5
    have HF : Hid (s.fail k er = ⟨s.pos, er, k⟩) := hide (by unfold St.fail; rw [if_pos h0])
    rw [unhide HF]
    have HA := hide (at_any wExpr k er w)
    have HE := hide he
    clear h0 he
    go_enter Tryz.func109, Tryz.ntmps109
    go_wp2_with fail
    refine (unhide HA).mono ?_
    rintro e w1 ⟨b1, rfl, hb1, c0, c1, hB1⟩
    have HR1 := hide ((unhide HR).below hB1)
    obtain ⟨g0, g1, ⟨sl, g2, -⟩, g3, ⟨f0, f1, f2, f3⟩, g7⟩ := unhide HR1
    have H1 := hide (And.intro hB1 (And.intro c0 (And.intro c1 (hN b1 hb1))))
    clear hB1 c0 c1 hb1 hN
    go_wp2
    go_end0
    exact ⟨rfl, (unhide HR1).fails hS (unhide H1).2.2.2 (unhide HE) (unhide H1).2.1 (unhide H1).2.2.1, But.set (p := ⟨rb, 3, none⟩) (But.set (p := ⟨rb, 2, none⟩) (but_below (unhide H1).1) (.inr rfl) _) (.inr rfl) _⟩
  · have k1 : ((s.err : Int) == 0) = false := by rw [beq_eq_false_iff_ne]; omega
    have HF : Hid (s.fail k er = s) := hide (by unfold St.fail; rw [if_neg h0])
    rw [unhide HF]
    clear h0 he hN
    generalize s.err = er2 at *
    go_enter Tryz.func109, Tryz.ntmps109
    go_wp2
    go_end0
    exact ⟨rfl, unhide HR, but_refl _ _⟩
end Go.Proofs.YtdpjipphbhomkaaGreatDoor.Line
