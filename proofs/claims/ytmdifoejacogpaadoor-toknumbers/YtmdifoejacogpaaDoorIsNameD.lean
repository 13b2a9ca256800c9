/- The contracts of the project's IsKey, IsName as the law's known asks for them. -/
import Derived.Test.YtmdifoejacogpaaDoorLineD
import Derived.Test.YtmdifoejacogpaaDoorTokKnown
namespace Go.Proofs.YtmdifoejacogpaaDoor.Line
open Go.ChangeShapes Go.WideShapes Go.ChangeAt Go.RowKit
set_option linter.unusedVariables false

theorem isKey_spec : IsKeySpec := fun l w _ => (isKeyD_any l w).mono (fun e w' h => by rw [h.2]; exact ⟨h.1, Below.refl _ _⟩)
theorem isNameB_no {l : List UInt8} (h : ¬ (Words.toks l).2.1 = 0) : isNameB l = false := decide_eq_false (fun e => h (by rw [e]))
theorem isNameB_len {l : List UInt8} (h : ¬ (Words.toks l).1.length = 1) : isNameB l = false := decide_eq_false (fun e => h (by rw [e]; rfl))
theorem isNameB_one {l : List UInt8} {t : Words.T} (h0 : (Words.toks l).2.1 = 0) (h : (Words.toks l).1 = [t]) : isNameB l = (decide (t.kind = 1) && decide (t.text = l)) := by
  have hg := toks_good l
  have hv := Words.scanAt_valid l 0 t (by show t ∈ (Words.toks l).1; rw [h]; exact List.mem_cons_self ..)
  rw [h] at hg
  obtain ⟨_, g2, _, _, _⟩ := hg
  by_cases hc : t.kind = 1 ∧ t.text = l
  · obtain ⟨c1, c2⟩ := hc
    have hp : t.pos = 0 := by
      rw [c2] at g2
      omega
    have hn : t.n = 0 := by
      unfold Words.Valid Words.step at hv
      split at hv
      · cases hv
      · split at hv
        · split at hv
          · cases hv
          · injection hv with _ h2 _; exact h2.symm
        · split at hv
          · split at hv
            · cases hv
            · split at hv
              · cases hv
              · injection hv with h1 _ _; omega
          · split at hv
            · cases hv
            · injection hv with h1 _ _; omega
    have : isNameB l = true := by
      refine decide_eq_true ?_
      have e : Words.toks l = ((Words.toks l).1, (Words.toks l).2.1, (Words.toks l).2.2) := rfl
      rw [e, h, h0, show (Words.toks l).2.2 = 0 from (Words.scanAt_form l 0).1 h0]
      obtain ⟨k, x, p, n⟩ := t
      simp only at c1 c2 hp hn
      rw [c1, c2, hp, hn]
    rw [this, c1, c2]
    simp
  · have : isNameB l = false := by
      refine decide_eq_false (fun e => hc ?_)
      rw [e] at h
      injection h with h _
      subst h
      exact ⟨rfl, rfl⟩
    rw [this]
    rcases Decidable.not_and_iff_or_not.1 hc with h1 | h1
    · simp [h1]
    · simp [h1]
set_option maxHeartbeats 4000000 in
set_option maxRecDepth 100000 in
theorem isName_spec : IsNameSpec := by
  intro l w hl
  have HLN := hide (line_any l w hl)
  by_cases h0 : (Words.toks l).2.1 = 0
  · by_cases h1 : (Words.toks l).1.length = 1
    · obtain ⟨⟨k, x, ps, nn⟩, ht⟩ := List.length_eq_one_iff.1 h1
      rw [isNameB_one h0 ht]
      show Calls _ _ _ _ fun e w' => e = .returned (.bool (decide (k = 1) && decide (x = l))) ∧ Below w.heap.size w w'
      go_enter Tryd.func16, Tryd.ntmps16
      go_wp2_with fail
      refine (unhide HLN).mono ?_
      rintro e w1 ⟨u, g, er, rfl, ho, hs, hn, hb⟩
      obtain rfl := hn.same (by rw [h0]; decide)
      obtain rfl : g = .nilIface := by
        rcases hs with ⟨_, h⟩ | ⟨h, _⟩
        · exact h
        · exact absurd h0 h
      have HB := hide hb
      rw [ht] at ho
      rcases ho.tks with ⟨_, _, _, hnil⟩ | ⟨b, off, cap, rfl, hcap, hcells⟩
      · cases hnil
      obtain ⟨d0, d1, -, -⟩ := hcells 0 (by simp)
      simp only [List.getElem_cons_zero, Nat.zero_mul, Nat.add_zero] at d0 d1
      clear ho hs hn hb hcells HLN ht h1 h0
      have hcap2 : 1 ≤ cap := hcap
      by_cases g1 : k = 1
      · have HG1 := hide g1
        have k1 : (k : Int) = 1 := by omega
        rw [k1] at d0
        clear k1 g1
        by_cases g2 : x = l
        · subst g2
          go_wp2
          go_ret
          exact ⟨ret_bool (by rw [unhide HG1]; simp), unhide HB⟩
        · have k2 : (x == l) = false := beq_eq_false_iff_ne.2 g2
          have HG2 := hide g2
          clear g2
          go_wp2
          go_ret
          exact ⟨ret_bool (by rw [decide_eq_false (unhide HG2)]; simp), unhide HB⟩
      · have k1 : ((k : Int) == 1) = false := by rw [beq_eq_false_iff_ne]; omega
        have HG1 := hide g1
        clear g1
        go_wp2
        go_ret
        exact ⟨ret_bool (by rw [decide_eq_false (unhide HG1)]; rfl), unhide HB⟩
    · rw [isNameB_len h1]
      have k1 : (((Words.toks l).1.length : Int) == 1) = false := by rw [beq_eq_false_iff_ne]; omega
      go_enter Tryd.func16, Tryd.ntmps16
      go_wp2_with fail
      refine (unhide HLN).mono ?_
      rintro e w1 ⟨u, g, er, rfl, ho, hs, hn, hb⟩
      obtain rfl := hn.same (by rw [h0]; decide)
      obtain rfl : g = .nilIface := by
        rcases hs with ⟨_, h⟩ | ⟨h, _⟩
        · exact h
        · exact absurd h0 h
      have HB := hide hb
      obtain ⟨a, c, rfl⟩ := ho.tks.shape
      clear ho hs hn hb HLN h1 h0
      generalize (Words.toks l).1.length = n at *
      go_wp2
      go_ret
      exact ⟨rfl, unhide HB⟩
  · rw [isNameB_no h0]
    go_enter Tryd.func16, Tryd.ntmps16
    go_wp2_with fail
    refine (unhide HLN).mono ?_
    rintro e w1 ⟨u, g, er, rfl, ho, hs, hn, hb⟩
    have HB := hide hb
    rcases hs with ⟨h, _⟩ | ⟨_, b, _, rfl, _⟩
    · subst h
      rcases hn with h | ⟨_, h⟩
      · exact absurd h.symm h0
      · cases h
    obtain ⟨a, c, rfl⟩ := ho.tks.shape
    clear ho hn hb HLN h0
    generalize (Words.toks l).1.length = n at *
    go_wp2
    go_ret
    exact ⟨rfl, unhide HB⟩
end Go.Proofs.YtmdifoejacogpaaDoor.Line
