/- Plain: where words lie, how many there are. -/
import Derived.Test.YtbpmfkikhackfaaGreatDoorPlainTok
namespace Go.Proofs.YtbpmfkikhackfaaGreatDoor.Line
set_option linter.unusedVariables false

theorem toks_goodW (l : List UInt8) : Words.Good l 0 (Words.toks l).1 := by
  by_cases h : (Words.toks l).2.1 = 0
  · exact Words.scanAt_good l 0 h
  · rw [show (Words.toks l).1 = [] from (Words.scanAt_form l 0).2 h]; trivial
theorem toks_countW (l : List UInt8) : (Words.toks l).1.length ≤ l.length := by
  have key : ∀ (T : List Words.T) a, Words.Good l a T → (∀ t ∈ T, 0 < t.text.length) → a + T.length ≤ l.length ∨ T = [] := by
    intro T
    induction T with
    | nil => intro a _ _; exact .inr rfl
    | cons t T ih =>
      intro a h hp
      obtain ⟨h1, h2, _, _, h5⟩ := h
      have h6 := hp t (List.mem_cons_self ..)
      rcases ih _ h5 (fun x hx => hp x (List.mem_cons_of_mem _ hx)) with h7 | h7
      · left; rw [List.length_cons]; omega
      · left; subst h7; simp; omega
  have hpos : ∀ i, ∀ t ∈ (Words.scanAt l i).1, 0 < t.text.length := by
    refine Words.scanAt_ind l _ (fun i h => ?_) (fun i h hs ih => ?_) (fun i e o h hs => ?_) (fun i kd n k h hs ih => ?_)
    · rw [Words.scanAt_end l i h]; intro t ht; cases ht
    · rw [Words.scanAt_blank h hs]; exact ih
    · rw [Words.scanAt_bad h hs]; intro t ht; cases ht
    · rw [Words.scanAt_tok h hs]
      unfold Words.also
      split
      · intro t ht
        rcases List.mem_cons.1 ht with rfl | h2
        · have hk := Words.step_len hs
          show 0 < ((l.drop i).take k).length
          rw [List.length_take]; omega
        · exact ih t h2
      · intro t ht; cases ht
  rcases key _ 0 (toks_goodW l) (hpos 0) with h | h
  · omega
  · rw [h]; simp
end Go.Proofs.YtbpmfkikhackfaaGreatDoor.Line
