/- What stage 4's walks ask of the project's Line, of known, of Tells; where words lie, how many there are. -/
import Derived.Test.YtmdifoejacogpaaDoorTokMem
import Derived.Test.YtmdifoejacogpaaDoorGlobB
import Derived.Test.YtmdifoejacogpaaDoorPlainLine
namespace Go.Proofs.YtmdifoejacogpaaDoor.Line
open Go.ChangeShapes Go.WideShapes Go.ChangeAt Go.RowKit
set_option linter.unusedVariables false

/-- what is asked of the project's Line: the words are the reference's; what is wrong is told at the reference's place, as the same error or as a near one -/
def LineSpec : Prop := ∀ (l : List UInt8) (w : World), l.length ≤ 100000 → Calls Tryd.prog 9 #[.string ⟨l.toArray⟩] w fun e w' =>
    ∃ u g err, e = .returned (.tuple #[u, g]) ∧ OwnT 36 w.heap.size w' u (Words.toks l).1 ∧ Says w.heap.size w' g wWord (Words.toks l).2.2 err ∧ Words.Near (Words.toks l).2.1 err ∧ Below w.heap.size w w'
def KnownSpec : Prop := ∀ w, Calls Tryd.prog 8 #[] w fun e w' => e = .returned (.bool true) ∧ Below w.heap.size w w'
def TellsSpec : Prop := ∀ (w : World) (f g : Value) (k err B B' : Nat), Glob w → Says B w f wWord k err → Told B' w g wWord k err → Calls Tryd.prog 11 #[f, g] w fun e w' => e = .returned (.bool true) ∧ Below w.heap.size w w'
theorem told_agg {B : Nat} {w : World} {g : Value} {word : List UInt8} {k err : Nat} (h : Told B w g word k err) : ∃ a n, g = .agg #[.slice a n n, .int .i64 err] := by
  rcases h with ⟨rfl, rfl⟩ | ⟨_, b, _, rfl, _⟩
  · exact ⟨none, 0, rfl⟩
  · exact ⟨_, 1, rfl⟩
theorem toks_good (l : List UInt8) : Words.Good l 0 (Words.toks l).1 := by
  by_cases h : (Words.toks l).2.1 = 0
  · exact Words.scanAt_good l 0 h
  · rw [show (Words.toks l).1 = [] from (Words.scanAt_form l 0).2 h]; trivial
theorem toks_count (l : List UInt8) : (Words.toks l).1.length ≤ l.length := by
  have key : ∀ (T : List Words.T) a, Words.Good l a T → (∀ t ∈ T, 0 < t.text.length) → a + T.length ≤ l.length ∨ T = [] := by
    intro T
    induction T with
    | nil => intro a _ _; exact .inr rfl
    | cons t T ih =>
      intro a h hp
      obtain ⟨h1, h2, _, _, h5⟩ := h
      have h6 := hp t (List.mem_cons_self ..)
      rcases ih _ h5 (fun x hx => hp x (List.mem_cons_of_mem _ hx)) with h7 | h7
      · left; rw [List.length_cons]; omega
      · left; subst h7; simp; omega
  have hpos : ∀ i, ∀ t ∈ (Words.scanAt l i).1, 0 < t.text.length := by
    refine Words.scanAt_ind l _ (fun i h => ?_) (fun i h hs ih => ?_) (fun i e o h hs => ?_) (fun i kd n k h hs ih => ?_)
    · rw [Words.scanAt_end l i h]; intro t ht; cases ht
    · rw [Words.scanAt_blank h hs]; exact ih
    · rw [Words.scanAt_bad h hs]; intro t ht; cases ht
    · rw [Words.scanAt_tok h hs]
      unfold Words.also
      split
      · intro t ht
        rcases List.mem_cons.1 ht with rfl | h2
        · have hk := Words.step_len hs
          show 0 < ((l.drop i).take k).length
          rw [List.length_take]; omega
        · exact ih t h2
      · intro t ht; cases ht
  rcases key _ 0 (toks_good l) (hpos 0) with h | h
  · omega
  · rw [h]; simp
end Go.Proofs.YtmdifoejacogpaaDoor.Line
