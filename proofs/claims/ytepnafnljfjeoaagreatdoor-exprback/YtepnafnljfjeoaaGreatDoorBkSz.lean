/- How great the texts of few nodes are. -/
import Derived.Test.YtepnafnljfjeoaaGreatDoorEvFew
import Derived.Test.YtepnafnljfjeoaaGreatDoorPlainWs
import Derived.Test.YtepnafnljfjeoaaGreatDoorTxA
namespace Go.Proofs.YtepnafnljfjeoaaGreatDoor.Line
open Ex (E)
set_option linter.unusedVariables false

theorem numT_len (n : Int) (h : -9223372036854775808 ≤ n ∧ n ≤ 9223372036854775807) : (numT n).length ≤ 26 := by
  have hl := Lib.itoa_length_le n h.1 h.2
  unfold numT
  split
  · decide
  · split
    · simp only [List.length_cons, List.length_append, List.length_nil]; omega
    · omega
theorem aheadT_len (k n : Int) (nm : List UInt8) (h : -9223372036854775808 ≤ n ∧ n ≤ 9223372036854775807) (hn : nm.length ≤ 40) : (aheadT k n nm).length ≤ 41 := by
  have := numT_len n h
  unfold aheadT
  split
  · omega
  · split
    · simp only [List.length_append, List.length_cons, List.length_nil]; omega
    · split
      · omega
      · split <;> simp
theorem betweenT_len (k : Int) : (betweenT k).length ≤ 3 := by
  unfold betweenT
  repeat' split
  all_goals simp
theorem behindT_len (k : Int) : (behindT k).length ≤ 1 := by
  unfold behindT
  split <;> simp
theorem textL_sz (k : Int) : ∀ (l : List E) (i : Nat), (∀ y ∈ l, (textT y).length + 5 ≤ 50 * Ev.sz y) → (textL k i l).length ≤ 50 * Ev.szs l
  | [], i, _ => by rw [textL]; simp
  | y :: l, i, h => by
    have h1 := h y (by simp)
    have h2 := textL_sz k l (i + 1) (fun z hz => h z (by simp [hz]))
    have h3 := betweenT_len k
    rw [textL, Ev.szs, List.length_append, List.length_append]
    have h4 : (if i = 0 then [] else betweenT k).length ≤ 3 := by split <;> first | (simp; done) | omega
    have h5 : (if brkT k i y.kind then [40] ++ textT y ++ [41] else textT y).length ≤ (textT y).length + 2 := by split <;> first | (simp; done) | omega
    omega
theorem textT_sz : ∀ x : E, Nice x → NumX x → (textT x).length + 5 ≤ 50 * Ev.sz x := by
  refine E.ind _ ?_
  intro x ih hn hx
  rw [sz_eq]
  have h1 := hn.short
  have h2 := hx.num
  have h3 : (textL x.kind 0 x.a).length ≤ 50 * Ev.szs x.a := textL_sz _ _ _ (fun y hy => ih y hy (hn.part y hy) (hx.part y hy))
  have h4 := aheadT_len x.kind x.n x.name h2 h1
  have h5 := behindT_len x.kind
  cases x with
  | mk k n nm a =>
    rw [textT, List.length_append, List.length_append]
    simp only [E.kind, E.n, E.name, E.a] at *
    omega
theorem wtL_sz : ∀ (l : List E), (∀ y ∈ l, wtE y + 3 ≤ 6 * Ev.sz y) → wtL l ≤ 6 * Ev.szs l
  | [], _ => by rw [wtL]; simp
  | y :: l, h => by
    have h1 := h y (by simp)
    have h2 := wtL_sz l (fun z hz => h z (by simp [hz]))
    rw [wtL, Ev.szs]
    omega
theorem wtE_sz : ∀ x : E, wtE x + 3 ≤ 6 * Ev.sz x := by
  refine E.ind _ ?_
  intro x ih
  rw [sz_eq]
  have h3 := wtL_sz x.a ih
  cases x with
  | mk k n nm a =>
    rw [wtE]
    simp only [E.a] at *
    omega
theorem okE_of : ∀ x : E, Nice x → NumX x → OkE x := by
  refine E.ind _ ?_
  intro x ih hn hx
  exact .mk x ⟨hx.num.1, hx.num.2, by have := hn.short; omega⟩ (by have := hn.few; omega) (fun y hy => ih y hy (hn.part y hy) (hx.part y hy))
theorem sm_of : ∀ x : E, Nice x → Ex.Sm x := by
  refine E.ind _ ?_
  intro x ih hn
  exact .mk x (by have := hn.few; omega) (fun y hy => ih y hy (hn.part y hy))
end Go.Proofs.YtepnafnljfjeoaaGreatDoor.Line
