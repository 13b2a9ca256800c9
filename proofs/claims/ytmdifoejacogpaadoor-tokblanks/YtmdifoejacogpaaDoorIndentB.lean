/- The contract of a line's indent: line.Indent. -/
import Derived.Test.YtmdifoejacogpaaDoorShelfT
import Derived.Test.YtmdifoejacogpaaDoorBase
import Derived.Test.YtmdifoejacogpaaDoorPlain
import Derived.Test.YtmdifoejacogpaaDoorPlainTok
namespace Go.Proofs.YtmdifoejacogpaaDoor.Line
open Go.ChangeShapes Go.WideShapes Go.ChangeAt Go.RowKit Plain
set_option linter.unusedVariables false

theorem trimLeft_any (l : List UInt8) (w : World) : Calls Tryd.prog 32 #[.string ⟨l.toArray⟩, .string ⟨#[32, 9]⟩] w fun e w' => e = .returned (.string ⟨(l.drop (indentOf l).length).toArray⟩) ∧ Below w.heap.size w w' := by
  have h := Any.strings_TrimLeft_laid lays161 (by kernel_rfl) (⟨l.toArray⟩ : ByteArray) ⟨#[32, 9]⟩ w (by decide) (fun j b hb => by
    match j, hb with
    | 0, hb => simp at hb; subst hb; decide
    | 1, hb => simp at hb; subst hb; decide
    | n + 2, hb => simp at hb)
  change Calls Tryd.prog 32 _ _ _ at h
  have e : Lib.trimLeftS (⟨l.toArray⟩ : ByteArray).data.toList (⟨#[32, 9]⟩ : ByteArray).data.toList = l.drop (indentOf l).length := by
    unfold Lib.trimLeftS indentOf
    rw [(take_while l blankB).2]
    show l.dropWhile _ = l.dropWhile _
    have hf : (fun c : UInt8 => List.contains [32, 9] c) = blankB := by
      funext c
      simp only [blankB, List.contains_cons, List.contains_nil, Bool.or_false]
    exact congrArg (fun p => l.dropWhile p) hf
  rw [e] at h
  exact h

set_option maxHeartbeats 1000000 in
theorem indent_any (l : List UInt8) (w : World) (hl : l.length ≤ 1000000) : Calls Tryd.prog 17 #[.string ⟨l.toArray⟩] w fun e w' => e = .returned (.string ⟨(indentOf l).toArray⟩) ∧ Below w.heap.size w w' := by
  have hle : (indentOf l).length ≤ l.length := by
    have := List.takeWhile_sublist (l := l) blankB
    exact this.length_le
  have HT : Hid (l.take (indentOf l).length = indentOf l) := (take_while l blankB).1
  generalize hn : (indentOf l).length = n at *
  have hcon := trimLeft_any l w
  rw [hn] at hcon
  have HC := hide hcon
  clear hcon hn
  have hd : (l.drop n).length = l.length - n := by simp
  go_enter Tryd.func17, Tryd.ntmps17
  go_wp2_with (go_at_call 32; refine (unhide HC).mono ?_; rintro e w' ⟨rfl, hB⟩)
  go_ret
  refine ⟨ret_val (congrArg Value.string ((ext_front _ _).trans (mk_eq ?_))), hB⟩
  rw [show l.length - (l.length - n) = n by omega]
  exact HT.out


theorem indent_len (l : List UInt8) : (indentOf l).length = (l.takeWhile Words.blankB).length := by
  have hf : Plain.blankB = Words.blankB := by
    funext c
    simp only [Plain.blankB, Words.blankB]
    have key : ∀ k : UInt8, (c == k) = decide (c.toNat = k.toNat) := fun k => by
      by_cases h : c = k
      · subst h; simp
      · rw [beq_eq_false_iff_ne.2 h, decide_eq_false (fun h2 => h (UInt8.toNat.inj h2))]
    rw [key 32, key 9]
    rfl
  unfold indentOf
  rw [hf]
end Go.Proofs.YtmdifoejacogpaaDoor.Line
