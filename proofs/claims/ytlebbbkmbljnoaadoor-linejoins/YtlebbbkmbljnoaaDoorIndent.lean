/- Contracts of a line's indent: line.Indent and the reference's. -/
import Derived.Test.YtlebbbkmbljnoaaDoorSmall
namespace Go.Proofs.YtlebbbkmbljnoaaDoor.Line
open Go.ChangeShapes Go.WideShapes Go.ChangeAt Go.RowKit Plain
set_option linter.unusedVariables false

theorem byte_is (l : List UInt8) (k : Nat) (hk : k < l.length) (hs : k < (⟨l.toArray⟩ : ByteArray).size) (c : UInt8) (h : l[k] = c) : (((⟨l.toArray⟩ : ByteArray)[k]'hs).toNat : Int) = (c.toNat : Int) := by
  have : ((⟨l.toArray⟩ : ByteArray)[k]'hs) = c := h
  rw [this]
theorem byte_not (l : List UInt8) (k : Nat) (hk : k < l.length) (hs : k < (⟨l.toArray⟩ : ByteArray).size) (c : UInt8) (h : l[k] ≠ c) : ((((⟨l.toArray⟩ : ByteArray)[k]'hs).toNat : Int) == (c.toNat : Int)) = false := by
  rw [beq_eq_false_iff_ne]
  intro h2
  exact h (UInt8.toNat.inj (by have : (l[k]).toNat = ((⟨l.toArray⟩ : ByteArray)[k]'hs).toNat := rfl; omega))

theorem trimLeft_any (l : List UInt8) (w : World) : Calls Tryd.prog 27 #[.string ⟨l.toArray⟩, .string ⟨#[32, 9]⟩] w fun e w' => e = .returned (.string ⟨(l.drop (indentOf l).length).toArray⟩) ∧ Below w.heap.size w w' := by
  have h := Any.strings_TrimLeft_laid lays161 (by kernel_rfl) (⟨l.toArray⟩ : ByteArray) ⟨#[32, 9]⟩ w (by decide) (fun j b hb => by
    match j, hb with
    | 0, hb => simp at hb; subst hb; decide
    | 1, hb => simp at hb; subst hb; decide
    | n + 2, hb => simp at hb)
  change Calls Tryd.prog 27 _ _ _ at h
  have e : Lib.trimLeftS (⟨l.toArray⟩ : ByteArray).data.toList (⟨#[32, 9]⟩ : ByteArray).data.toList = l.drop (indentOf l).length := by
    unfold Lib.trimLeftS indentOf
    rw [(take_while l blankB).2]
    show l.dropWhile _ = l.dropWhile _
    have hf : (fun c : UInt8 => List.contains [32, 9] c) = blankB := by
      funext c
      simp only [blankB, List.contains_cons, List.contains_nil, Bool.or_false]
    exact congrArg (fun p => l.dropWhile p) hf
  rw [e] at h
  exact h

set_option maxHeartbeats 1000000 in
theorem indent_any (l : List UInt8) (w : World) (hl : l.length ≤ 65536) : Calls Tryd.prog 16 #[.string ⟨l.toArray⟩] w fun e w' => e = .returned (.string ⟨(indentOf l).toArray⟩) ∧ Below w.heap.size w w' := by
  have hle : (indentOf l).length ≤ l.length := by
    have := List.takeWhile_sublist (l := l) blankB
    exact this.length_le
  have HT : Hid (l.take (indentOf l).length = indentOf l) := (take_while l blankB).1
  generalize hn : (indentOf l).length = n at *
  have hcon := trimLeft_any l w
  rw [hn] at hcon
  have HC := hide hcon
  clear hcon hn
  have hd : (l.drop n).length = l.length - n := by simp
  go_enter Tryd.func16, Tryd.ntmps16
  go_wp2_with (go_at_call 27; refine (unhide HC).mono ?_; rintro e w' ⟨rfl, hB⟩)
  go_ret
  refine ⟨ret_val (congrArg Value.string ((ext_front _ _).trans (mk_eq ?_))), hB⟩
  rw [show l.length - (l.length - n) = n by omega]
  exact HT.out

set_option maxHeartbeats 1000000 in
theorem refIndent_any (l : List UInt8) (w : World) (hl : l.length ≤ 65536) : Calls Tryd.prog 17 #[.string ⟨l.toArray⟩] w fun e w' => e = .returned (.string ⟨(indentOf l).toArray⟩) ∧ w' = w := by
  have HT : Hid (indentOf l = l.takeWhile blankB) := rfl
  go_enter Tryd.func17, Tryd.ntmps17
  go_wp2
  go_loop [3] (fun i => ∃ k : Nat, k ≤ l.length ∧ i = .int .i64 k ∧ ∀ j (hj : j < l.length), j < k → blankB l[j] = true) (fun i => l.length - (intOf i).toNat)
  case atStart => exact ⟨0, Nat.zero_le _, rfl, fun j hj h => by omega⟩
  case round =>
    obtain ⟨k, hk, rfl, hok⟩ := hrel
    have HOK : Hid (∀ j (hj : j < l.length), j < k → blankB l[j] = true) := hok
    clear hok
    by_cases hlt : k < l.length
    · have hs2 : k < (⟨l.toArray⟩ : ByteArray).size := hlt
      cases hb : blankB l[k]
      · have h1 : ((((⟨l.toArray⟩ : ByteArray)[k]'hs2).toNat : Int) == 32) = false := byte_not l k hlt hs2 32 (fun h => by rw [h] at hb; cases hb)
        have h2 : ((((⟨l.toArray⟩ : ByteArray)[k]'hs2).toNat : Int) == 9) = false := byte_not l k hlt hs2 9 (fun h => by rw [h] at hb; cases hb)
        have HP := while_at l blankB k hk (fun j hj => HOK.out j (by omega) hj) (fun _ => hb)
        have HP' := hide HP
        clear HP hb
        go_wp2
        go_ret
        exact ⟨ret_val (congrArg Value.string ((ext_front _ _).trans (mk_eq (by rw [HT.out, ← (unhide HP')]; exact (take_while l blankB).1)))), rfl⟩
      · have HB : Hid (blankB l[k] = true) := hb
        by_cases h3 : l[k] = 32
        · have h1 : (((⟨l.toArray⟩ : ByteArray)[k]'hs2).toNat : Int) = 32 := byte_is l k hlt hs2 32 h3
          clear hb h3
          go_wp2
          go_round
          case rel => exact ⟨k + 1, by omega, by go_num, fun j hj hjk => by
              by_cases e : j = k
              · subst e; exact HB.out
              · exact HOK.out j hj (by omega)⟩
          case measure => simp [intOf]; omega
        · have h1 : ((((⟨l.toArray⟩ : ByteArray)[k]'hs2).toNat : Int) == 32) = false := byte_not l k hlt hs2 32 h3
          have h2 : (((⟨l.toArray⟩ : ByteArray)[k]'hs2).toNat : Int) = 9 := byte_is l k hlt hs2 9 (by simp [blankB, h3] at hb; exact hb)
          clear hb h3
          go_wp2
          go_round
          case rel => exact ⟨k + 1, by omega, by go_num, fun j hj hjk => by
              by_cases e : j = k
              · subst e; exact HB.out
              · exact HOK.out j hj (by omega)⟩
          case measure => simp [intOf]; omega
    · have HP := while_at l blankB k hk (fun j hj => HOK.out j (by omega) hj) (fun h => absurd h hlt)
      have HP' := hide HP
      clear HP
      go_wp2
      go_ret
      exact ⟨ret_val (congrArg Value.string ((ext_front _ _).trans (mk_eq (by rw [HT.out, ← (unhide HP')]; exact (take_while l blankB).1)))), rfl⟩
end Go.Proofs.YtlebbbkmbljnoaaDoor.Line
