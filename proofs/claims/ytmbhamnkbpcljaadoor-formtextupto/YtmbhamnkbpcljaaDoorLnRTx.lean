/- The contracts of the reference's Decimal (any number), size, put. -/
import Derived.Test.YtmbhamnkbpcljaaDoorLnTxt
import Derived.Test.YtmbhamnkbpcljaaDoorStDec
import Derived.Deep.QuietTactic
import Derived.BigQuiet
namespace Go.Proofs.YtmbhamnkbpcljaaDoor.Line
open Go.ChangeShapes Go.WideShapes Go.ChangeAt Go.RowKit
set_option linter.unusedVariables false

theorem decW : ∀ (u : Nat), Lib.decDigits u = Words.dec u := by
  intro u
  induction u using Nat.strongRecOn with
  | ind u ih =>
    rw [Lib.decDigits]
    split
    · rename_i h
      unfold Words.dec
      by_cases h0 : u = 0
      · rw [if_pos h0, h0]; rfl
      · rw [if_neg h0, Words.digs_pos h0, show u / 10 = 0 by omega, Words.digs_zero, show u % 10 = u by omega]; rfl
    · rename_i h
      rw [ih (u / 10) (by omega)]
      unfold Words.dec
      rw [if_neg (by omega), if_neg (by omega), Words.digs_pos (n := u) (by omega)]
/-- a number in words -/
def decT (c : Int) : List UInt8 := if c < 0 then 45 :: Lib.decDigits c.natAbs else Lib.decDigits c.natAbs
theorem dec_least : (45 :: Lib.decDigits 9223372036854775808 : List UInt8) = [45, 57, 50, 50, 51, 51, 55, 50, 48, 51, 54, 56, 53, 52, 55, 55, 53, 56, 48, 56] := by decide +kernel
set_option maxHeartbeats 4000000 in
set_option maxRecDepth 100000 in
theorem decimalT_any (n : Int) (h : In64 n) (w : World) : Calls Tryd.prog 47 #[.int .i64 n] w fun e w' => e = .returned (.string ⟨(decT n).toArray⟩) ∧ Below w.heap.size w w' := by
  obtain ⟨h1, h2⟩ := h
  unfold decT
  by_cases hl : n = -9223372036854775808
  · subst hl
    rw [if_pos (by decide), show (-9223372036854775808 : Int).natAbs = 9223372036854775808 from rfl, dec_least]
    go_enter Tryd.func47, Tryd.ntmps47
    go_wp2_with fail
    go_ret
    exact ⟨rfl, Below.refl _ _⟩
  by_cases hn : n < 0
  · rw [if_pos hn, decW]
    have hl : (Words.dec n.natAbs).length ≤ 30 := by
      unfold Words.dec
      split
      · decide
      · exact Nat.le_trans (Words.digs_len 20 _ (by omega)) (by decide)
    have HD := hide (decimal_any n.natAbs (by omega) w)
    have hz : -n = ((n.natAbs : Nat) : Int) := by omega
    have c1 : (⟨#[45]⟩ : ByteArray) ++ ⟨(Words.dec n.natAbs).toArray⟩ = ⟨(45 :: Words.dec n.natAbs).toArray⟩ := cat2 [45] _
    have g1 : ¬ n = -9223372036854775808 := by omega
    generalize Words.dec n.natAbs = D at *
    generalize n.natAbs = m at *
    go_enter Tryd.func47, Tryd.ntmps47
    have HZ := hide hz
    clear hz
    go_wp2_with fail
    rw [unhide HZ]
    refine (unhide HD).mono ?_
    rintro ev w2 ⟨rfl, hb⟩
    go_wp2
    go_ret
    exact ⟨rfl, hb⟩
  · rw [if_neg hn, decW]
    have := decimal_any n.natAbs (by omega) w
    rw [show ((n.natAbs : Nat) : Int) = n by omega] at this
    exact this
set_option maxHeartbeats 4000000 in
set_option maxRecDepth 100000 in
theorem rsize_any (n : Int) (h : In64 n) (w : World) : Calls Tryd.prog 48 #[.int .i64 n] w fun e w' => e = .returned (.string ⟨(Lib.decDigits n.natAbs).toArray⟩) ∧ Below w.heap.size w w' := by
  have HD := hide (decimalT_any n h w)
  have hdl : (Lib.decDigits n.natAbs).length ≤ 20 := decDigits_le _ (by have := h.1; have := h.2; omega)
  by_cases hn : n < 0
  · rw [show decT n = 45 :: Lib.decDigits n.natAbs from if_pos hn] at HD
    generalize Lib.decDigits n.natAbs = D at *
    have ex : (⟨(45 :: D).toArray⟩ : ByteArray).extract 1 (D.length + 1) = ⟨D.toArray⟩ := by
      apply ByteArray.ext
      simp
    go_enter Tryd.func48, Tryd.ntmps48
    go_wp2_with fail
    refine (unhide HD).mono ?_
    rintro ev w2 ⟨rfl, hb⟩
    have HB := hide hb
    clear hb
    go_wp2_with fail
    go_ret
    exact ⟨rfl, unhide HB⟩
  · rw [show decT n = Lib.decDigits n.natAbs from if_neg hn] at HD
    generalize Lib.decDigits n.natAbs = D at *
    go_enter Tryd.func48, Tryd.ntmps48
    go_wp2_with fail
    refine (unhide HD).mono ?_
    rintro ev w2 ⟨rfl, hb⟩
    have HB := hide hb
    clear hb
    go_wp2_with fail
    go_ret
    exact ⟨rfl, unhide HB⟩
set_option maxHeartbeats 4000000 in
set_option maxRecDepth 100000 in
theorem rput_any (s t : List UInt8) (neg : Bool) (w : World) (hs : s.length ≤ 140737488355328) (ht : t.length ≤ 140737488355328) : Calls Tryd.prog 49 #[.string ⟨s.toArray⟩, .bool neg, .string ⟨t.toArray⟩] w fun e w' => e = .returned (.string ⟨(s ++ signT s.isEmpty neg ++ t).toArray⟩) ∧ w' = w := by
  by_cases h0 : s = []
  · subst h0
    have c1 : (⟨#[45]⟩ : ByteArray) ++ ⟨t.toArray⟩ = ⟨(45 :: t).toArray⟩ := cat2 [45] _
    cases neg
    · go_enter Tryd.func49, Tryd.ntmps49
      go_wp2_with fail
      go_ret
      exact ⟨rfl, rfl⟩
    · go_enter Tryd.func49, Tryd.ntmps49
      go_wp2_with fail
      go_ret
      exact ⟨rfl, rfl⟩
  · have he : s.isEmpty = false := by cases s with | nil => exact absurd rfl h0 | cons => rfl
    have a1 : (⟨s.toArray⟩ : ByteArray) ++ ⟨#[32, 45, 32]⟩ = ⟨(s ++ [32, 45, 32]).toArray⟩ := cat2 s [32, 45, 32]
    have a2 : (⟨s.toArray⟩ : ByteArray) ++ ⟨#[32, 43, 32]⟩ = ⟨(s ++ [32, 43, 32]).toArray⟩ := cat2 s [32, 43, 32]
    have b1 : (⟨(s ++ [32, 45, 32]).toArray⟩ : ByteArray) ++ ⟨t.toArray⟩ = ⟨(s ++ [32, 45, 32] ++ t).toArray⟩ := cat2 _ _
    have b2 : (⟨(s ++ [32, 43, 32]).toArray⟩ : ByteArray) ++ ⟨t.toArray⟩ = ⟨(s ++ [32, 43, 32] ++ t).toArray⟩ := cat2 _ _
    have l1 : (s ++ [32, 45, 32]).length = s.length + 3 := by rw [List.length_append]; rfl
    have l2 : (s ++ [32, 43, 32]).length = s.length + 3 := by rw [List.length_append]; rfl
    rw [he]
    cases neg
    · show Calls _ _ _ _ fun e w' => e = .returned (.string ⟨(s ++ [32, 43, 32] ++ t).toArray⟩) ∧ w' = w
      generalize s ++ [32, 43, 32] ++ t = r at *
      generalize s ++ [32, 43, 32] = q at *
      have hq : q.length ≤ 140737488355331 := by omega
      clear l1 l2 a1 b1
      go_enter Tryd.func49, Tryd.ntmps49
      go_wp2_with fail
      go_ret
      exact ⟨rfl, rfl⟩
    · show Calls _ _ _ _ fun e w' => e = .returned (.string ⟨(s ++ [32, 45, 32] ++ t).toArray⟩) ∧ w' = w
      generalize s ++ [32, 45, 32] ++ t = r at *
      generalize s ++ [32, 45, 32] = q at *
      have hq : q.length ≤ 140737488355331 := by omega
      clear l1 l2 a2 b2
      go_enter Tryd.func49, Tryd.ntmps49
      go_wp2_with fail
      go_ret
      exact ⟨rfl, rfl⟩
end Go.Proofs.YtmbhamnkbpcljaaDoor.Line
