/- Heads of loops with a step (plain): their words, what they are read as, what they are told as. -/
import Derived.Test.YthkbchefjagbbaaGreatDoorStTxA
import Derived.Test.YthkbchefjagbbaaGreatDoorPlainAll
namespace Go.Proofs.YthkbchefjagbbaaGreatDoor.Line
open Ex (E St)
set_option linter.unusedVariables false

theorem dec_digits : ∀ (u : Nat), Lib.decDigits u = Words.dec u := by
  intro u
  induction u using Nat.strongRecOn with
  | ind u ih =>
    rw [Lib.decDigits]
    split
    · rename_i h
      unfold Words.dec
      by_cases h0 : u = 0
      · rw [if_pos h0, h0]; rfl
      · rw [if_neg h0, Words.digs_pos h0, show u / 10 = 0 by omega, Words.digs_zero, show u % 10 = u by omega]; rfl
    · rename_i h
      rw [ih (u / 10) (by omega)]
      unfold Words.dec
      rw [if_neg (show ¬ u = 0 by omega), if_neg (show ¬ u / 10 = 0 by omega), Words.digs_pos (n := u) (by omega)]
theorem dec_all (n : Nat) : ∀ c ∈ Words.dec n, Words.digitB c = true := by
  unfold Words.dec
  split
  · intro c hc; rw [List.mem_singleton.1 hc]; rfl
  · exact Words.digs_all n
theorem dec_num (n : Nat) : Words.num (Words.dec n) = n := by
  unfold Words.dec
  split
  · rename_i h; rw [h]; rfl
  · exact Words.num_digs n
theorem dec_ne (n : Nat) : Words.dec n ≠ [] := by
  unfold Words.dec
  split
  · simp
  · rename_i h2
    rw [Words.digs_pos h2]
    simp
theorem dec_step (n : Nat) (h : n ≤ Words.big) : Words.step (Words.dec n) = .tok 2 n (Words.dec n).length := by
  have hs := Words.step_digits (Words.dec n) (dec_ne n) (dec_all n)
  rw [dec_num, if_neg (by omega)] at hs
  exact hs
/-- a number's digits alone, from a place on -/
theorem scan_dec (n p : Nat) (h : n ≤ Words.big) : Words.scan (Words.dec n).length (Words.dec n) p = ([⟨2, Words.dec n, p, n⟩], 0, 0) := by
  rw [Words.scan_step (dec_step n h), List.take_length, List.drop_length]
  rfl
theorem scan_tok {s r : List UInt8} {p kd n : Nat} (hs : Words.step (s ++ r) = .tok kd n s.length) : Words.scan (s ++ r).length (s ++ r) p = Words.also [⟨kd, s, p, n⟩] (Words.scan r.length r (p + s.length)) := by
  rw [Words.scan_step hs, List.take_left, List.drop_left]
theorem scan_sp (r : List UInt8) (p : Nat) : Words.scan ([32] ++ r).length ([32] ++ r) p = Words.scan r.length r (p + 1) := Words.scan_blanks [32] r (by decide) p
theorem toks_scan (s : List UInt8) : Words.toks s = Words.scan s.length s 0 := by
  unfold Words.toks Words.scanAt
  rw [List.drop_zero, Nat.sub_zero]
abbrev hdW : List Words.T := [⟨4, [100, 111], 0, 0⟩, ⟨1, [105], 3, 0⟩, ⟨3, [61], 5, 0⟩, ⟨2, [49], 7, 1⟩, ⟨3, [44], 8, 0⟩, ⟨2, [50], 10, 2⟩, ⟨3, [44], 11, 0⟩]
/-- the words of a loop's head up to its second comma -/
theorem head_scan (r : List UInt8) : Words.toks ([100, 111] ++ ([32] ++ ([105] ++ ([32] ++ ([61] ++ ([32] ++ ([49] ++ ([44] ++ ([32] ++ ([50] ++ ([44] ++ ([32] ++ r)))))))))))) = Words.also hdW (Words.scan r.length r 13) := by
  rw [toks_scan, scan_tok (kd := 4) (n := 0) (by kernel_rfl), scan_sp, scan_tok (kd := 1) (n := 0) (by kernel_rfl), scan_sp, scan_tok (kd := 3) (n := 0) (by kernel_rfl), scan_sp, scan_tok (kd := 2) (n := 1) (by kernel_rfl), scan_tok (kd := 3) (n := 0) (by kernel_rfl), scan_sp, scan_tok (kd := 2) (n := 2) (by kernel_rfl), scan_tok (kd := 3) (n := 0) (by kernel_rfl), scan_sp]
  rw [Words.also_also, Words.also_also, Words.also_also, Words.also_also, Words.also_also, Words.also_also]
  rfl
abbrev hdB : List UInt8 := [100, 111, 32, 105, 32, 61, 32, 49, 44, 32, 50, 44, 32]
theorem head_app (r : List UInt8) : Words.toks (hdB ++ r) = Words.also hdW (Words.scan r.length r 13) := head_scan r
theorem toksA (n : Nat) (h : n ≤ Words.big) : Words.toks (hdB ++ Words.dec n) = (hdW ++ [⟨2, Words.dec n, 13, n⟩], 0, 0) := by
  rw [head_app, scan_dec n 13 h]; rfl
theorem toksB (n : Nat) (h : n ≤ Words.big) : Words.toks (hdB ++ ([45, 32] ++ Words.dec n)) = (hdW ++ [⟨3, [45], 13, 0⟩, ⟨2, Words.dec n, 15, n⟩], 0, 0) := by
  rw [head_app, show ([45, 32] ++ Words.dec n : List UInt8) = [45] ++ ([32] ++ Words.dec n) from rfl, scan_tok (kd := 3) (n := 0) (by kernel_rfl), scan_sp, scan_dec n _ h]; rfl
theorem toksC (n : Nat) (h : n ≤ Words.big) : Words.toks (hdB ++ ([45] ++ Words.dec n)) = (hdW ++ [⟨3, [45], 13, 0⟩, ⟨2, Words.dec n, 14, n⟩], 0, 0) := by
  have hst : ∀ r, Words.step ([45] ++ r) = .tok 3 0 [(45 : UInt8)].length := fun r => by kernel_rfl
  rw [head_app, scan_tok (hst _), scan_dec n _ h]; rfl
def psL (st : Int) : PS := .loop [105] (.mk 1 1 [] []) (.mk 1 2 [] []) st
theorem readsA (n q : Nat) : ReadsAs (hdW ++ [⟨2, Words.dec n, q, n⟩]) (psL n) 8 .ok := by
  refine ⟨rfl, rfl, 2, .ok, 3, .ok, 4, .ok, 5, .ok, 6, .ok, rfl, rfl, rfl, rfl, xrF_ok (by kernel_rfl), rfl, rfl, xrF_ok (by kernel_rfl), ?_⟩
  have h45 : (Words.dec n == [45]) = false := by
    cases hd : Words.dec n with
    | nil => rfl
    | cons c l =>
      have hc := dec_all n c (by rw [hd]; exact List.mem_cons_self ..)
      rw [beq_eq_false_iff_ne]
      intro e
      injection e with e1 e2
      subst e1
      revert hc
      decide
  have e1 : isNext (hdW ++ [⟨2, Words.dec n, q, n⟩]) 7 .ok [45] = false := h45
  unfold stepR
  rw [if_pos (show isNext (hdW ++ [⟨2, Words.dec n, q, n⟩]) 6 .ok [44] = true from rfl), if_neg (by rw [show isNext (hdW ++ [⟨2, Words.dec n, q, n⟩]) (6 + 1) .ok [45] = false from e1]; simp)]
  rfl
theorem readsB (n q : Nat) : ReadsAs (hdW ++ [⟨3, [45], 13, 0⟩, ⟨2, Words.dec n, q, n⟩]) (psL (-(n : Int))) 9 .ok := by
  refine ⟨rfl, rfl, 2, .ok, 3, .ok, 4, .ok, 5, .ok, 6, .ok, rfl, rfl, rfl, rfl, xrF_ok (by kernel_rfl), rfl, rfl, xrF_ok (by kernel_rfl), ?_⟩
  unfold stepR
  rw [if_pos (show isNext (hdW ++ [⟨3, [45], 13, 0⟩, ⟨2, Words.dec n, q, n⟩]) 6 .ok [44] = true from rfl), if_pos (show isNext (hdW ++ [⟨3, [45], 13, 0⟩, ⟨2, Words.dec n, q, n⟩]) (6 + 1) .ok [45] = true from rfl)]
  rfl
/-- a text without a note and an end is all body -/
theorem body_all (s : List UInt8) (h : ∀ c ∈ s, c ≠ 33 ∧ c ≠ 10) : Plain.bodyOf s = s := by
  have hc : Plain.core s = s := by
    unfold Plain.core
    refine if_neg fun e => ?_
    obtain ⟨r, rfl⟩ := List.getLast?_eq_some_iff.1 e
    exact (h 10 (by simp)).2 rfl
  unfold Plain.bodyOf
  rw [hc]
  have hx : ∀ c ∈ s, (fun c => decide (c ≠ 33)) c = true := fun c hm => decide_eq_true (h c hm).1
  have h2 := List.takeWhile_append_of_pos (l₂ := []) hx
  rw [List.append_nil, List.takeWhile_nil, List.append_nil] at h2
  exact h2
theorem digit_plain (c : UInt8) (h : Words.digitB c = true) : c ≠ 33 ∧ c ≠ 10 := by
  constructor <;> (rintro rfl; revert h; decide)
theorem plainD (pre : List UInt8) (n : Nat) (h : ∀ c ∈ pre, c ≠ 33 ∧ c ≠ 10) : Plain.bodyOf (pre ++ Words.dec n) = pre ++ Words.dec n := body_all _ fun c hc => by
  rcases List.mem_append.1 hc with h1 | h1
  · exact h c h1
  · exact digit_plain c (dec_all n c h1)
theorem dec_len (n : Nat) (h : n ≤ 4294967295) : (Words.dec n).length ≤ 20 := by
  unfold Words.dec
  split
  · decide
  · exact Nat.le_trans (Words.digs_len 20 n (by omega)) (by decide)
theorem numsA (T : List Words.T) (n : Nat) (h : n ≤ 4294967295) (hT : ∀ t ∈ T, t.n ≤ 9223372036854775807 ∨ t.n = n) : NumOk T := fun t ht => by
  rcases hT t ht with h1 | h1
  · exact h1
  · omega
theorem linedSp_of {s : List UInt8} {T : List Words.T} {ps : PS} {p : Nat} (hb : Plain.bodyOf s = s) (hl : s.length ≤ 1000) (ht : Words.toks s = (T, 0, 0)) (hN : NumOk T) (hm : T.length ≤ 1000) (hr : ReadsAs T ps p .ok) : Lined s ps p .ok ∧ wordsOf s = T := by
  have hw : wordsOf s = T := by unfold wordsOf; rw [hb, ht]
  exact ⟨⟨by omega, by rw [hb]; omega, by rw [hw, hb, ht], by rw [hw]; exact hN, by rw [hw]; omega, by rw [hw]; exact hr⟩, hw⟩
theorem lineA (n : Nat) (h : n ≤ 4294967295) : Lined (hdB ++ Words.dec n) (psL n) 8 .ok ∧ (wordsOf (hdB ++ Words.dec n)).length = 8 := by
  have hl := dec_len n h
  obtain ⟨h1, h2⟩ := linedSp_of (plainD hdB n (by decide)) (by rw [List.length_append, show hdB.length = 13 from rfl]; omega) (toksA n (by unfold Words.big; omega)) (fun t ht => by
    simp only [List.mem_append, List.mem_cons, List.not_mem_nil, or_false] at ht
    rcases ht with ht | rfl
    · rcases ht with rfl | rfl | rfl | rfl | rfl | rfl | rfl <;> simp
    · show n ≤ _; omega) (by simp) (readsA n 13)
  exact ⟨h1, by rw [h2]; rfl⟩
theorem lineB (n : Nat) (h : n ≤ 4294967295) : Lined (hdB ++ ([45, 32] ++ Words.dec n)) (psL (-(n : Int))) 9 .ok ∧ (wordsOf (hdB ++ ([45, 32] ++ Words.dec n))).length = 9 := by
  have hl := dec_len n h
  obtain ⟨h1, h2⟩ := linedSp_of (s := hdB ++ ([45, 32] ++ Words.dec n)) (by rw [← List.append_assoc]; exact plainD (hdB ++ [45, 32]) n (by decide)) (by rw [List.length_append, List.length_append, show hdB.length = 13 from rfl, show ([45, 32] : List UInt8).length = 2 from rfl]; omega) (toksB n (by unfold Words.big; omega)) (fun t ht => by
    simp only [List.mem_append, List.mem_cons, List.not_mem_nil, or_false] at ht
    rcases ht with ht | rfl | rfl
    · rcases ht with rfl | rfl | rfl | rfl | rfl | rfl | rfl <;> simp
    · simp
    · show n ≤ _; omega) (by simp) (readsB n 15)
  exact ⟨h1, by rw [h2]; rfl⟩
theorem lineC (n : Nat) (h : n ≤ 4294967295) : Lined (hdB ++ ([45] ++ Words.dec n)) (psL (-(n : Int))) 9 .ok ∧ (wordsOf (hdB ++ ([45] ++ Words.dec n))).length = 9 := by
  have hl := dec_len n h
  obtain ⟨h1, h2⟩ := linedSp_of (s := hdB ++ ([45] ++ Words.dec n)) (by rw [← List.append_assoc]; exact plainD (hdB ++ [45]) n (by decide)) (by rw [List.length_append, List.length_append, show hdB.length = 13 from rfl, show ([45] : List UInt8).length = 1 from rfl]; omega) (toksC n (by unfold Words.big; omega)) (fun t ht => by
    simp only [List.mem_append, List.mem_cons, List.not_mem_nil, or_false] at ht
    rcases ht with ht | rfl | rfl
    · rcases ht with rfl | rfl | rfl | rfl | rfl | rfl | rfl <;> simp
    · simp
    · show n ≤ _; omega) (by simp) (readsB n 14)
  exact ⟨h1, by rw [h2]; rfl⟩
abbrev hdO : List UInt8 := [100, 111, 32, 105, 32, 61, 32, 49, 44, 32, 50]
theorem lineO : Lined hdO (psL 1) 6 .ok ∧ (wordsOf hdO).length = 6 := ⟨⟨by decide, by decide +kernel, by kernel_rfl, by unfold NumOk; decide +kernel, by decide +kernel, readF_ok (by kernel_rfl)⟩, by decide +kernel⟩
theorem textL_of (st : Int) : stText (psL st) = hdO ++ stepT st := by kernel_rfl
theorem okL (st : Int) (h0 : -9223372036854775808 ≤ st) (h1 : st ≤ 9223372036854775807) : OkS (psL st) := ⟨okX_of (by decide +kernel) (by decide +kernel) (by decide +kernel), okX_of (by decide +kernel) (by decide +kernel) (by decide +kernel), by decide, h0, h1⟩
/-- what a head with any small step is told as is read as that head -/
theorem line_text (st : Int) (h0 : -4294967295 ≤ st) (h1 : st ≤ 4294967295) : ∃ p, Lined (stText (psL st)) (psL st) p .ok ∧ (wordsOf (stText (psL st))).length ≤ p := by
  rw [textL_of]
  unfold stepT
  split
  · rename_i h
    subst h
    rw [List.append_nil]
    exact ⟨6, lineO.1, Nat.le_of_eq lineO.2⟩
  · rename_i h
    by_cases hn : st < 0
    · obtain ⟨n, hk⟩ : ∃ n : Nat, st = -(n : Int) := ⟨st.natAbs, by omega⟩
      subst hk
      rw [Lib.itoa_neg n (by omega), dec_digits]
      have := lineC n (by omega)
      exact ⟨9, this.1, Nat.le_of_eq this.2⟩
    · obtain ⟨n, hk⟩ : ∃ n : Nat, st = (n : Int) := ⟨st.natAbs, by omega⟩
      subst hk
      rw [Lib.itoa_nonneg n, dec_digits]
      have := lineA n (by omega)
      exact ⟨8, this.1, Nat.le_of_eq this.2⟩
end Go.Proofs.YthkbchefjagbbaaGreatDoor.Line
