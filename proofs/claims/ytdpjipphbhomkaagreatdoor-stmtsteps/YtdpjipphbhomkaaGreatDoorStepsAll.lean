/- Heads of loops with a step (plain): their words, what they are read as, what they are told as.
   StmtSteps, walked. -/
import Derived.Test.YtdpjipphbhomkaaGreatDoorStGaAll
import Derived.Test.YtdpjipphbhomkaaGreatDoorTokAll
import Derived.Test.YtdpjipphbhomkaaGreatDoorKnAll
namespace Go.Proofs.YtdpjipphbhomkaaGreatDoor.Line
open Ex (E St)
set_option linter.unusedVariables false

theorem dec_digits : ∀ (u : Nat), Lib.decDigits u = Words.dec u := by
  intro u
  induction u using Nat.strongRecOn with
  | ind u ih =>
    rw [Lib.decDigits]
    split
    · rename_i h
      unfold Words.dec
      by_cases h0 : u = 0
      · rw [if_pos h0, h0]; rfl
      · rw [if_neg h0, Words.digs_pos h0, show u / 10 = 0 by omega, Words.digs_zero, show u % 10 = u by omega]; rfl
    · rename_i h
      rw [ih (u / 10) (by omega)]
      unfold Words.dec
      rw [if_neg (show ¬ u = 0 by omega), if_neg (show ¬ u / 10 = 0 by omega), Words.digs_pos (n := u) (by omega)]
theorem dec_all (n : Nat) : ∀ c ∈ Words.dec n, Words.digitB c = true := by
  unfold Words.dec
  split
  · intro c hc; rw [List.mem_singleton.1 hc]; rfl
  · exact Words.digs_all n
theorem dec_num (n : Nat) : Words.num (Words.dec n) = n := by
  unfold Words.dec
  split
  · rename_i h; rw [h]; rfl
  · exact Words.num_digs n
theorem dec_ne (n : Nat) : Words.dec n ≠ [] := by
  unfold Words.dec
  split
  · simp
  · rename_i h2
    rw [Words.digs_pos h2]
    simp
theorem dec_step (n : Nat) (h : n ≤ Words.big) : Words.step (Words.dec n) = .tok 2 n (Words.dec n).length := by
  have hs := Words.step_digits (Words.dec n) (dec_ne n) (dec_all n)
  rw [dec_num, if_neg (by omega)] at hs
  exact hs
/-- a number's digits alone, from a place on -/
theorem scan_dec (n p : Nat) (h : n ≤ Words.big) : Words.scan (Words.dec n).length (Words.dec n) p = ([⟨2, Words.dec n, p, n⟩], 0, 0) := by
  rw [Words.scan_step (dec_step n h), List.take_length, List.drop_length]
  rfl
theorem scan_tok {s r : List UInt8} {p kd n : Nat} (hs : Words.step (s ++ r) = .tok kd n s.length) : Words.scan (s ++ r).length (s ++ r) p = Words.also [⟨kd, s, p, n⟩] (Words.scan r.length r (p + s.length)) := by
  rw [Words.scan_step hs, List.take_left, List.drop_left]
theorem scan_sp (r : List UInt8) (p : Nat) : Words.scan ([32] ++ r).length ([32] ++ r) p = Words.scan r.length r (p + 1) := Words.scan_blanks [32] r (by decide) p
theorem toks_scan (s : List UInt8) : Words.toks s = Words.scan s.length s 0 := by
  unfold Words.toks Words.scanAt
  rw [List.drop_zero, Nat.sub_zero]
abbrev hdW : List Words.T := [⟨4, [100, 111], 0, 0⟩, ⟨1, [105], 3, 0⟩, ⟨3, [61], 5, 0⟩, ⟨2, [49], 7, 1⟩, ⟨3, [44], 8, 0⟩, ⟨2, [50], 10, 2⟩, ⟨3, [44], 11, 0⟩]
/-- the words of a loop's head up to its second comma -/
theorem head_scan (r : List UInt8) : Words.toks ([100, 111] ++ ([32] ++ ([105] ++ ([32] ++ ([61] ++ ([32] ++ ([49] ++ ([44] ++ ([32] ++ ([50] ++ ([44] ++ ([32] ++ r)))))))))))) = Words.also hdW (Words.scan r.length r 13) := by
  rw [toks_scan, scan_tok (kd := 4) (n := 0) (by kernel_rfl), scan_sp, scan_tok (kd := 1) (n := 0) (by kernel_rfl), scan_sp, scan_tok (kd := 3) (n := 0) (by kernel_rfl), scan_sp, scan_tok (kd := 2) (n := 1) (by kernel_rfl), scan_tok (kd := 3) (n := 0) (by kernel_rfl), scan_sp, scan_tok (kd := 2) (n := 2) (by kernel_rfl), scan_tok (kd := 3) (n := 0) (by kernel_rfl), scan_sp]
  rw [Words.also_also, Words.also_also, Words.also_also, Words.also_also, Words.also_also, Words.also_also]
  rfl
abbrev hdB : List UInt8 := [100, 111, 32, 105, 32, 61, 32, 49, 44, 32, 50, 44, 32]
theorem head_app (r : List UInt8) : Words.toks (hdB ++ r) = Words.also hdW (Words.scan r.length r 13) := head_scan r
theorem toksA (n : Nat) (h : n ≤ Words.big) : Words.toks (hdB ++ Words.dec n) = (hdW ++ [⟨2, Words.dec n, 13, n⟩], 0, 0) := by
  rw [head_app, scan_dec n 13 h]; rfl
theorem toksB (n : Nat) (h : n ≤ Words.big) : Words.toks (hdB ++ ([45, 32] ++ Words.dec n)) = (hdW ++ [⟨3, [45], 13, 0⟩, ⟨2, Words.dec n, 15, n⟩], 0, 0) := by
  rw [head_app, show ([45, 32] ++ Words.dec n : List UInt8) = [45] ++ ([32] ++ Words.dec n) from rfl, scan_tok (kd := 3) (n := 0) (by kernel_rfl), scan_sp, scan_dec n _ h]; rfl
theorem toksC (n : Nat) (h : n ≤ Words.big) : Words.toks (hdB ++ ([45] ++ Words.dec n)) = (hdW ++ [⟨3, [45], 13, 0⟩, ⟨2, Words.dec n, 14, n⟩], 0, 0) := by
  have hst : ∀ r, Words.step ([45] ++ r) = .tok 3 0 [(45 : UInt8)].length := fun r => by kernel_rfl
  rw [head_app, scan_tok (hst _), scan_dec n _ h]; rfl
def psL (st : Int) : PS := .loop [105] (.mk 1 1 [] []) (.mk 1 2 [] []) st
theorem readsA (n q : Nat) : ReadsAs (hdW ++ [⟨2, Words.dec n, q, n⟩]) (psL n) 8 .ok := by
  refine ⟨rfl, rfl, 2, .ok, 3, .ok, 4, .ok, 5, .ok, 6, .ok, rfl, rfl, rfl, rfl, xrF_ok (by kernel_rfl), rfl, rfl, xrF_ok (by kernel_rfl), ?_⟩
  have h45 : (Words.dec n == [45]) = false := by
    cases hd : Words.dec n with
    | nil => rfl
    | cons c l =>
      have hc := dec_all n c (by rw [hd]; exact List.mem_cons_self ..)
      rw [beq_eq_false_iff_ne]
      intro e
      injection e with e1 e2
      subst e1
      revert hc
      decide
  have e1 : isNext (hdW ++ [⟨2, Words.dec n, q, n⟩]) 7 .ok [45] = false := h45
  unfold stepR
  rw [if_pos (show isNext (hdW ++ [⟨2, Words.dec n, q, n⟩]) 6 .ok [44] = true from rfl), if_neg (by rw [show isNext (hdW ++ [⟨2, Words.dec n, q, n⟩]) (6 + 1) .ok [45] = false from e1]; simp)]
  rfl
theorem readsB (n q : Nat) : ReadsAs (hdW ++ [⟨3, [45], 13, 0⟩, ⟨2, Words.dec n, q, n⟩]) (psL (-(n : Int))) 9 .ok := by
  refine ⟨rfl, rfl, 2, .ok, 3, .ok, 4, .ok, 5, .ok, 6, .ok, rfl, rfl, rfl, rfl, xrF_ok (by kernel_rfl), rfl, rfl, xrF_ok (by kernel_rfl), ?_⟩
  unfold stepR
  rw [if_pos (show isNext (hdW ++ [⟨3, [45], 13, 0⟩, ⟨2, Words.dec n, q, n⟩]) 6 .ok [44] = true from rfl), if_pos (show isNext (hdW ++ [⟨3, [45], 13, 0⟩, ⟨2, Words.dec n, q, n⟩]) (6 + 1) .ok [45] = true from rfl)]
  rfl
/-- a text without a note and an end is all body -/
theorem body_all (s : List UInt8) (h : ∀ c ∈ s, c ≠ 33 ∧ c ≠ 10) : Plain.bodyOf s = s := by
  have hc : Plain.core s = s := by
    unfold Plain.core
    refine if_neg fun e => ?_
    obtain ⟨r, rfl⟩ := List.getLast?_eq_some_iff.1 e
    exact (h 10 (by simp)).2 rfl
  unfold Plain.bodyOf
  rw [hc]
  have hx : ∀ c ∈ s, (fun c => decide (c ≠ 33)) c = true := fun c hm => decide_eq_true (h c hm).1
  have h2 := List.takeWhile_append_of_pos (l₂ := []) hx
  rw [List.append_nil, List.takeWhile_nil, List.append_nil] at h2
  exact h2
theorem digit_plain (c : UInt8) (h : Words.digitB c = true) : c ≠ 33 ∧ c ≠ 10 := by
  constructor <;> (rintro rfl; revert h; decide)
theorem plainD (pre : List UInt8) (n : Nat) (h : ∀ c ∈ pre, c ≠ 33 ∧ c ≠ 10) : Plain.bodyOf (pre ++ Words.dec n) = pre ++ Words.dec n := body_all _ fun c hc => by
  rcases List.mem_append.1 hc with h1 | h1
  · exact h c h1
  · exact digit_plain c (dec_all n c h1)
theorem dec_len (n : Nat) (h : n ≤ 4294967295) : (Words.dec n).length ≤ 20 := by
  unfold Words.dec
  split
  · decide
  · exact Nat.le_trans (Words.digs_len 20 n (by omega)) (by decide)
theorem numsA (T : List Words.T) (n : Nat) (h : n ≤ 4294967295) (hT : ∀ t ∈ T, t.n ≤ 9223372036854775807 ∨ t.n = n) : NumOk T := fun t ht => by
  rcases hT t ht with h1 | h1
  · exact h1
  · omega
theorem lined_of {s : List UInt8} {T : List Words.T} {ps : PS} {p : Nat} (hb : Plain.bodyOf s = s) (hl : s.length ≤ 1000) (ht : Words.toks s = (T, 0, 0)) (hN : NumOk T) (hm : T.length ≤ 1000) (hr : ReadsAs T ps p .ok) : Lined s ps p .ok ∧ wordsOf s = T := by
  have hw : wordsOf s = T := by unfold wordsOf; rw [hb, ht]
  exact ⟨⟨by omega, by rw [hb]; omega, by rw [hw, hb, ht], by rw [hw]; exact hN, by rw [hw]; omega, by rw [hw]; exact hr⟩, hw⟩
theorem lineA (n : Nat) (h : n ≤ 4294967295) : Lined (hdB ++ Words.dec n) (psL n) 8 .ok ∧ (wordsOf (hdB ++ Words.dec n)).length = 8 := by
  have hl := dec_len n h
  obtain ⟨h1, h2⟩ := lined_of (plainD hdB n (by decide)) (by rw [List.length_append, show hdB.length = 13 from rfl]; omega) (toksA n (by unfold Words.big; omega)) (fun t ht => by
    simp only [List.mem_append, List.mem_cons, List.not_mem_nil, or_false] at ht
    rcases ht with ht | rfl
    · rcases ht with rfl | rfl | rfl | rfl | rfl | rfl | rfl <;> simp
    · show n ≤ _; omega) (by simp) (readsA n 13)
  exact ⟨h1, by rw [h2]; rfl⟩
theorem lineB (n : Nat) (h : n ≤ 4294967295) : Lined (hdB ++ ([45, 32] ++ Words.dec n)) (psL (-(n : Int))) 9 .ok ∧ (wordsOf (hdB ++ ([45, 32] ++ Words.dec n))).length = 9 := by
  have hl := dec_len n h
  obtain ⟨h1, h2⟩ := lined_of (s := hdB ++ ([45, 32] ++ Words.dec n)) (by rw [← List.append_assoc]; exact plainD (hdB ++ [45, 32]) n (by decide)) (by rw [List.length_append, List.length_append, show hdB.length = 13 from rfl, show ([45, 32] : List UInt8).length = 2 from rfl]; omega) (toksB n (by unfold Words.big; omega)) (fun t ht => by
    simp only [List.mem_append, List.mem_cons, List.not_mem_nil, or_false] at ht
    rcases ht with ht | rfl | rfl
    · rcases ht with rfl | rfl | rfl | rfl | rfl | rfl | rfl <;> simp
    · simp
    · show n ≤ _; omega) (by simp) (readsB n 15)
  exact ⟨h1, by rw [h2]; rfl⟩
theorem lineC (n : Nat) (h : n ≤ 4294967295) : Lined (hdB ++ ([45] ++ Words.dec n)) (psL (-(n : Int))) 9 .ok ∧ (wordsOf (hdB ++ ([45] ++ Words.dec n))).length = 9 := by
  have hl := dec_len n h
  obtain ⟨h1, h2⟩ := lined_of (s := hdB ++ ([45] ++ Words.dec n)) (by rw [← List.append_assoc]; exact plainD (hdB ++ [45]) n (by decide)) (by rw [List.length_append, List.length_append, show hdB.length = 13 from rfl, show ([45] : List UInt8).length = 1 from rfl]; omega) (toksC n (by unfold Words.big; omega)) (fun t ht => by
    simp only [List.mem_append, List.mem_cons, List.not_mem_nil, or_false] at ht
    rcases ht with ht | rfl | rfl
    · rcases ht with rfl | rfl | rfl | rfl | rfl | rfl | rfl <;> simp
    · simp
    · show n ≤ _; omega) (by simp) (readsB n 14)
  exact ⟨h1, by rw [h2]; rfl⟩
abbrev hdO : List UInt8 := [100, 111, 32, 105, 32, 61, 32, 49, 44, 32, 50]
theorem lineO : Lined hdO (psL 1) 6 .ok ∧ (wordsOf hdO).length = 6 := ⟨⟨by decide, by decide +kernel, by kernel_rfl, by unfold NumOk; decide +kernel, by decide +kernel, readF_ok (by kernel_rfl)⟩, by decide +kernel⟩
theorem textL_of (st : Int) : stText (psL st) = hdO ++ stepT st := by kernel_rfl
theorem okL (st : Int) (h0 : -9223372036854775808 ≤ st) (h1 : st ≤ 9223372036854775807) : OkS (psL st) := ⟨okX_of (by decide +kernel) (by decide +kernel) (by decide +kernel), okX_of (by decide +kernel) (by decide +kernel) (by decide +kernel), by decide, h0, h1⟩
/-- what a head with any small step is told as is read as that head -/
theorem line_text (st : Int) (h0 : -4294967295 ≤ st) (h1 : st ≤ 4294967295) : ∃ p, Lined (stText (psL st)) (psL st) p .ok ∧ (wordsOf (stText (psL st))).length ≤ p := by
  rw [textL_of]
  unfold stepT
  split
  · rename_i h
    subst h
    rw [List.append_nil]
    exact ⟨6, lineO.1, Nat.le_of_eq lineO.2⟩
  · rename_i h
    by_cases hn : st < 0
    · obtain ⟨n, hk⟩ : ∃ n : Nat, st = -(n : Int) := ⟨st.natAbs, by omega⟩
      subst hk
      rw [Lib.itoa_neg n (by omega), dec_digits]
      have := lineC n (by omega)
      exact ⟨9, this.1, Nat.le_of_eq this.2⟩
    · obtain ⟨n, hk⟩ : ∃ n : Nat, st = (n : Int) := ⟨st.natAbs, by omega⟩
      subst hk
      rw [Lib.itoa_nonneg n, dec_digits]
      have := lineA n (by omega)
      exact ⟨8, this.1, Nat.le_of_eq this.2⟩
end Go.Proofs.YtdpjipphbhomkaaGreatDoor.Line

namespace Go.Proofs.YtdpjipphbhomkaaGreatDoor.Line
open Go.ChangeShapes Go.WideShapes Go.ChangeAt Go.RowKit
open Ex (E St)
set_option linter.unusedVariables false

/-- what lies behind the first reading, all the way to the end -/
def StepsPost (w : World) (e : Ending) (w' : World) : Prop := e = .returned (.bool true) ∧ Below w.heap.size w w'
set_option maxHeartbeats 16000000 in
set_option maxRecDepth 100000 in
theorem stmtSteps_walk (HK : Known6Spec) (n : Nat) (hn : n ≤ 4294967295) (neg : Bool) (w : World) (hG : Glob w) (hT : Tab w) : Calls Tryz.prog 6 #[.int .u32 n, .bool neg] w fun e w' => e = .returned (.bool true) ∧ Below w.heap.size w w' := by
  have hw0 := cell_lt hG
  obtain ⟨st, s, p, hst, hli, hwl, hs⟩ : ∃ (st : Int) (s : List UInt8) (p : Nat), st = (if neg = true then 0 - (n : Int) else (n : Int)) ∧ Lined s (psL st) p .ok ∧ (wordsOf s).length ≤ p ∧ s = (if neg = true then (hdB ++ [45, 32]) ++ Words.dec n else hdB ++ Words.dec n) := by
    cases neg with
    | true => exact ⟨-(n : Int), hdB ++ ([45, 32] ++ Words.dec n), 9, by simp, (lineB n hn).1, Nat.le_of_eq (lineB n hn).2, by rw [if_pos rfl, List.append_assoc]⟩
    | false => exact ⟨n, hdB ++ Words.dec n, 8, by simp, (lineA n hn).1, Nat.le_of_eq (lineA n hn).2, by simp⟩
  have hst0 : -4294967295 ≤ st ∧ st ≤ 4294967295 := by rw [hst]; split <;> omega
  obtain ⟨p2, hli2, hwl2⟩ := line_text st hst0.1 hst0.2
  have HD := hide (fun W => decimal_any n (by omega) W)
  have HP1 : Hid (∀ W, Below w.heap.size w W → Calls Tryz.prog 8 #[.string ⟨s.toArray⟩] W fun e w' => ∃ B cs, W.heap.size < B ∧ Holds B w' cs (psL st) ∧ Below W.heap.size W w' ∧ e = .returned (.tuple #[.agg cs, .nilIface])) := hide (fun W h => parse_good hli hwl W (hG.below h) (by have := h.size; omega))
  have HP2 : Hid (∀ W, Below w.heap.size w W → Calls Tryz.prog 8 #[.string ⟨#[100, 111, 32, 105, 32, 61, 32, 49, 44, 32, 50]⟩] W fun e w' => ∃ B cs, W.heap.size < B ∧ Holds B w' cs (psL 1) ∧ Below W.heap.size W w' ∧ e = .returned (.tuple #[.agg cs, .nilIface])) := hide (fun W h => parse_good lineO.1 (Nat.le_of_eq lineO.2) W (hG.below h) (by have := h.size; omega))
  have HX : Hid (∀ B cs W, Holds B W cs (psL st) → Below w.heap.size w W → Calls Tryz.prog 13 #[.agg cs] W fun e w' => e = .returned (.string ⟨(stText (psL st)).toArray⟩) ∧ Below W.heap.size W w') := hide (fun B cs W h hb => text_all h (okL st (by omega) (by omega)) (hT.below hb))
  have HP3 : Hid (∀ W, Below w.heap.size w W → Calls Tryz.prog 8 #[.string ⟨(stText (psL st)).toArray⟩] W fun e w' => ∃ B cs, W.heap.size < B ∧ Holds B w' cs (psL st) ∧ Below W.heap.size W w' ∧ e = .returned (.tuple #[.agg cs, .nilIface])) := hide (fun W h => parse_good hli2 hwl2 W (hG.below h) (by have := h.size; omega))
  have HKN := hide (HK w hG hT)
  have hdl := dec_len n hn
  generalize stText (psL st) = tx at *
  clear hli hwl hli2 hwl2 HK hG hT hw0
  have c1 : (⟨#[100, 111, 32, 105, 32, 61, 32, 49, 44, 32, 50, 44, 32]⟩ : ByteArray) ++ ⟨#[45, 32]⟩ = ⟨(hdB ++ [45, 32]).toArray⟩ := cat2 hdB [45, 32]
  have c2 : (⟨(hdB ++ [45, 32]).toArray⟩ : ByteArray) ++ ⟨(Words.dec n).toArray⟩ = ⟨((hdB ++ [45, 32]) ++ Words.dec n).toArray⟩ := cat2 _ _
  have c3 : (⟨#[100, 111, 32, 105, 32, 61, 32, 49, 44, 32, 50, 44, 32]⟩ : ByteArray) ++ ⟨(Words.dec n).toArray⟩ = ⟨(hdB ++ Words.dec n).toArray⟩ := cat2 hdB _
  generalize Words.dec n = dn at *
  cases neg with
  | true =>
    rw [if_pos rfl] at hst hs
    obtain rfl : st = -(n : Int) := by omega
    rw [← hs] at c2
    clear c3 hst hs
    have hlb : (hdB ++ [45, 32]).length ≤ 15 := by decide
    generalize hdB ++ [45, 32] = hb2 at *
    go_enter Tryz.func6, Tryz.ntmps6
    go_wp2_with fail
    refine (unhide HKN).mono ?_
    rintro e w1 ⟨rfl, hb1⟩
    have H1 := hide hb1
    clear hb1 HKN
    go_wp2_with fail
    refine (unhide HD w1).mono ?_
    rintro e w2 ⟨rfl, hb2'⟩
    have H2 := hide (bthen (unhide H1) hb2')
    clear hb2' H1 HD
    go_wp2_with fail
    refine (unhide HP1 w2 (unhide H2)).mono ?_
    rintro e w3 ⟨B3, cs3, hB3, hh3, hb3, rfl⟩
    have hc3 := hh3.size
    have a3 := alloc_below w3 (.cells cs3 STT)
    have H3 := hide (And.intro (bthen (unhide H2) (bthen hb3 a3)) (And.intro (StAt.new w3 cs3 hc3.1) (hh3.below a3)))
    obtain ⟨hz3, ho3⟩ := hc3
    clear a3 hb3 hh3 HP1 H2
    go_wp2_with (refine wpList_storeNew rfl _ _ rfl _ _ rfl rfl rfl hz3 ho3 ?_)
    generalize hq3 : w3.heap.size = q3 at *
    generalize w3.alloc (.cells cs3 STT) = W3 at *
    clear hq3
    refine (unhide HP2 W3 (unhide H3).1).mono ?_
    rintro e w4 ⟨B4, cs4, hB4, hh4, hb4, rfl⟩
    have hc4 := hh4.size
    have a4 := alloc_below w4 (.cells cs4 STT)
    have h34 := bthen hb4 a4
    have H4 := hide (And.intro (bthen (unhide H3).1 h34) (And.intro ((unhide H3).2.1.keep (h34.block _ (unhide H3).2.1.lt)) ((unhide H3).2.2.below h34)))
    have m0 : (w4.alloc (.cells cs4 STT)).cell? ⟨q3, 0, none⟩ = some (.int .i64 3) := (unhide H4).2.1.cell 0 _ (unhide H4).2.2.kind
    have m28 : (w4.alloc (.cells cs4 STT)).cell? ⟨q3, 28, none⟩ = some (.int .i64 (-(n : Int))) := (unhide H4).2.1.cell 28 _ (unhide H4).2.2.step
    have k28 : (w4.alloc (.cells cs4 STT)).cell? ⟨w4.heap.size, 28, none⟩ = some (.int .i64 1) := (StAt.new w4 cs4 hc4.1).cell 28 _ hh4.step
    obtain ⟨hz4, ho4⟩ := hc4
    clear a4 hb4 hh4 HP2 H3 h34
    go_wp2_with (first | (refine wpList_storeNew rfl _ _ rfl _ _ rfl rfl rfl hz4 ho4 ?_) | (refine wpList_loadRow rfl _ rfl _ _ rfl (unhide H4).2.1 ?_))
    generalize hq4 : w4.heap.size = q4 at *
    generalize w4.alloc (.cells cs4 STT) = W4 at *
    clear hq4 m0 m28 k28
    refine (unhide HX _ _ W4 (unhide H4).2.2 (unhide H4).1).mono ?_
    rintro e w5 ⟨rfl, hb5⟩
    have H5 := hide (bthen (unhide H4).1 hb5)
    clear hb5 H4 HX
    go_wp2_with fail
    refine (unhide HP3 w5 (unhide H5)).mono ?_
    rintro e w6 ⟨B6, cs6, hB6, hh6, hb6, rfl⟩
    have hc6 := hh6.size
    have a6 := alloc_below w6 (.cells cs6 STT)
    have H6 := hide (bthen (unhide H5) (bthen hb6 a6))
    have n28 : (w6.alloc (.cells cs6 STT)).cell? ⟨w6.heap.size, 28, none⟩ = some (.int .i64 (-(n : Int))) := (StAt.new w6 cs6 hc6.1).cell 28 _ hh6.step
    obtain ⟨hz6, ho6⟩ := hc6
    clear a6 hb6 hh6 HP3 H5
    go_wp2_with (refine wpList_storeNew rfl _ _ rfl _ _ rfl rfl rfl hz6 ho6 ?_)
    go_ret
    exact ⟨rfl, unhide H6⟩
  | false =>
    rw [if_neg (by decide)] at hst hs
    obtain rfl : st = (n : Int) := hst
    rw [← hs] at c3
    clear c1 c2 hs
    go_enter Tryz.func6, Tryz.ntmps6
    go_wp2_with fail
    refine (unhide HKN).mono ?_
    rintro e w1 ⟨rfl, hb1⟩
    have H1 := hide hb1
    clear hb1 HKN
    go_wp2_with fail
    refine (unhide HD w1).mono ?_
    rintro e w2 ⟨rfl, hb2'⟩
    have H2 := hide (bthen (unhide H1) hb2')
    clear hb2' H1 HD
    go_wp2_with fail
    refine (unhide HP1 w2 (unhide H2)).mono ?_
    rintro e w3 ⟨B3, cs3, hB3, hh3, hb3, rfl⟩
    have hc3 := hh3.size
    have a3 := alloc_below w3 (.cells cs3 STT)
    have H3 := hide (And.intro (bthen (unhide H2) (bthen hb3 a3)) (And.intro (StAt.new w3 cs3 hc3.1) (hh3.below a3)))
    obtain ⟨hz3, ho3⟩ := hc3
    clear a3 hb3 hh3 HP1 H2
    go_wp2_with (refine wpList_storeNew rfl _ _ rfl _ _ rfl rfl rfl hz3 ho3 ?_)
    generalize hq3 : w3.heap.size = q3 at *
    generalize w3.alloc (.cells cs3 STT) = W3 at *
    clear hq3
    refine (unhide HP2 W3 (unhide H3).1).mono ?_
    rintro e w4 ⟨B4, cs4, hB4, hh4, hb4, rfl⟩
    have hc4 := hh4.size
    have a4 := alloc_below w4 (.cells cs4 STT)
    have h34 := bthen hb4 a4
    have H4 := hide (And.intro (bthen (unhide H3).1 h34) (And.intro ((unhide H3).2.1.keep (h34.block _ (unhide H3).2.1.lt)) ((unhide H3).2.2.below h34)))
    have m0 : (w4.alloc (.cells cs4 STT)).cell? ⟨q3, 0, none⟩ = some (.int .i64 3) := (unhide H4).2.1.cell 0 _ (unhide H4).2.2.kind
    have m28 : (w4.alloc (.cells cs4 STT)).cell? ⟨q3, 28, none⟩ = some (.int .i64 n) := (unhide H4).2.1.cell 28 _ (unhide H4).2.2.step
    have k28 : (w4.alloc (.cells cs4 STT)).cell? ⟨w4.heap.size, 28, none⟩ = some (.int .i64 1) := (StAt.new w4 cs4 hc4.1).cell 28 _ hh4.step
    obtain ⟨hz4, ho4⟩ := hc4
    clear a4 hb4 hh4 HP2 H3 h34
    go_wp2_with (first | (refine wpList_storeNew rfl _ _ rfl _ _ rfl rfl rfl hz4 ho4 ?_) | (refine wpList_loadRow rfl _ rfl _ _ rfl (unhide H4).2.1 ?_))
    generalize hq4 : w4.heap.size = q4 at *
    generalize w4.alloc (.cells cs4 STT) = W4 at *
    clear hq4 m0 m28 k28
    refine (unhide HX _ _ W4 (unhide H4).2.2 (unhide H4).1).mono ?_
    rintro e w5 ⟨rfl, hb5⟩
    have H5 := hide (bthen (unhide H4).1 hb5)
    clear hb5 H4 HX
    go_wp2_with fail
    refine (unhide HP3 w5 (unhide H5)).mono ?_
    rintro e w6 ⟨B6, cs6, hB6, hh6, hb6, rfl⟩
    have hc6 := hh6.size
    have a6 := alloc_below w6 (.cells cs6 STT)
    have H6 := hide (bthen (unhide H5) (bthen hb6 a6))
    have n28 : (w6.alloc (.cells cs6 STT)).cell? ⟨w6.heap.size, 28, none⟩ = some (.int .i64 n) := (StAt.new w6 cs6 hc6.1).cell 28 _ hh6.step
    obtain ⟨hz6, ho6⟩ := hc6
    clear a6 hb6 hh6 HP3 H5
    go_wp2_with (refine wpList_storeNew rfl _ _ rfl _ _ rfl rfl rfl hz6 ho6 ?_)
    go_ret
    exact ⟨rfl, unhide H6⟩
end Go.Proofs.YtdpjipphbhomkaaGreatDoor.Line
