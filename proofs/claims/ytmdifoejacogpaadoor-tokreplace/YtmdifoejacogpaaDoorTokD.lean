/- Contracts of package tok: letters, digits, clings, first. -/
import Derived.Test.YtmdifoejacogpaaDoorTokFn
import Derived.Test.YtmdifoejacogpaaDoorNumB
import Derived.Test.YtmdifoejacogpaaDoorTokNum
import Derived.Test.YtmdifoejacogpaaDoorTokMem
import Derived.Test.YtmdifoejacogpaaDoorPlainLine
namespace Go.Proofs.YtmdifoejacogpaaDoor.Line
open Go.ChangeShapes Go.WideShapes Go.ChangeAt Go.RowKit
set_option linter.unusedVariables false

/-- a word whose place is not told yet, as a value -/
def tokA (t : Words.T) : Value := .agg #[.int .i64 t.kind, .string ⟨t.text.toArray⟩, .int .i64 0, .int .i64 t.n]
/-- an Errno, or none, as a value -/
def errV (e : Nat) : Value := if e = 0 then .nilIface else .iface 52 (.int .i64 e)
def lettersW (s : List UInt8) : Words.T × Nat := if Words.isKey s then (⟨4, s, 0, 0⟩, 0) else if 31 < s.length then (⟨0, [], 0, 0⟩, 4) else (⟨1, s, 0, 0⟩, 0)

abbrev zeroTok : Array Value := #[.int .i64 0, .string ⟨#[]⟩, .int .i64 0, .int .i64 0]
set_option maxHeartbeats 2000000 in
theorem letters_any (l : List UInt8) (w : World) (hl : l.length ≤ 1000000) : Calls Tryd.prog 34 #[.string ⟨l.toArray⟩] w fun e w' => e = .returned (.tuple #[tokA (lettersW l).1, errV (lettersW l).2]) ∧ Below w.heap.size w w' := by
  have HK := hide (isKeyD_any l)
  unfold lettersW
  by_cases hk : Words.isKey l = true
  · rw [if_pos hk]
    rw [hk] at HK
    clear hk
    go_enter Tryd.func34, Tryd.ntmps34
    go_wp2_with (go_at_call 15; refine (unhide HK _).mono ?_; rintro ev w1 ⟨rfl, hw⟩; have hw := hw.symm; subst hw)
    exact bodyPost_ret (v := .tuple #[tokA ⟨4, l, 0, 0⟩, errV 0]) (by simp [results, Tryd.results34, go_sem, tokA, errV]) rfl ⟨rfl, alloc_below _ _⟩
  · rw [if_neg hk]
    replace hk : Words.isKey l = false := by simpa using hk
    rw [hk] at HK
    clear hk
    by_cases h31 : 31 < l.length
    · rw [if_pos h31]
      have q1 : decide (31 < l.length) = true := decide_eq_true h31
      go_enter Tryd.func34, Tryd.ntmps34
      go_wp2_with (go_at_call 15; refine (unhide HK _).mono ?_; rintro ev w1 ⟨rfl, hw⟩; have hw := hw.symm; subst hw)
      exact bodyPost_ret (v := .tuple #[tokA ⟨0, [], 0, 0⟩, errV 4]) (by simp [results, Tryd.results34, go_sem, tokA, errV]) rfl ⟨rfl, alloc_below _ _⟩
    · rw [if_neg h31]
      have q1 : decide (31 < l.length) = false := decide_eq_false h31
      go_enter Tryd.func34, Tryd.ntmps34
      go_wp2_with (go_at_call 15; refine (unhide HK _).mono ?_; rintro ev w1 ⟨rfl, hw⟩; have hw := hw.symm; subst hw)
      exact bodyPost_ret (v := .tuple #[tokA ⟨1, l, 0, 0⟩, errV 0]) (by simp [results, Tryd.results34, go_sem, tokA, errV]) rfl ⟨rfl, alloc_below _ _⟩

def digitsW (s : List UInt8) : Words.T × Nat := if Words.big < Words.num s then (⟨0, [], 0, 0⟩, 5) else (⟨2, s, 0, Words.num s⟩, 0)
set_option maxHeartbeats 4000000 in
set_option maxRecDepth 100000 in
theorem digits_any (l : List UInt8) (hd : ∀ i (h : i < l.length), Words.digitB l[i] = true) (hl : l.length ≤ 1000000) (w : World) : Calls Tryd.prog 38 #[.string ⟨l.toArray⟩] w fun e w' => e = .returned (.tuple #[tokA (digitsW l).1, errV (digitsW l).2]) ∧ Below w.heap.size w w' := by
  have hsz : ((⟨l.toArray⟩ : ByteArray).size : Int) = l.length := rfl
  have HD := hide hd
  clear hd
  obtain ⟨ans, hans⟩ : ∃ a, Ending.returned (.tuple #[tokA (digitsW l).1, errV (digitsW l).2]) = a := ⟨_, rfl⟩
  rw [hans]
  have HANS := hide hans
  clear hans
  go_enter Tryd.func38, Tryd.ntmps38
  go_wp2
  go_loopw [4, 10] (fun x q wr => ∃ i : Nat, i ≤ l.length ∧ q = .int .i64 i ∧ x = .int .i64 (Words.num (l.take i) : Int) ∧ wr = w.alloc (.cells zeroTok 36) ∧ Hid (Words.num (l.take i) ≤ Words.big)) (fun _ q _ => l.length - (intOf q).toNat)
  case atStart => exact ⟨0, Nat.zero_le _, rfl, rfl, rfl, hide (Nat.zero_le _)⟩
  case round =>
    obtain ⟨i, hi, rfl, rfl, rfl, HB⟩ := hrel
    by_cases hlt : i < l.length
    · have hs : i < (⟨l.toArray⟩ : ByteArray).size := hlt
      have hbv : (((⟨l.toArray⟩ : ByteArray)[i]'hs).toNat : Int) = (l[i].toNat : Int) := rfl
      have hlt2 : (i : Int) < l.length := by omega
      have hdg := unhide HD i hlt
      unfold Words.digitB at hdg
      simp only [Bool.and_eq_true, decide_eq_true_eq] at hdg
      have HNT := hide (num_take l i hlt)
      have HLE := hide (num_le l (i + 1))
      have hnb := unhide HB
      generalize hnn : l[i].toNat = n at *
      generalize Words.num (l.take i) = m at *
      obtain ⟨d, rfl⟩ : ∃ d, n = d + 48 := ⟨n - 48, by omega⟩
      have hd9 : d ≤ 9 := by omega
      unfold Words.big at hnb
      clear hdg
      have e1 : ((d + 48 : Nat) : Int) - 48 = d := by omega
      have HM := hide (fun W => mul_any (m : Int) 10 W (by omega) (by omega) (by omega) (by omega))
      by_cases hov : 10 * m ≤ 9223372036854775807
      · rw [fitV_in (by omega) (by omega), fitO_in (by omega) (by omega), show (m : Int) * 10 = ((10 * m : Nat) : Int) by omega] at HM
        have HA := hide (fun W => add_any ((10 * m : Nat) : Int) (d : Int) W (by omega) (by omega) (by omega) (by omega))
        obtain ⟨mm, hmm⟩ : ∃ mm, 10 * m = mm := ⟨_, rfl⟩
        rw [hmm] at HM HA
        by_cases hov2 : mm + d ≤ 9223372036854775807
        · rw [fitV_in (by omega) (by omega), fitO_in (by omega) (by omega), show (mm : Int) + (d : Int) = ((mm + d : Nat) : Int) by omega] at HA
          go_wp2_with (first | (go_at_call 53; refine (unhide HM _).mono ?_; rintro ev w1 ⟨rfl, hw⟩; have hw := hw.symm; subst hw) | (go_at_call 54; refine (unhide HA _).mono ?_; rintro ev w1 ⟨rfl, hw⟩; have hw := hw.symm; subst hw))
          go_roundw
          case rel => exact ⟨i + 1, by omega, by go_num, by rw [unhide HNT, show d + 48 - 48 = d by omega, hmm]; simp, trivial, hide (by rw [unhide HNT]; unfold Words.big; omega)⟩
          case measure => simp [intOf]; omega
        · rw [fitV_out (by omega), fitO_out (by omega)] at HA
          have HOV : Hid (Words.big < Words.num l) := hide (by have h1 := unhide HNT; have h2 := unhide HLE; unfold Words.big; omega)
          go_wp2_with (first | (go_at_call 53; refine (unhide HM _).mono ?_; rintro ev w1 ⟨rfl, hw⟩; have hw := hw.symm; subst hw) | (go_at_call 54; refine (unhide HA _).mono ?_; rintro ev w1 ⟨rfl, hw⟩; have hw := hw.symm; subst hw))
          refine bodyPost_ret (v := .tuple #[tokA ⟨0, [], 0, 0⟩, errV 5]) (by simp [results, Tryd.results38, go_sem, tokA, errV]) rfl ⟨?_, alloc_below _ _⟩
          rw [← unhide HANS]
          unfold digitsW
          rw [if_pos (unhide HOV)]
      · rw [fitV_out (by omega), fitO_out (by omega)] at HM
        have HOV : Hid (Words.big < Words.num l) := hide (by have h1 := unhide HNT; have h2 := unhide HLE; unfold Words.big; omega)
        go_wp2_with (first | (go_at_call 53; refine (unhide HM _).mono ?_; rintro ev w1 ⟨rfl, hw⟩; have hw := hw.symm; subst hw))
        refine bodyPost_ret (v := .tuple #[tokA ⟨0, [], 0, 0⟩, errV 5]) (by simp [results, Tryd.results38, go_sem, tokA, errV]) rfl ⟨?_, alloc_below _ _⟩
        rw [← unhide HANS]
        unfold digitsW
        rw [if_pos (unhide HOV)]
    · have hil : i = l.length := by omega
      have HQ : Hid (l.take i = l) := hide (by rw [hil, List.take_length])
      have hnb := unhide HB
      rw [unhide HQ] at hnb
      have HNB := hide hnb
      rw [unhide HQ]
      generalize hm : Words.num l = m at *
      clear hil
      have HM := hide hm
      clear hm
      go_wp2
      refine bodyPost_ret (v := .tuple #[tokA ⟨2, l, 0, m⟩, errV 0]) (by simp [results, Tryd.results38, go_sem, tokA, errV]) rfl ⟨?_, alloc_below _ _⟩
      rw [← unhide HANS]
      unfold digitsW
      rw [unhide HM, if_neg (by have := unhide HNB; omega)]

theorem clings_nil (k : Nat) : Words.clingsB [] k = false := rfl
theorem clings_last (l : List Words.T) (m : Nat) (h : l.length = m + 1) (k : Nat) : Words.clingsB l k = (decide ((l[m]'(by omega)).kind = 2) && (decide (k = 1) || decide (k = 4))) := by
  unfold Words.clingsB
  rw [List.getLast?_eq_getElem?, show l.length - 1 = m by omega, List.getElem?_eq_getElem (by omega)]
set_option maxHeartbeats 4000000 in
theorem clings_any (u : Value) (l : List Words.T) (t : Words.T) (w : World) (hT : Tks w u l) (hl : l.length ≤ 1000000) : Calls Tryd.prog 19 #[u, tokA t] w fun e w' => e = .returned (.bool (Words.clingsB l t.kind)) ∧ Below w.heap.size w w' := by
  unfold tokA
  have hT2 := hT.below (alloc_below w (.cells #[.int .i64 t.kind, .string ⟨t.text.toArray⟩, .int .i64 0, .int .i64 t.n] 36))
  have hB := alloc_below w (.cells #[.int .i64 t.kind, .string ⟨t.text.toArray⟩, .int .i64 0, .int .i64 t.n] 36)
  have HB := hide hB
  clear hB
  have c0 : (w.alloc (.cells #[.int .i64 t.kind, .string ⟨t.text.toArray⟩, .int .i64 0, .int .i64 t.n] 36)).cell? ⟨w.heap.size, 0, none⟩ = some (.int .i64 t.kind) := by simp
  by_cases h0 : l.length = 0
  · obtain rfl : l = [] := List.length_eq_zero_iff.1 h0
    obtain ⟨a, c, rfl⟩ := hT.shape
    rw [clings_nil]
    clear hT hT2 h0 c0
    go_enter Tryd.func19, Tryd.ntmps19
    go_wp2
    go_ret
    exact ⟨rfl, unhide HB⟩
  · obtain ⟨m, hm⟩ : ∃ m, l.length = m + 1 := ⟨l.length - 1, by omega⟩
    rw [clings_last l m hm]
    rcases hT2 with ⟨_, _, _, hnil⟩ | ⟨b, off, cap, rfl, hcap, hcells⟩
    · exact absurd (by rw [hnil]; rfl) h0
    obtain ⟨d0, -, -, -⟩ := hcells m (by omega)
    clear hcells hT h0
    generalize (l[m]'(by omega)).kind = lk at *
    generalize l.length = n at *
    have e1 : (n : Int) - 1 = m := by omega
    have e2 : ((n : Int) == 0) = false := by rw [beq_eq_false_iff_ne]; omega
    have e3 : ¬ (n : Int) = 0 := by omega
    have hm1 : m + 1 ≤ cap := by omega
    have hm2 : (m : Int) < n := by omega
    have hm3 : m ≤ 1000000 := by omega
    clear hm
    generalize t.kind = k at *
    by_cases g1 : lk = 2
    · subst g1
      by_cases g2 : k = 1
      · have k1 : (k : Int) = 1 := by omega
        have HG := hide g2
        rw [k1] at c0 HB d0 ⊢
        clear k1 g2
        go_enter Tryd.func19, Tryd.ntmps19
        go_wp2
        go_ret
        exact ⟨ret_bool (by rw [unhide HG]; rfl), unhide HB⟩
      · have k1 : ((k : Int) == 1) = false := by rw [beq_eq_false_iff_ne]; omega
        go_enter Tryd.func19, Tryd.ntmps19
        go_wp2
        go_ret
        refine ⟨ret_bool ?_, unhide HB⟩
        by_cases g3 : k = 4
        · subst g3; rfl
        · have k4 : ((k : Int) == 4) = false := by rw [beq_eq_false_iff_ne]; omega
          simp [g2, g3, k4]
    · have k2 : ((lk : Int) != 2) = true := by rw [bne_iff_ne]; omega
      have k3 : ¬ (lk : Int) = 2 := by omega
      rw [decide_eq_false g1]
      go_enter Tryd.func19, Tryd.ntmps19
      go_wp2
      go_ret
      exact ⟨rfl, unhide HB⟩

/-- the block of the named result, a Tok, behind a call that wrote new memory alone -/
theorem tok_cells {w w2 : World} (hB : Below (w.heap.size + 1) (w.alloc (.cells zeroTok 36)) w2) :
    (w2.cell? ⟨w.heap.size, 0, none⟩ = some (.int .i64 0) ∧ w2.cell? ⟨w.heap.size, 1, none⟩ = some (.string ⟨#[]⟩) ∧ w2.cell? ⟨w.heap.size, 2, none⟩ = some (.int .i64 0) ∧ w2.cell? ⟨w.heap.size, 3, none⟩ = some (.int .i64 0)) ∧ (w2.frozen? ⟨w.heap.size, 0, none⟩ = false ∧ w2.frozen? ⟨w.heap.size, 1, none⟩ = false ∧ w2.frozen? ⟨w.heap.size, 2, none⟩ = false ∧ w2.frozen? ⟨w.heap.size, 3, none⟩ = false) ∧ w.heap.size < w2.heap.size ∧ Below w.heap.size w w2 := by
  refine ⟨⟨?_, ?_, ?_, ?_⟩, ⟨?_, ?_, ?_, ?_⟩, by have := hB.size; simp at this; omega, ((Below.refl _ _).alloc (Nat.le_refl _) _).trans (hB.mono (by omega))⟩
  · rw [hB.cell (p := ⟨w.heap.size, 0, none⟩) (by simp)]; simp
  · rw [hB.cell (p := ⟨w.heap.size, 1, none⟩) (by simp)]; simp
  · rw [hB.cell (p := ⟨w.heap.size, 2, none⟩) (by simp)]; simp
  · rw [hB.cell (p := ⟨w.heap.size, 3, none⟩) (by simp)]; simp
  · rw [hB.frozen (p := ⟨w.heap.size, 0, none⟩) (by simp)]; simp
  · rw [hB.frozen (p := ⟨w.heap.size, 1, none⟩) (by simp)]; simp
  · rw [hB.frozen (p := ⟨w.heap.size, 2, none⟩) (by simp)]; simp
  · rw [hB.frozen (p := ⟨w.heap.size, 3, none⟩) (by simp)]; simp
theorem first_names {l : List UInt8} (h : Words.headIs Words.letterB l = true) : Words.first l = lettersW (l.takeWhile Words.behindB) := by
  unfold Words.first lettersW
  rw [if_pos h]
theorem first_numbers {l : List UInt8} (h : Words.headIs Words.letterB l = false) (h2 : Words.headIs Words.digitB l = true) : Words.first l = digitsW (l.takeWhile Words.digitB) := by
  unfold Words.first digitsW
  rw [if_neg (by rw [h]; decide), if_pos h2]
theorem first_signs {l : List UInt8} (h : Words.headIs Words.letterB l = false) (h2 : Words.headIs Words.digitB l = false) : Words.first l = if Words.signLen l = 0 then (⟨0, [], 0, 0⟩, 3) else (⟨3, l.take (Words.signLen l), 0, 0⟩, 0) := by
  unfold Words.first
  rw [if_neg (by rw [h]; decide), if_neg (by rw [h2]; decide)]
theorem head_at (p : UInt8 → Bool) (l : List UInt8) (h : 0 < l.length) : Words.headIs p l = p l[0] := by
  cases l with
  | nil => simp at h
  | cons c r => rfl
theorem take_tw (p : UInt8 → Bool) (l : List UInt8) : l.take (l.takeWhile p).length = l.takeWhile p := (List.prefix_iff_eq_take.1 (List.takeWhile_prefix _)).symm
set_option maxHeartbeats 4000000 in
set_option maxRecDepth 100000 in
theorem first_any (l : List UInt8) (w : World) (h0 : 0 < l.length) (hl : l.length ≤ 1000000) : Calls Tryd.prog 18 #[.string ⟨l.toArray⟩] w fun e w' => e = .returned (.tuple #[tokA (Words.first l).1, errV (Words.first l).2]) ∧ Below w.heap.size w w' := by
  have hs : 0 < (⟨l.toArray⟩ : ByteArray).size := h0
  have hbv : (((⟨l.toArray⟩ : ByteArray)[0]'hs).toNat : Int) = (l[0].toNat : Int) := rfl
  have hlt2 : (0 : Int) < l.length := by omega
  have HS := hide (fun W => isSmall_any l[0] W)
  have HD := hide (fun W => isDigit_any l[0] W)
  have H1 := hide (head_at Words.letterB l h0)
  have H2 := hide (head_at Words.digitB l h0)
  by_cases g1 : Words.letterB l[0] = true
  · rw [first_names ((unhide H1).trans g1)]
    rw [g1] at HS
    have HSP := hide (fun W => spanInner_any l W hl)
    have HTW := hide (take_tw Words.behindB l)
    have hle : (l.takeWhile Words.behindB).length ≤ l.length := (List.takeWhile_prefix _).length_le
    have HLE := hide (fun W => letters_any (l.takeWhile Words.behindB) W (by omega))
    generalize l.takeWhile Words.behindB = X at *
    generalize lettersW X = r at *
    obtain ⟨⟨rk, rt, rp, rn⟩, re⟩ := r
    generalize l[0].toNat = c0 at *
    have hxe : (⟨l.toArray⟩ : ByteArray).extract 0 X.length = ⟨X.toArray⟩ := by rw [ext_front, unhide HTW]
    have hle2 : (X.length : Int) ≤ l.length := by omega
    clear g1 H1 H2
    go_enter Tryd.func18, Tryd.ntmps18
    go_wp2_with (first | (go_at_call 33; refine (unhide HS _).mono ?_; rintro ev w1 ⟨rfl, hw⟩; have hw := hw.symm; subst hw) | (go_at_call 35; refine (unhide HSP _).mono ?_; rintro ev w1 ⟨rfl, hw⟩; have hw := hw.symm; subst hw))
    refine (unhide HLE _).mono ?_
    rintro ev w4 ⟨rfl, hb4⟩
    have hb5 : Below (w.heap.size + 1) (w.alloc (.cells zeroTok 36)) w4 := hb4.mono (by simp)
    obtain ⟨⟨k0, k1, k2, k3⟩, ⟨z0, z1, z2, z3⟩, hsz, hB⟩ := tok_cells hb5
    have HB := hide hB
    clear hb4 hb5 hB
    unfold tokA
    go_wp2
    refine bodyPost_ret (v := .tuple #[tokA ⟨rk, rt, rp, rn⟩, errV re]) (by simp [results, Tryd.results18, go_sem, tokA, k0, k1, k2, k3]) rfl ⟨rfl, ?_⟩
    exact ((((unhide HB).setCell (Nat.le_refl _) _).setCell (Nat.le_refl _) _).setCell (Nat.le_refl _) _).setCell (Nat.le_refl _) _
  · replace g1 : Words.letterB l[0] = false := by simpa using g1
    rw [g1] at HS
    by_cases g2 : Words.digitB l[0] = true
    · rw [first_numbers ((unhide H1).trans g1) ((unhide H2).trans g2)]
      rw [g2] at HD
      have HSP := hide (fun W => spanDigit_any l W hl)
      have HTW := hide (take_tw Words.digitB l)
      have hle : (l.takeWhile Words.digitB).length ≤ l.length := (List.takeWhile_prefix _).length_le
      have HLE := hide (fun W => digits_any (l.takeWhile Words.digitB) (fun i h => List.all_eq_true.1 List.all_takeWhile _ (List.getElem_mem h)) (by omega) W)
      generalize l.takeWhile Words.digitB = X at *
      generalize digitsW X = r at *
      obtain ⟨⟨rk, rt, rp, rn⟩, re⟩ := r
      generalize l[0].toNat = c0 at *
      have hxe : (⟨l.toArray⟩ : ByteArray).extract 0 X.length = ⟨X.toArray⟩ := by rw [ext_front, unhide HTW]
      have hle2 : (X.length : Int) ≤ l.length := by omega
      clear g1 g2 H1 H2
      go_enter Tryd.func18, Tryd.ntmps18
      go_wp2_with (first | (go_at_call 33; refine (unhide HS _).mono ?_; rintro ev w1 ⟨rfl, hw⟩; have hw := hw.symm; subst hw) | (go_at_call 37; refine (unhide HD _).mono ?_; rintro ev w1 ⟨rfl, hw⟩; have hw := hw.symm; subst hw) | (go_at_call 35; refine (unhide HSP _).mono ?_; rintro ev w1 ⟨rfl, hw⟩; have hw := hw.symm; subst hw))
      refine (unhide HLE _).mono ?_
      rintro ev w4 ⟨rfl, hb4⟩
      have hb5 : Below (w.heap.size + 1) (w.alloc (.cells zeroTok 36)) w4 := hb4.mono (by simp)
      obtain ⟨⟨k0, k1, k2, k3⟩, ⟨z0, z1, z2, z3⟩, hsz, hB⟩ := tok_cells hb5
      have HB := hide hB
      clear hb4 hb5 hB
      unfold tokA
      go_wp2
      refine bodyPost_ret (v := .tuple #[tokA ⟨rk, rt, rp, rn⟩, errV re]) (by simp [results, Tryd.results18, go_sem, tokA, k0, k1, k2, k3]) rfl ⟨rfl, ?_⟩
      exact ((((unhide HB).setCell (Nat.le_refl _) _).setCell (Nat.le_refl _) _).setCell (Nat.le_refl _) _).setCell (Nat.le_refl _) _
    · replace g2 : Words.digitB l[0] = false := by simpa using g2
      rw [first_signs ((unhide H1).trans g1) ((unhide H2).trans g2)]
      rw [g2] at HD
      have HSG := hide (fun W => signLength_any l h0 hl W)
      have HKL := hide (Words.signLen_le l)
      have hle : Words.signLen l ≤ l.length := by
        have := Words.signLen_le l
        cases hh : l with
        | nil => simp [Words.signLen]
        | cons c r =>
          simp only [Words.signLen]
          split
          · split
            · rename_i hr
              cases r with
              | nil => cases hr
              | cons _ _ => simp
            · simp
          · split <;> simp
      generalize Words.signLen l = k at *
      generalize l[0].toNat = c0 at *
      clear g1 g2 H1 H2
      by_cases hk : k = 0
      · subst hk
        rw [if_pos rfl]
        go_enter Tryd.func18, Tryd.ntmps18
        go_wp2_with (first | (go_at_call 33; refine (unhide HS _).mono ?_; rintro ev w1 ⟨rfl, hw⟩; have hw := hw.symm; subst hw) | (go_at_call 37; refine (unhide HD _).mono ?_; rintro ev w1 ⟨rfl, hw⟩; have hw := hw.symm; subst hw) | (go_at_call 39; refine (unhide HSG _).mono ?_; rintro ev w1 ⟨rfl, hw⟩; have hw := hw.symm; subst hw))
        exact bodyPost_ret (v := .tuple #[tokA ⟨0, [], 0, 0⟩, errV 3]) (by simp [results, Tryd.results18, go_sem, tokA, errV]) rfl ⟨rfl, alloc_below _ _⟩
      · rw [if_neg hk]
        have k1 : ((k : Int) == 0) = false := by rw [beq_eq_false_iff_ne]; omega
        have k2 : ¬ (k : Int) = 0 := by omega
        have hle2 : (k : Int) ≤ l.length := by omega
        obtain ⟨X, hX⟩ : ∃ X, l.take k = X := ⟨_, rfl⟩
        have hxe : (⟨l.toArray⟩ : ByteArray).extract 0 k = ⟨X.toArray⟩ := by rw [ext_front, hX]
        rw [hX]
        clear hX
        go_enter Tryd.func18, Tryd.ntmps18
        go_wp2_with (first | (go_at_call 33; refine (unhide HS _).mono ?_; rintro ev w1 ⟨rfl, hw⟩; have hw := hw.symm; subst hw) | (go_at_call 37; refine (unhide HD _).mono ?_; rintro ev w1 ⟨rfl, hw⟩; have hw := hw.symm; subst hw) | (go_at_call 39; refine (unhide HSG _).mono ?_; rintro ev w1 ⟨rfl, hw⟩; have hw := hw.symm; subst hw))
        exact bodyPost_ret (v := .tuple #[tokA ⟨3, X, 0, 0⟩, errV 0]) (by simp [results, Tryd.results18, go_sem, tokA, errV]) rfl ⟨rfl, alloc_below _ _⟩
end Go.Proofs.YtmdifoejacogpaaDoor.Line
