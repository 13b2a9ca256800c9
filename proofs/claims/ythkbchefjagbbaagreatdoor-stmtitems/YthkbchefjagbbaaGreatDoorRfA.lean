/- The contract of the reference's Decimal, of a number that is not below 0.
   The contract of the reference's StmtText at a declaration. -/
import Derived.Test.YthkbchefjagbbaaGreatDoorBaseAll
import Derived.Test.YthkbchefjagbbaaGreatDoorPlainAll
import Derived.Deep.DeepCutAuto
import Derived.ChangeSlices
import Derived.Test.YthkbchefjagbbaaGreatDoorPlainLdA
import Derived.Test.YthkbchefjagbbaaGreatDoorStTxA
namespace Go.Proofs.YthkbchefjagbbaaGreatDoor.Line
open Go.ChangeShapes Go.WideShapes Go.ChangeAt Go.RowKit
set_option linter.unusedVariables false

def dg (d : Nat) : UInt8 := UInt8.ofNat (48 + d)
theorem dec_first (n : Nat) : Words.dec n = Words.digs (n / 10) ++ [dg (n % 10)] := by
  unfold Words.dec
  by_cases h : n = 0
  · subst h; rw [if_pos rfl, Nat.zero_div, Words.digs_zero]; rfl
  · rw [if_neg h, Words.digs_pos h]; rfl
theorem dec_next (m : Nat) (s : List UInt8) (h : 10 ≤ m) : Words.digs (m / 10) ++ s = Words.digs (m / 10 / 10) ++ ([dg (m / 10 % 10)] ++ s) := by
  rw [Words.digs_pos (n := m / 10) (by omega), List.append_assoc]; rfl
/-- a byte that was put into a row of one, as a text -/
theorem byte_text (w : World) (d : Nat) (hd : d < 10) (k : Int) (hk : k = 48 + (d : Int)) : (convert 107 9 (.slice (some ⟨w.heap.size, 0, none⟩) 1 1)).run Tryz.prog (w.alloc (.cells #[.int .u8 k] 5)) = .ok (.string ⟨[dg d].toArray⟩) (w.alloc (.cells #[.int .u8 k] 5)) := by
  have := run_convert_bytes_back (P := Tryz.prog) (w.alloc (.cells #[.int .u8 k] 5)) 107 9 5 ⟨w.heap.size, 0, none⟩ 1 [dg d] Tryz.underlying107 Tryz.underlying5 Tryz.underlying9 (fun j hj => by
    obtain rfl : j = 0 := by simpa using hj
    subst hk
    have h1 : (dg d).toNat = 48 + d := Words.dig_toNat d hd
    simp [Addr.add, h1])
  exact this
set_option maxHeartbeats 4000000 in
set_option maxRecDepth 100000 in
theorem decimal_any (n : Nat) (hn : n ≤ 9223372036854775807) (w : World) : Calls Tryz.prog 22 #[.int .i64 n] w fun e w' => e = .returned (.string ⟨(Words.dec n).toArray⟩) ∧ Below w.heap.size w w' := by
  have hd := hide (dec_first n)
  have HLEN : Hid ((Words.dec n).length ≤ 30) := hide (by
    unfold Words.dec
    split
    · decide
    · exact Nat.le_trans (Words.digs_len 20 n (by omega)) (by decide))
  generalize Words.dec n = DN at *
  have g1 : ¬ (n : Int) = -9223372036854775808 := by omega
  have g2 : ¬ (n : Int) < 0 := by omega
  go_enter Tryz.func22, Tryz.ntmps22
  have r1 := byte_text w (n % 10) (by omega) (48 + (n : Int) % 10) (by omega)
  go_wp2_with fail
  have HB := hide (alloc_below w (.cells #[.int .u8 (48 + (n : Int) % 10)] 5))
  generalize w.alloc (.cells #[.int .u8 (48 + (n : Int) % 10)] 5) = W1 at *
  clear r1
  go_loopw [0, 3] (fun x s wr => ∃ (m : Nat) (t : List UInt8), x = .int .i64 m ∧ s = .string ⟨t.toArray⟩ ∧ m ≤ 9223372036854775807 ∧ Hid (DN = Words.digs (m / 10) ++ t ∧ Below w.heap.size w wr)) (fun x _ _ => (intOf x).toNat)
  case atStart => exact ⟨n, [dg (n % 10)], rfl, rfl, hn, hide ⟨unhide hd, unhide HB⟩⟩
  case round =>
    obtain ⟨m, t, rfl, rfl, hm, HI⟩ := hrel
    by_cases hlt : 10 ≤ m
    · have hlt2 : (10 : Int) ≤ m := by omega
      have em : (m : Int) / 10 = ((m / 10 : Nat) : Int) := by omega
      have r2 := byte_text wr (m / 10 % 10) (by omega) (48 + ((m / 10 : Nat) : Int) % 10) (by omega)
      have HB2 := hide (bthen (unhide HI).2 (alloc_below wr (.cells #[.int .u8 (48 + ((m / 10 : Nat) : Int) % 10)] 5)))
      have HD2 := hide ((unhide HI).1.trans (dec_next m t hlt))
      have HL : Hid (t.length ≤ 30) := hide (by
        have h1 := (unhide HI).1
        have h2 := congrArg List.length h1
        have h3 := unhide HLEN
        rw [List.length_append] at h2
        omega)
      have hq : m / 10 ≤ 9223372036854775807 := by omega
      have hq2 : m / 10 < m := by omega
      generalize m / 10 = q at *
      have c2 : (⟨[dg (q % 10)].toArray⟩ : ByteArray) ++ ⟨t.toArray⟩ = ⟨([dg (q % 10)] ++ t).toArray⟩ := cat2 _ _
      have hl : t.length ≤ 30 := unhide HL
      go_wp2_with fail
      go_roundw
      case rel => exact ⟨q, [dg (q % 10)] ++ t, rfl, rfl, hq, hide ⟨unhide HD2, unhide HB2⟩⟩
      case measure => simp [intOf]; omega
    · have hlt2 : ¬ (10 : Int) ≤ m := by omega
      have he := (unhide HI).1
      rw [show m / 10 = 0 by omega, Words.digs_zero, List.nil_append] at he
      subst he
      have HB3 := hide (unhide HI).2
      clear HI
      go_wp2
      go_ret
      exact ⟨rfl, unhide HB3⟩
end Go.Proofs.YthkbchefjagbbaaGreatDoor.Line

namespace Go.Proofs.YthkbchefjagbbaaGreatDoor.Line
open Go.ChangeShapes Go.WideShapes Go.ChangeAt Go.RowKit
open Ex (E St)
set_option linter.unusedVariables false

/-- a declaration's text, item by item: what is ahead of item j; what is ahead of its size k -/
def outA (m : List (List UInt8 × List Nat)) (j : Nat) : List UInt8 := headT 1 ++ Lib.join ((m.take j).map itemP) [44, 32]
def midA (D : List Nat) (k : Nat) : List UInt8 := if k = 0 then [] else [40] ++ joinT (intsI (D.take k))
theorem join_snoc (l : List (List UInt8)) (x : List UInt8) (hl : l ≠ []) (sep : List UInt8) : Lib.join (l ++ [x]) sep = Lib.join l sep ++ (sep ++ x) := by
  induction l with
  | nil => exact absurd rfl hl
  | cons a l ih =>
    cases l with
    | nil => show Lib.join [a, x] sep = _; rw [join_two, Lib.join_one, Lib.join_one]
    | cons b l => show Lib.join (a :: b :: (l ++ [x])) sep = _; rw [join_two, join_two, ← List.cons_append, ih (by simp)]; simp
theorem outA_next (m : List (List UInt8 × List Nat)) (j : Nat) (h : j < m.length) : outA m (j + 1) = (if 0 < j then outA m j ++ [44, 32] else outA m j) ++ itemP m[j] := by
  unfold outA
  rw [List.take_succ_eq_append_getElem h, List.map_append]
  by_cases h0 : 0 < j
  · rw [if_pos h0]
    show headT 1 ++ Lib.join ((m.take j).map itemP ++ [itemP m[j]]) _ = _
    rw [join_snoc _ _ (by
      intro e
      have := congrArg List.length e
      rw [List.length_map, List.length_take] at this
      simp only [List.length_nil] at this
      omega)]
    simp
  · obtain rfl : j = 0 := by omega
    rw [if_neg h0]
    show headT 1 ++ Lib.join [itemP m[0]] _ = (headT 1 ++ Lib.join [] _) ++ _
    rw [Lib.join_one, Lib.join_nil, List.append_nil]
theorem midA_next (D : List Nat) (k : Nat) (h : k < D.length) : midA D (k + 1) = (if k = 0 then midA D k ++ [40] else midA D k ++ [44, 32]) ++ Words.dec D[k] := by
  unfold midA
  rw [if_neg (by omega)]
  unfold joinT intsI
  rw [List.take_succ_eq_append_getElem h, List.map_append, List.map_append]
  by_cases h0 : k = 0
  · subst h0
    rw [if_pos rfl, if_pos rfl]
    show ([40] : List UInt8) ++ Lib.join [Lib.itoa (D[0] : Int)] _ = ([] ++ [40]) ++ _
    rw [Lib.join_one, Lib.itoa_nonneg, dec_digits]
    rfl
  · rw [if_neg h0, if_neg h0]
    show ([40] : List UInt8) ++ Lib.join (((D.take k).map fun (n : Nat) => (n : Int)).map Lib.itoa ++ [Lib.itoa (D[k] : Int)]) _ = _
    rw [join_snoc _ _ (by
      intro e
      have := congrArg List.length e
      rw [List.length_map, List.length_map, List.length_take] at this
      simp only [List.length_nil] at this
      omega), Lib.itoa_nonneg, dec_digits]
    simp
theorem midA_end (x : List UInt8 × List Nat) : itemP x = x.1 ++ (if 0 < x.2.length then midA x.2 x.2.length ++ [41] else midA x.2 x.2.length) := by
  obtain ⟨nm, D⟩ := x
  unfold itemP midA dimsT
  cases D with
  | nil => rfl
  | cons d D =>
    rw [if_neg (by simp [intsI]), if_pos (by simp), if_neg (by simp), List.take_length]
    simp
abbrev rfV (v : Value) : Array Value := #[.int .i64 1, v, .int .i64 0, .int .i64 0, .string ⟨#[]⟩, .slice none 0 0, .int .i64 0, .int .i64 0, .string ⟨#[]⟩, .slice none 0 0, .string ⟨#[]⟩, .int .i64 0, .int .i64 0, .string ⟨#[]⟩, .slice none 0 0, .int .i64 0, .int .i64 0, .string ⟨#[]⟩, .slice none 0 0, .string ⟨#[]⟩, .int .i64 0, .int .i64 0, .string ⟨#[]⟩, .slice none 0 0, .int .i64 0, .int .i64 0, .string ⟨#[]⟩, .slice none 0 0, .int .i64 0]
/-- a row of items in memory, as the reference has them -/
structure RfRow (w : World) (b : Nat) (m : List (List UInt8 × List Nat)) (sl : Nat → Option Addr × Nat) : Prop where
  lt : b < w.heap.size
  nm : ∀ j x, m[j]? = some x → w.cell? ⟨b, j * 2, none⟩ = some (.string ⟨x.1.toArray⟩)
  ds : ∀ j x, m[j]? = some x → w.cell? ⟨b, j * 2 + 1, none⟩ = some (.slice (sl j).1 x.2.length (sl j).2)
  at_ : ∀ j x, m[j]? = some x → ∀ k d, x.2[k]? = some d → ∃ g, (sl j).1 = some ⟨g, 0, none⟩ ∧ w.cell? ⟨g, k, none⟩ = some (.int .i64 ((d : Nat) : Int))
theorem RfRow.below {w w' : World} {b : Nat} {m : List (List UInt8 × List Nat)} {sl : Nat → Option Addr × Nat} (h : RfRow w b m sl) (hb : Below w.heap.size w w') : RfRow w' b m sl :=
  ⟨Nat.lt_of_lt_of_le h.lt hb.size, fun j x hj => (hb.cell (p := ⟨b, j * 2, none⟩) h.lt).trans (h.nm j x hj), fun j x hj => (hb.cell (p := ⟨b, j * 2 + 1, none⟩) h.lt).trans (h.ds j x hj), fun j x hj k d hk => by
    obtain ⟨g, e, hc⟩ := h.at_ j x hj k d hk
    exact ⟨g, e, (hb.cell (p := ⟨g, k, none⟩) (cell_lt hc)).trans hc⟩⟩
theorem outA_len (m : List (List UInt8 × List Nat)) (hi : ∀ x ∈ m, (itemP x).length ≤ 200) : ∀ j, j ≤ m.length → (outA m j).length ≤ 8 + j * 202 := by
  intro j
  induction j with
  | zero => intro _; rw [show outA m 0 = headT 1 from by unfold outA; rw [List.take_zero, List.map_nil, Lib.join_nil, List.append_nil]]; decide
  | succ j ih =>
    intro h
    have h1 := ih (by omega)
    have h2 := hi m[j] (List.getElem_mem _)
    rw [outA_next m j (by omega), List.length_append]
    split
    · rw [List.length_append]; simp only [List.length_cons, List.length_nil]; omega
    · omega
theorem midA_len (D : List Nat) (hd : ∀ d ∈ D, d ≤ 65536) : ∀ k, k ≤ D.length → (midA D k).length ≤ 1 + k * 22 := by
  intro k
  induction k with
  | zero => intro _; exact Nat.zero_le _
  | succ k ih =>
    intro h
    have h1 := ih (by omega)
    have h2 := dec_len D[k] (by have := hd D[k] (List.getElem_mem _); omega)
    rw [midA_next D k (by omega), List.length_append]
    split
    · rw [List.length_append]; simp only [List.length_cons, List.length_nil]; omega
    · rw [List.length_append]; simp only [List.length_cons, List.length_nil]; omega
set_option maxHeartbeats 8000000 in
set_option maxRecDepth 100000 in
theorem refText_decl (m : List (List UInt8 × List Nat)) (b cap : Nat) (sl : Nat → Option Addr × Nat) (w : World) (hr : RfRow w b m sl) (hm : m.length ≤ 100) (hi : ∀ x ∈ m, (itemP x).length ≤ 200) (hn : ∀ x ∈ m, x.1.length ≤ 100 ∧ x.2.length ≤ 10 ∧ ∀ d ∈ x.2, d ≤ 65536) :
    Calls Tryz.prog 23 #[.agg (rfV (.slice (some ⟨b, 0, none⟩) m.length cap))] w fun e w' => e = .returned (.string ⟨(outA m m.length).toArray⟩) ∧ Below w.heap.size w w' := by
  have ba := alloc_below w (.cells (rfV (.slice (some ⟨b, 0, none⟩) m.length cap)) 55)
  have HR := hide (hr.below ba)
  have HB := hide ba
  have HSZ := hide ba.size
  have HBX : Hid ((w.alloc (.cells (rfV (.slice (some ⟨b, 0, none⟩) m.length cap)) 55)).cell? ⟨w.heap.size, 1, none⟩ = some (.slice (some ⟨b, 0, none⟩) m.length cap)) := hide (by simp)
  have HOL := hide (outA_len m hi)
  have HNN := hide hn
  have h00 : outA m 0 = [105, 110, 116, 101, 103, 101, 114, 32] := by kernel_rfl
  have H00 := hide h00
  clear ba hr hi hn h00
  obtain ⟨n, hn⟩ : ∃ n, m.length = n := ⟨_, rfl⟩
  have HN := hide hn
  rw [hn] at hm HBX HB HR HSZ
  rw [hn]
  clear hn
  go_enter Tryz.func23, Tryz.ntmps23
  go_wp2_with fail
  generalize hB0 : w.heap.size = B0 at *
  generalize w.alloc (.cells (rfV (.slice (some ⟨b, 0, none⟩) n cap)) 55) = W1 at *
  have HB0 := hide hB0
  clear hB0
  go_loopw [3, 4] (fun s i wr => ∃ j : Nat, s = .string ⟨(outA m j).toArray⟩ ∧ i = .int .i64 j ∧ j ≤ n ∧ Hid (Below W1.heap.size W1 wr)) (fun _ i _ => n - (intOf i).toNat)
  case atStart => exact ⟨0, by rw [unhide H00], rfl, Nat.zero_le _, hide (Below.refl _ _)⟩
  case round =>
    obtain ⟨j, rfl, rfl, hj, HBW⟩ := hrel
    have m1 := ((unhide HBW).cell (p := ⟨B0, 1, none⟩) (cell_lt (unhide HBX))).trans (unhide HBX)
    by_cases hlt : j < n
    · have hlt2 : (j : Int) < n := by omega
      have hjm : j < m.length := by rw [unhide HN]; exact hlt
      have HR2 := hide ((unhide HR).below (unhide HBW))
      obtain ⟨x, hx⟩ : ∃ x, m[j] = x := ⟨_, rfl⟩
      have HXJ : Hid (m[j]? = some x) := hide (by rw [List.getElem?_eq_getElem hjm, hx])
      have m2 := (unhide HR2).nm j x (unhide HXJ)
      have m3 := (unhide HR2).ds j x (unhide HXJ)
      have HNX := hide (outA_next m j hjm)
      have hal : (outA m j).length ≤ 30000 := by have := unhide HOL j (by omega); omega
      have hxo := unhide HNN m[j] (List.getElem_mem _)
      have HMT := hide (midA_end x)
      rw [hx] at HNX hxo
      obtain ⟨nm, D⟩ := x
      obtain ⟨hnl, hDl, hDd⟩ := hxo
      have HML := hide (midA_len D hDd)
      have HDD := hide hDd
      simp only at m2 m3 hnl hDl
      clear hx hjm HR2 hDd
      generalize hao : outA m j = ao at *
      clear hao
      by_cases h0 : 0 < j
      · have h02 : (0 : Int) < j := by omega
        rw [if_pos h0] at HNX
        have c1 : (⟨ao.toArray⟩ : ByteArray) ++ ⟨#[44, 32]⟩ = ⟨(ao ++ [44, 32]).toArray⟩ := cat2 _ [44, 32]
        have c2 : (⟨(ao ++ [44, 32]).toArray⟩ : ByteArray) ++ ⟨nm.toArray⟩ = ⟨((ao ++ [44, 32]) ++ nm).toArray⟩ := cat2 _ _
        have l1 : (ao ++ [44, 32]).length ≤ 30002 := by rw [List.length_append]; simp only [List.length_cons, List.length_nil]; omega
        have l2 : ((ao ++ [44, 32]) ++ nm).length ≤ 30200 := by rw [List.length_append]; omega
        generalize ao ++ [44, 32] = A1 at *
        go_wp2_with fail
        generalize hPR : A1 ++ nm = PR at *
        clear m1 m2 m3
        go_loopw [3, 5] (fun s k wv => ∃ q : Nat, s = .string ⟨(PR ++ midA D q).toArray⟩ ∧ k = .int .i64 q ∧ q ≤ D.length ∧ Hid (Below W1.heap.size W1 wv)) (fun _ k _ => D.length - (intOf k).toNat)
        case atStart => exact ⟨0, by rw [show midA D 0 = [] from rfl, List.append_nil], rfl, Nat.zero_le _, HBW⟩
        case round =>
          obtain ⟨q, rfl, rfl, hq, HB2⟩ := hrel
          have m1 := ((unhide HB2).cell (p := ⟨B0, 1, none⟩) (cell_lt (unhide HBX))).trans (unhide HBX)
          have HR3 := hide ((unhide HR).below (unhide HB2))
          have m3 := (unhide HR3).ds j _ (unhide HXJ)
          simp only at m3
          have hml := unhide HML q hq
          have hpm : (PR ++ midA D q).length ≤ 40000 := by rw [List.length_append]; omega
          by_cases hq2 : q < D.length
          · have hq3 : (q : Int) < D.length := by omega
            obtain ⟨g, hg, hc⟩ := (unhide HR3).at_ j _ (unhide HXJ) q D[q] (List.getElem?_eq_getElem hq2)
            rw [hg] at m3
            have hdd := unhide HDD D[q] (List.getElem_mem _)
            have hdl := dec_len D[q] (by omega)
            have HDC := hide (fun W => decimal_any D[q] (by omega) W)
            have HMN := hide (midA_next D q hq2)
            generalize D[q] = d at *
            generalize (sl j).2 = sc at *
            obtain ⟨P, hP⟩ : ∃ P, P = PR ++ midA D q := ⟨_, rfl⟩
            have HPP := hide hP
            rw [← hP] at hpm ⊢
            clear hP hg
            by_cases hq0 : q = 0
            · subst hq0
              rw [if_pos rfl] at HMN
              have c3 : (⟨P.toArray⟩ : ByteArray) ++ ⟨#[40]⟩ = ⟨(P ++ [40]).toArray⟩ := cat2 _ [40]
              have c4 : (⟨(P ++ [40]).toArray⟩ : ByteArray) ++ ⟨(Words.dec d).toArray⟩ = ⟨((P ++ [40]) ++ Words.dec d).toArray⟩ := cat2 _ _
              have l3 : (P ++ [40]).length ≤ 40001 := by rw [List.length_append]; simp only [List.length_cons, List.length_nil]; omega
              have HNX2 : Hid ((P ++ [40]) ++ Words.dec d = PR ++ midA D (0 + 1)) := hide (by rw [unhide HMN, unhide HPP]; simp only [List.append_assoc])
              generalize P ++ [40] = P1 at *
              generalize Words.dec d = dd at *
              go_wp2_with fail
              refine (unhide HDC _).mono ?_
              rintro e w5 ⟨rfl, hb5⟩
              have HB5 := hide (bthen (unhide HB2) hb5)
              clear hb5 m1 m3 hc
              go_wp2_with fail
              go_roundw
              case rel => exact ⟨0 + 1, by rw [← unhide HNX2], by go_num, by omega, HB5⟩
              case measure => simp [intOf]; omega
            · have hq4 : ¬ (q : Int) = 0 := by omega
              have hq5 : ((q : Int) == 0) = false := by rw [beq_eq_false_iff_ne]; exact hq4
              rw [if_neg hq0] at HMN
              have c3 : (⟨P.toArray⟩ : ByteArray) ++ ⟨#[44, 32]⟩ = ⟨(P ++ [44, 32]).toArray⟩ := cat2 _ [44, 32]
              have c4 : (⟨(P ++ [44, 32]).toArray⟩ : ByteArray) ++ ⟨(Words.dec d).toArray⟩ = ⟨((P ++ [44, 32]) ++ Words.dec d).toArray⟩ := cat2 _ _
              have l3 : (P ++ [44, 32]).length ≤ 40002 := by rw [List.length_append]; simp only [List.length_cons, List.length_nil]; omega
              have HNX2 : Hid ((P ++ [44, 32]) ++ Words.dec d = PR ++ midA D (q + 1)) := hide (by rw [unhide HMN, unhide HPP]; simp only [List.append_assoc])
              generalize P ++ [44, 32] = P1 at *
              generalize Words.dec d = dd at *
              go_wp2_with fail
              refine (unhide HDC _).mono ?_
              rintro e w5 ⟨rfl, hb5⟩
              have HB5 := hide (bthen (unhide HB2) hb5)
              clear hb5 m1 m3 hc
              go_wp2_with fail
              go_roundw
              case rel => exact ⟨q + 1, by rw [← unhide HNX2], by go_num, by omega, HB5⟩
              case measure => simp [intOf]; omega
          · obtain rfl : q = D.length := by omega
            have hq3 : ¬ (D.length : Int) < D.length := by omega
            have HME := hide (unhide HMT)
            generalize hDL : D.length = dl at *
            by_cases hd0 : 0 < dl
            · have hd1 : (0 : Int) < dl := by omega
              have HFN : Hid ((PR ++ midA D dl) ++ [41] = outA m (j + 1)) := hide (by
                have h1 := unhide HNX
                rw [h1, unhide HME]
                rw [if_pos hd0, ← hPR]
                simp only [List.append_assoc])
              have c5 : (⟨(PR ++ midA D dl).toArray⟩ : ByteArray) ++ ⟨#[41]⟩ = ⟨((PR ++ midA D dl) ++ [41]).toArray⟩ := cat2 _ [41]
              rw [unhide HFN] at c5
              generalize hoj : outA m (j + 1) = oj at *
              have HOJ := hide hoj
              clear hoj
              generalize PR ++ midA D dl = P at *
              go_wp2_with fail
              go_roundw
              case rel => exact ⟨j + 1, by rw [unhide HOJ], by go_num, by omega, HB2⟩
              case measure => simp [intOf]; omega
            · obtain rfl : dl = 0 := by omega
              have hd1 : ¬ (0 : Int) < 0 := by omega
              have HFN : Hid (PR ++ midA D 0 = outA m (j + 1)) := hide (by
                have h1 := unhide HNX
                rw [h1, unhide HME]
                rw [if_neg hd0, ← hPR]
                simp only [List.append_assoc])
              rw [unhide HFN]
              generalize hoj : outA m (j + 1) = oj at *
              have HOJ := hide hoj
              clear hoj
              go_wp2_with fail
              go_roundw
              case rel => exact ⟨j + 1, by rw [unhide HOJ], by go_num, by omega, HB2⟩
              case measure => simp [intOf]; omega
      · have h02 : ¬ (0 : Int) < j := by omega
        rw [if_neg h0] at HNX
        have c2 : (⟨ao.toArray⟩ : ByteArray) ++ ⟨nm.toArray⟩ = ⟨(ao ++ nm).toArray⟩ := cat2 _ _
        have l2 : (ao ++ nm).length ≤ 30200 := by rw [List.length_append]; omega
        go_wp2_with fail
        generalize hPR : ao ++ nm = PR at *
        clear m1 m2 m3
        go_loopw [3, 5] (fun s k wv => ∃ q : Nat, s = .string ⟨(PR ++ midA D q).toArray⟩ ∧ k = .int .i64 q ∧ q ≤ D.length ∧ Hid (Below W1.heap.size W1 wv)) (fun _ k _ => D.length - (intOf k).toNat)
        case atStart => exact ⟨0, by rw [show midA D 0 = [] from rfl, List.append_nil], rfl, Nat.zero_le _, HBW⟩
        case round =>
          obtain ⟨q, rfl, rfl, hq, HB2⟩ := hrel
          have m1 := ((unhide HB2).cell (p := ⟨B0, 1, none⟩) (cell_lt (unhide HBX))).trans (unhide HBX)
          have HR3 := hide ((unhide HR).below (unhide HB2))
          have m3 := (unhide HR3).ds j _ (unhide HXJ)
          simp only at m3
          have hml := unhide HML q hq
          have hpm : (PR ++ midA D q).length ≤ 40000 := by rw [List.length_append]; omega
          by_cases hq2 : q < D.length
          · have hq3 : (q : Int) < D.length := by omega
            obtain ⟨g, hg, hc⟩ := (unhide HR3).at_ j _ (unhide HXJ) q D[q] (List.getElem?_eq_getElem hq2)
            rw [hg] at m3
            have hdd := unhide HDD D[q] (List.getElem_mem _)
            have hdl := dec_len D[q] (by omega)
            have HDC := hide (fun W => decimal_any D[q] (by omega) W)
            have HMN := hide (midA_next D q hq2)
            generalize D[q] = d at *
            generalize (sl j).2 = sc at *
            obtain ⟨P, hP⟩ : ∃ P, P = PR ++ midA D q := ⟨_, rfl⟩
            have HPP := hide hP
            rw [← hP] at hpm ⊢
            clear hP hg
            by_cases hq0 : q = 0
            · subst hq0
              rw [if_pos rfl] at HMN
              have c3 : (⟨P.toArray⟩ : ByteArray) ++ ⟨#[40]⟩ = ⟨(P ++ [40]).toArray⟩ := cat2 _ [40]
              have c4 : (⟨(P ++ [40]).toArray⟩ : ByteArray) ++ ⟨(Words.dec d).toArray⟩ = ⟨((P ++ [40]) ++ Words.dec d).toArray⟩ := cat2 _ _
              have l3 : (P ++ [40]).length ≤ 40001 := by rw [List.length_append]; simp only [List.length_cons, List.length_nil]; omega
              have HNX2 : Hid ((P ++ [40]) ++ Words.dec d = PR ++ midA D (0 + 1)) := hide (by rw [unhide HMN, unhide HPP]; simp only [List.append_assoc])
              generalize P ++ [40] = P1 at *
              generalize Words.dec d = dd at *
              go_wp2_with fail
              refine (unhide HDC _).mono ?_
              rintro e w5 ⟨rfl, hb5⟩
              have HB5 := hide (bthen (unhide HB2) hb5)
              clear hb5 m1 m3 hc
              go_wp2_with fail
              go_roundw
              case rel => exact ⟨0 + 1, by rw [← unhide HNX2], by go_num, by omega, HB5⟩
              case measure => simp [intOf]; omega
            · have hq4 : ¬ (q : Int) = 0 := by omega
              have hq5 : ((q : Int) == 0) = false := by rw [beq_eq_false_iff_ne]; exact hq4
              rw [if_neg hq0] at HMN
              have c3 : (⟨P.toArray⟩ : ByteArray) ++ ⟨#[44, 32]⟩ = ⟨(P ++ [44, 32]).toArray⟩ := cat2 _ [44, 32]
              have c4 : (⟨(P ++ [44, 32]).toArray⟩ : ByteArray) ++ ⟨(Words.dec d).toArray⟩ = ⟨((P ++ [44, 32]) ++ Words.dec d).toArray⟩ := cat2 _ _
              have l3 : (P ++ [44, 32]).length ≤ 40002 := by rw [List.length_append]; simp only [List.length_cons, List.length_nil]; omega
              have HNX2 : Hid ((P ++ [44, 32]) ++ Words.dec d = PR ++ midA D (q + 1)) := hide (by rw [unhide HMN, unhide HPP]; simp only [List.append_assoc])
              generalize P ++ [44, 32] = P1 at *
              generalize Words.dec d = dd at *
              go_wp2_with fail
              refine (unhide HDC _).mono ?_
              rintro e w5 ⟨rfl, hb5⟩
              have HB5 := hide (bthen (unhide HB2) hb5)
              clear hb5 m1 m3 hc
              go_wp2_with fail
              go_roundw
              case rel => exact ⟨q + 1, by rw [← unhide HNX2], by go_num, by omega, HB5⟩
              case measure => simp [intOf]; omega
          · obtain rfl : q = D.length := by omega
            have hq3 : ¬ (D.length : Int) < D.length := by omega
            have HME := hide (unhide HMT)
            generalize hDL : D.length = dl at *
            by_cases hd0 : 0 < dl
            · have hd1 : (0 : Int) < dl := by omega
              have HFN : Hid ((PR ++ midA D dl) ++ [41] = outA m (j + 1)) := hide (by
                have h1 := unhide HNX
                rw [h1, unhide HME]
                rw [if_pos hd0, ← hPR]
                simp only [List.append_assoc])
              have c5 : (⟨(PR ++ midA D dl).toArray⟩ : ByteArray) ++ ⟨#[41]⟩ = ⟨((PR ++ midA D dl) ++ [41]).toArray⟩ := cat2 _ [41]
              rw [unhide HFN] at c5
              generalize hoj : outA m (j + 1) = oj at *
              have HOJ := hide hoj
              clear hoj
              generalize PR ++ midA D dl = P at *
              go_wp2_with fail
              go_roundw
              case rel => exact ⟨j + 1, by rw [unhide HOJ], by go_num, by omega, HB2⟩
              case measure => simp [intOf]; omega
            · obtain rfl : dl = 0 := by omega
              have hd1 : ¬ (0 : Int) < 0 := by omega
              have HFN : Hid (PR ++ midA D 0 = outA m (j + 1)) := hide (by
                have h1 := unhide HNX
                rw [h1, unhide HME]
                rw [if_neg hd0, ← hPR]
                simp only [List.append_assoc])
              rw [unhide HFN]
              generalize hoj : outA m (j + 1) = oj at *
              have HOJ := hide hoj
              clear hoj
              go_wp2_with fail
              go_roundw
              case rel => exact ⟨j + 1, by rw [unhide HOJ], by go_num, by omega, HB2⟩
              case measure => simp [intOf]; omega
    · obtain rfl : n = j := by omega
      have hlt2 : ¬ (n : Int) < n := by omega
      have HBF := hide ((unhide HB).trans ((unhide HBW).mono (unhide HSZ)))
      go_wp2
      go_ret
      exact ⟨rfl, by rw [unhide HB0]; exact unhide HBF⟩
end Go.Proofs.YthkbchefjagbbaaGreatDoor.Line
