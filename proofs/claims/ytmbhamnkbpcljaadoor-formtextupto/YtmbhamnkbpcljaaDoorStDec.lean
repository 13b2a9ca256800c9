/- The contract of the reference's Decimal, of a number that is not below 0. -/
import Derived.Test.YtmbhamnkbpcljaaDoorBaseAll
import Derived.Test.YtmbhamnkbpcljaaDoorPlainTokMore
import Derived.Deep.DeepCutAuto
import Derived.ChangeSlices
namespace Go.Proofs.YtmbhamnkbpcljaaDoor.Line
open Go.ChangeShapes Go.WideShapes Go.ChangeAt Go.RowKit
set_option linter.unusedVariables false

def dg (d : Nat) : UInt8 := UInt8.ofNat (48 + d)
theorem dec_first (n : Nat) : Words.dec n = Words.digs (n / 10) ++ [dg (n % 10)] := by
  unfold Words.dec
  by_cases h : n = 0
  · subst h; rw [if_pos rfl, Nat.zero_div, Words.digs_zero]; rfl
  · rw [if_neg h, Words.digs_pos h]; rfl
theorem dec_next (m : Nat) (s : List UInt8) (h : 10 ≤ m) : Words.digs (m / 10) ++ s = Words.digs (m / 10 / 10) ++ ([dg (m / 10 % 10)] ++ s) := by
  rw [Words.digs_pos (n := m / 10) (by omega), List.append_assoc]; rfl
/-- a byte that was put into a row of one, as a text -/
theorem byte_text (w : World) (d : Nat) (hd : d < 10) (k : Int) (hk : k = 48 + (d : Int)) : (convert 63 9 (.slice (some ⟨w.heap.size, 0, none⟩) 1 1)).run Tryd.prog (w.alloc (.cells #[.int .u8 k] 5)) = .ok (.string ⟨[dg d].toArray⟩) (w.alloc (.cells #[.int .u8 k] 5)) := by
  have := run_convert_bytes_back (P := Tryd.prog) (w.alloc (.cells #[.int .u8 k] 5)) 63 9 5 ⟨w.heap.size, 0, none⟩ 1 [dg d] Tryd.underlying63 Tryd.underlying5 Tryd.underlying9 (fun j hj => by
    obtain rfl : j = 0 := by simpa using hj
    subst hk
    have h1 : (dg d).toNat = 48 + d := Words.dig_toNat d hd
    simp [Addr.add, h1])
  exact this
set_option maxHeartbeats 4000000 in
set_option maxRecDepth 100000 in
theorem decimal_any (n : Nat) (hn : n ≤ 9223372036854775807) (w : World) : Calls Tryd.prog 47 #[.int .i64 n] w fun e w' => e = .returned (.string ⟨(Words.dec n).toArray⟩) ∧ Below w.heap.size w w' := by
  have hd := hide (dec_first n)
  have HLEN : Hid ((Words.dec n).length ≤ 30) := hide (by
    unfold Words.dec
    split
    · decide
    · exact Nat.le_trans (Words.digs_len 20 n (by omega)) (by decide))
  generalize Words.dec n = DN at *
  have g1 : ¬ (n : Int) = -9223372036854775808 := by omega
  have g2 : ¬ (n : Int) < 0 := by omega
  go_enter Tryd.func47, Tryd.ntmps47
  have r1 := byte_text w (n % 10) (by omega) (48 + (n : Int) % 10) (by omega)
  go_wp2_with fail
  have HB := hide (alloc_below w (.cells #[.int .u8 (48 + (n : Int) % 10)] 5))
  generalize w.alloc (.cells #[.int .u8 (48 + (n : Int) % 10)] 5) = W1 at *
  clear r1
  go_loopw [0, 3] (fun x s wr => ∃ (m : Nat) (t : List UInt8), x = .int .i64 m ∧ s = .string ⟨t.toArray⟩ ∧ m ≤ 9223372036854775807 ∧ Hid (DN = Words.digs (m / 10) ++ t ∧ Below w.heap.size w wr)) (fun x _ _ => (intOf x).toNat)
  case atStart => exact ⟨n, [dg (n % 10)], rfl, rfl, hn, hide ⟨unhide hd, unhide HB⟩⟩
  case round =>
    obtain ⟨m, t, rfl, rfl, hm, HI⟩ := hrel
    by_cases hlt : 10 ≤ m
    · have hlt2 : (10 : Int) ≤ m := by omega
      have em : (m : Int) / 10 = ((m / 10 : Nat) : Int) := by omega
      have r2 := byte_text wr (m / 10 % 10) (by omega) (48 + ((m / 10 : Nat) : Int) % 10) (by omega)
      have HB2 := hide (bthen (unhide HI).2 (alloc_below wr (.cells #[.int .u8 (48 + ((m / 10 : Nat) : Int) % 10)] 5)))
      have HD2 := hide ((unhide HI).1.trans (dec_next m t hlt))
      have HL : Hid (t.length ≤ 30) := hide (by
        have h1 := (unhide HI).1
        have h2 := congrArg List.length h1
        have h3 := unhide HLEN
        rw [List.length_append] at h2
        omega)
      have hq : m / 10 ≤ 9223372036854775807 := by omega
      have hq2 : m / 10 < m := by omega
      generalize m / 10 = q at *
      have c2 : (⟨[dg (q % 10)].toArray⟩ : ByteArray) ++ ⟨t.toArray⟩ = ⟨([dg (q % 10)] ++ t).toArray⟩ := cat2 _ _
      have hl : t.length ≤ 30 := unhide HL
      go_wp2_with fail
      go_roundw
      case rel => exact ⟨q, [dg (q % 10)] ++ t, rfl, rfl, hq, hide ⟨unhide HD2, unhide HB2⟩⟩
      case measure => simp [intOf]; omega
    · have hlt2 : ¬ (10 : Int) ≤ m := by omega
      have he := (unhide HI).1
      rw [show m / 10 = 0 by omega, Words.digs_zero, List.nil_append] at he
      subst he
      have HB3 := hide (unhide HI).2
      clear HI
      go_wp2
      go_ret
      exact ⟨rfl, unhide HB3⟩
end Go.Proofs.YtmbhamnkbpcljaaDoor.Line
