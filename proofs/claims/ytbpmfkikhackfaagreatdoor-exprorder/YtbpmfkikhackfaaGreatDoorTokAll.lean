/- Contracts of the checked sum and product: num.Add, num.Mul and what they call.
   Contracts of the small functions of package tok: isSmall, isDigit, isInner, IsKey, signLength, span.
   Plain facts on texts as lists of bytes: lines, which line may not be, a line's parts, its indent. Nothing of the program is named.
   The contracts of strings.Builder's WriteString and String and the laying of strings.TrimLeft at this program: the library s theorems, laid at its numbers.
   The contract of a line's indent: line.Indent.
   What stage 4's walks ask of the project's Line, of known, of Tells; where words lie, how many there are.
   Contracts of package tok: letters, digits, clings, first.
   The contract of the project's Line. -/
import Derived.Lib.Mul64
import Derived.Laws.Bits64b
import Derived.IntWalk
import Derived.WalkLawsBesides
import Derived.Test.YtbpmfkikhackfaaGreatDoorBase
import Derived.Test.YtbpmfkikhackfaaGreatDoorTokSmall
import Derived.Lib.Strings
import Derived.Lib.Bytealg
import Derived.Shelf.Strings.BuilderK
import Derived.Shelf.Strings.Trim
import Derived.Shelf.Strings.SlTrimAscii
import Derived.Test.YtbpmfkikhackfaaGreatDoorProg
import Derived.Test.YtbpmfkikhackfaaGreatDoorPlainTok
import Derived.Test.YtbpmfkikhackfaaGreatDoorTokMem
import Derived.Test.YtbpmfkikhackfaaGreatDoorGlobB
import Derived.Test.YtbpmfkikhackfaaGreatDoorPlainLine
import Derived.Test.YtbpmfkikhackfaaGreatDoorTokNum
namespace Go.Proofs.YtbpmfkikhackfaaGreatDoor.Line
open Go.ChangeShapes Go.WideShapes Go.ChangeAt Go.RowKit
set_option linter.unusedVariables false

/-- What a checked operation answers for the whole number x: x itself where 64 bits hold it, else 0. -/
def fitV (x : Int) : Int := if -9223372036854775808 ≤ x ∧ x ≤ 9223372036854775807 then x else 0
/-- Whether 64 bits hold x. -/
def fitO (x : Int) : Bool := decide (-9223372036854775808 ≤ x ∧ x ≤ 9223372036854775807)
theorem fitV_in {x : Int} (h : -9223372036854775808 ≤ x) (g : x ≤ 9223372036854775807) : fitV x = x := by
  unfold fitV; rw [if_pos ⟨h, g⟩]
theorem fitO_in {x : Int} (h : -9223372036854775808 ≤ x) (g : x ≤ 9223372036854775807) : fitO x = true := by
  unfold fitO; exact decide_eq_true ⟨h, g⟩
theorem fitV_out {x : Int} (h : x < -9223372036854775808 ∨ 9223372036854775807 < x) : fitV x = 0 := by
  unfold fitV; rw [if_neg (by omega)]
theorem fitO_out {x : Int} (h : x < -9223372036854775808 ∨ 9223372036854775807 < x) : fitO x = false := by
  unfold fitO; exact decide_eq_false (by omega)
theorem ret_two {k : IntKind} {a b : Int} {c d : Bool} (h : a = b) (g : c = d) :
    Ending.returned (.tuple #[.int k a, .bool c]) = .returned (.tuple #[.int k b, .bool d]) := by rw [h, g]

/- quotients -/
theorem size_any (a : Int) (w : World) (h1 : -9223372036854775808 ≤ a) (h2 : a ≤ 9223372036854775807) :
    Calls Tryz.prog 104 #[.int .i64 a] w fun e w' => e = .returned (.int .u64 (a.natAbs : Int)) ∧ w' = w := by
  go_enter Tryz.func104, Tryz.ntmps104
  go_wp2
  all_goals go_ret
  · exact ⟨ret_int (by rw [IntKind.wrap_u64, IntKind.wrap_u64]; omega), rfl⟩
  · exact ⟨ret_int (by omega), rfl⟩
theorem add_any (a b : Int) (w : World) (h1 : -9223372036854775808 ≤ a) (h2 : a ≤ 9223372036854775807) (h3 : -9223372036854775808 ≤ b) (h4 : b ≤ 9223372036854775807) :
    Calls Tryz.prog 97 #[.int .i64 a, .int .i64 b] w fun e w' => e = .returned (.tuple #[.int .i64 (fitV (a + b)), .bool (fitO (a + b))]) ∧ w' = w := by
  go_enter Tryz.func97, Tryz.ntmps97
  go_wp2
  all_goals go_ret2
  all_goals first
    | exact ⟨ret_two (fitV_out (by omega)).symm (fitO_out (by omega)).symm, rfl⟩
    | exact ⟨ret_two (fitV_in (by omega) (by omega)).symm (fitO_in (by omega) (by omega)).symm, rfl⟩
theorem maskN (a : Nat) (ha : a < 18446744073709551616) : bits .and .u64 (a : Int) 4294967295 = ((a % 4294967296 : Nat) : Int) := by
  have h := bits_and_u64_nat a 4294967295 ha (by omega)
  rw [Nat.and_two_pow_sub_one_eq_mod a 32] at h
  exact h
theorem divN (a : Nat) : (a : Int) / 4294967296 = ((a / 4294967296 : Nat) : Int) := by omega
theorem wrapN (a : Nat) (ha : a < 18446744073709551616) : IntKind.u64.wrap (a : Int) = (a : Int) := by rw [IntKind.wrap_u64]; omega
theorem wrapM (a : Nat) : IntKind.u64.wrap (a : Int) = ((a % 18446744073709551616 : Nat) : Int) := by rw [IntKind.wrap_u64]; omega
theorem mul64_any (x y : Nat) (hx : x < 18446744073709551616) (hy : y < 18446744073709551616) (w : World) :
    Calls Tryz.prog 103 #[.int .u64 x, .int .u64 y] w fun e w' => e = .returned (.tuple #[.int .u64 ((x * y / 18446744073709551616 : Nat) : Int), .int .u64 ((x * y % 18446744073709551616 : Nat) : Int)]) ∧ w' = w := by
  obtain ⟨bd, bt, bw, hhi⟩ := Lib.mul64_hi x y hx hy
  have ba := Lib.half_mul_le (a := x / 4294967296) (b := y / 4294967296) (by omega) (by omega)
  have bb := Lib.half_mul_le (a := x / 4294967296) (b := y % 4294967296) (by omega) (by omega)
  have bc := Lib.half_mul_le (a := x % 4294967296) (b := y / 4294967296) (by omega) (by omega)
  have ba' : x / 4294967296 * (y / 4294967296) < 18446744073709551616 := by omega
  have bb' : x / 4294967296 * (y % 4294967296) < 18446744073709551616 := by omega
  have bc' : x % 4294967296 * (y / 4294967296) < 18446744073709551616 := by omega
  have bh1 : x / 4294967296 * (y / 4294967296) + (x / 4294967296 * (y % 4294967296) + x % 4294967296 * (y % 4294967296) / 4294967296) / 4294967296 < 18446744073709551616 := by omega
  have bh : x / 4294967296 * (y / 4294967296) + (x / 4294967296 * (y % 4294967296) + x % 4294967296 * (y % 4294967296) / 4294967296) / 4294967296 + ((x / 4294967296 * (y % 4294967296) + x % 4294967296 * (y % 4294967296) / 4294967296) % 4294967296 + x % 4294967296 * (y / 4294967296)) / 4294967296 < 18446744073709551616 := by omega
  go_enter Tryz.func103, Tryz.ntmps103
  go_wp2
  simp only [maskN x hx, maskN y hy, divN, ← Int.natCast_mul, ← Int.natCast_add, wrapN _ bd, wrapN _ bb', wrapN _ bt, maskN _ bt, wrapN _ bc', wrapN _ bw, wrapN _ ba', wrapN _ bh1, wrapN _ bh, wrapM (x * y)]
  rw [hhi]
  go_ret2
  exact ⟨rfl, rfl⟩
theorem signed_any (n : Int) (b : Bool) (w : World) (h1 : 0 ≤ n) (h2 : n ≤ 18446744073709551615) :
    Calls Tryz.prog 105 #[.int .u64 n, .bool b] w fun e w' => e = .returned (.tuple #[.int .i64 (fitV (if b = true then -n else n)), .bool (fitO (if b = true then -n else n))]) ∧ w' = w := by
  cases b
  · simp only [Bool.false_eq_true, if_false]
    go_enter Tryz.func105, Tryz.ntmps105
    go_wp2
    all_goals go_ret2
    all_goals first
      | exact ⟨ret_two (fitV_out (by omega)).symm (fitO_out (by omega)).symm, rfl⟩
      | exact ⟨ret_two (fitV_in (by omega) (by omega)).symm (fitO_in (by omega) (by omega)).symm, rfl⟩
  · simp only [if_true]
    go_enter Tryz.func105, Tryz.ntmps105
    go_wp2
    all_goals go_ret2
    all_goals first
      | exact ⟨ret_two (fitV_out (by omega)).symm (fitO_out (by omega)).symm, rfl⟩
      | exact ⟨ret_two ((by rw [IntKind.wrap_u64]; unfold wrap64; omega : _ = -n).trans (fitV_in (by omega) (by omega)).symm) (fitO_in (by omega) (by omega)).symm, rfl⟩
theorem prod_same {a b : Int} (h : a < 0 ↔ b < 0) : a * b = ↑a.natAbs * ↑b.natAbs := by
  by_cases ha : a < 0
  · have hb := h.1 ha
    rw [show (a.natAbs : Int) = -a by omega, show (b.natAbs : Int) = -b by omega, Int.neg_mul_neg]
  · have hb := fun g => ha (h.2 g)
    rw [show (a.natAbs : Int) = a by omega, show (b.natAbs : Int) = b by omega]
theorem prod_diff {a b : Int} (h : ¬ (a < 0 ↔ b < 0)) : a * b = -(↑a.natAbs * ↑b.natAbs) := by
  by_cases ha : a < 0
  · rw [show (a.natAbs : Int) = -a by omega, show (b.natAbs : Int) = b by omega, Int.neg_mul, Int.neg_neg]
  · rw [show (a.natAbs : Int) = a by omega, show (b.natAbs : Int) = -b by omega, Int.mul_neg, Int.neg_neg]
theorem prod_nonneg (a b : Int) : 0 ≤ (a.natAbs : Int) * (b.natAbs : Int) := Int.mul_nonneg (by omega) (by omega)
theorem prod_great {a b : Int} (h : ((a.natAbs : Int) * (b.natAbs : Int) / 18446744073709551616 != 0) = true) : a * b < -9223372036854775808 ∨ 9223372036854775807 < a * b := by
  have := prod_nonneg a b
  have h : ¬ ((a.natAbs : Int) * (b.natAbs : Int) / 18446744073709551616 = 0) := by simpa using h
  by_cases g : a < 0 ↔ b < 0
  · rw [prod_same g]; omega
  · rw [prod_diff g]; omega
theorem prod_small {a b : Int} (h : ((a.natAbs : Int) * (b.natAbs : Int) / 18446744073709551616 != 0) = false) : (a.natAbs : Int) * (b.natAbs : Int) % 18446744073709551616 = (a.natAbs : Int) * (b.natAbs : Int) := by
  have := prod_nonneg a b
  have h : ((a.natAbs : Int) * (b.natAbs : Int) / 18446744073709551616 = 0) := by simpa using h
  omega
theorem mul_any (a b : Int) (w : World) (h1 : -9223372036854775808 ≤ a) (h2 : a ≤ 9223372036854775807) (h3 : -9223372036854775808 ≤ b) (h4 : b ≤ 9223372036854775807) :
    Calls Tryz.prog 96 #[.int .i64 a, .int .i64 b] w fun e w' => e = .returned (.tuple #[.int .i64 (fitV (a * b)), .bool (fitO (a * b))]) ∧ w' = w := by
  go_enter Tryz.func96, Tryz.ntmps96
  go_wp2_with (first
    | (go_at_call 104; refine (size_any _ _ (by assumption) (by assumption)).mono ?_; rintro e w' ⟨rfl, rfl⟩)
    | (go_at_call 103; refine (mul64_any _ _ (by omega) (by omega) _).mono ?_; rintro e w' ⟨rfl, rfl⟩)
    | (go_at_call 105; refine (signed_any _ _ _ (by omega) (by omega)).mono ?_; rintro e w' ⟨rfl, rfl⟩))
  all_goals go_ret2
  · exact ⟨ret_two (fitV_out (prod_great ‹_›)).symm (fitO_out (prod_great ‹_›)).symm, rfl⟩
  · have e : (a.natAbs : Int) * (b.natAbs : Int) % 18446744073709551616 = a * b := (prod_small ‹_›).trans (prod_same ‹_›).symm
    exact ⟨ret_two (by rw [e]) (by rw [e]), rfl⟩
  · have e : -((a.natAbs : Int) * (b.natAbs : Int) % 18446744073709551616) = a * b := by rw [prod_small ‹_›]; exact (prod_diff ‹_›).symm
    exact ⟨ret_two (by rw [e]) (by rw [e]), rfl⟩
end Go.Proofs.YtbpmfkikhackfaaGreatDoor.Line

namespace Go.Proofs.YtbpmfkikhackfaaGreatDoor.Line
open Go.ChangeShapes Go.WideShapes Go.ChangeAt Go.RowKit
set_option linter.unusedVariables false

theorem isSmall_any (c : UInt8) (w : World) : Calls Tryz.prog 71 #[.int .u8 (c.toNat : Int)] w fun e w' => e = .returned (.bool (Words.letterB c)) ∧ w' = w := by
  have hE : Words.letterB c = (decide (97 ≤ c.toNat) && decide (c.toNat ≤ 122)) := rfl
  rw [hE]
  clear hE
  generalize c.toNat = n
  by_cases h1 : 97 ≤ n
  · have q1 : decide (97 ≤ n) = true := decide_eq_true h1
    go_enter Tryz.func71, Tryz.ntmps71
    go_wp2
    go_ret
    refine ⟨ret_bool ?_, rfl⟩
    simp [h1]
    omega
  · have q1 : decide (97 ≤ n) = false := decide_eq_false h1
    go_enter Tryz.func71, Tryz.ntmps71
    go_wp2
    go_ret
    refine ⟨ret_bool ?_, rfl⟩
    simp
theorem isDigit_any (c : UInt8) (w : World) : Calls Tryz.prog 75 #[.int .u8 (c.toNat : Int)] w fun e w' => e = .returned (.bool (Words.digitB c)) ∧ w' = w := by
  have hE : Words.digitB c = (decide (48 ≤ c.toNat) && decide (c.toNat ≤ 57)) := rfl
  rw [hE]
  clear hE
  generalize c.toNat = n
  by_cases h1 : 48 ≤ n
  · have q1 : decide (48 ≤ n) = true := decide_eq_true h1
    go_enter Tryz.func75, Tryz.ntmps75
    go_wp2
    go_ret
    refine ⟨ret_bool ?_, rfl⟩
    simp [h1]
    omega
  · have q1 : decide (48 ≤ n) = false := decide_eq_false h1
    go_enter Tryz.func75, Tryz.ntmps75
    go_wp2
    go_ret
    refine ⟨ret_bool ?_, rfl⟩
    simp
theorem isInner_any (c : UInt8) (w : World) : Calls Tryz.prog 74 #[.int .u8 (c.toNat : Int)] w fun e w' => e = .returned (.bool (Words.behindB c)) ∧ w' = w := by
  have hE : Words.behindB c = (Words.letterB c || Words.digitB c || decide (c.toNat = 95)) := rfl
  rw [hE]
  clear hE
  have HL := hide (isSmall_any c w)
  have HD := hide (isDigit_any c w)
  generalize Words.letterB c = bl at *
  generalize Words.digitB c = bd at *
  generalize c.toNat = n at *
  cases bl
  · cases bd
    · go_enter Tryz.func74, Tryz.ntmps74
      go_wp2_with (first | (go_at_call 71; refine (unhide HL).mono ?_; rintro e w1 ⟨rfl, rfl⟩) | (go_at_call 75; refine (unhide HD).mono ?_; rintro e w1 ⟨rfl, rfl⟩))
      go_ret
      refine ⟨ret_bool ?_, rfl⟩
      simp only [Bool.false_or]
      by_cases h : n = 95
      · subst h; rfl
      · rw [decide_eq_false h]
        rw [beq_eq_false_iff_ne]
        omega
    · go_enter Tryz.func74, Tryz.ntmps74
      go_wp2_with (first | (go_at_call 71; refine (unhide HL).mono ?_; rintro e w1 ⟨rfl, rfl⟩) | (go_at_call 75; refine (unhide HD).mono ?_; rintro e w1 ⟨rfl, rfl⟩))
      go_ret
      exact ⟨rfl, rfl⟩
  · go_enter Tryz.func74, Tryz.ntmps74
    go_wp2_with (go_at_call 71; refine (unhide HL).mono ?_; rintro e w1 ⟨rfl, rfl⟩)
    go_ret
    exact ⟨rfl, rfl⟩


set_option maxHeartbeats 2000000 in
theorem isKeyD_any (l : List UInt8) (w : World) : Calls Tryz.prog 95 #[.string ⟨l.toArray⟩] w fun e w' => e = .returned (.bool (Words.isKey l)) ∧ w' = w := by
  by_cases h : l ∈ Words.keys
  · have hE : Words.isKey l = true := by unfold Words.isKey; rw [List.contains_iff_mem]; exact h
    rw [hE]
    clear hE
    simp only [Words.keys, List.mem_cons, List.not_mem_nil, or_false] at h
    rcases h with rfl | rfl | rfl | rfl | rfl | rfl | rfl | rfl
    all_goals (
      go_enter Tryz.func95, Tryz.ntmps95
      go_wp2
      go_ret
      exact ⟨rfl, rfl⟩)
  · have hE : Words.isKey l = false := by
      rw [← Bool.not_eq_true]
      intro h1
      unfold Words.isKey at h1
      rw [List.contains_iff_mem] at h1
      exact h h1
    rw [hE]
    clear hE
    simp only [Words.keys, List.mem_cons, List.not_mem_nil, or_false, not_or] at h
    obtain ⟨h1, h2, h3, h4, h5, h6, h7, h8⟩ := h
    have k1 := beq_eq_false_iff_ne.2 h1
    have k2 := beq_eq_false_iff_ne.2 h2
    have k3 := beq_eq_false_iff_ne.2 h3
    have k4 := beq_eq_false_iff_ne.2 h4
    have k5 := beq_eq_false_iff_ne.2 h5
    have k6 := beq_eq_false_iff_ne.2 h6
    have k7 := beq_eq_false_iff_ne.2 h7
    have k8 := beq_eq_false_iff_ne.2 h8
    go_enter Tryz.func95, Tryz.ntmps95
    go_wp2
    go_ret
    exact ⟨rfl, rfl⟩

theorem tw_len (p : UInt8 → Bool) : ∀ (l : List UInt8) (k : Nat), k ≤ l.length → (∀ j (h : j < l.length), j < k → p l[j] = true) → (∀ h : k < l.length, p l[k] = false) → (l.takeWhile p).length = k := by
  intro l
  induction l with
  | nil => intro k hk _ _; simp at hk; subst hk; rfl
  | cons c r ih =>
    intro k hk h1 h2
    cases k with
    | zero =>
      have := h2 (by simp)
      rw [List.takeWhile_cons, if_neg (by rw [show p c = false from this]; decide)]
      rfl
    | succ k =>
      have hc := h1 0 (by simp) (by omega)
      rw [List.takeWhile_cons, if_pos (show p c = true from hc), List.length_cons, ih k (by simpa using hk) (fun j h hj => h1 (j + 1) (by simpa using h) (by omega)) (fun h => h2 (by simpa using h))]

set_option maxHeartbeats 2000000 in
theorem spanInner_any (l : List UInt8) (w : World) (hl : l.length ≤ 1000000) : Calls Tryz.prog 73 #[.string ⟨l.toArray⟩, .func (.func 74) #[] #[]] w fun e w' => e = .returned (.int .i64 ((l.takeWhile Words.behindB).length : Int)) ∧ w' = w := by
  have HT := hide (tw_len Words.behindB l)
  go_enter Tryz.func73, Tryz.ntmps73
  go_wp2_with fail
  go_loopw [5] (fun q wr => ∃ i : Nat, i ≤ l.length ∧ q = .int .i64 i ∧ wr = w ∧ Hid (∀ j (h : j < l.length), j < i → Words.behindB l[j] = true)) (fun q _ => l.length - (intOf q).toNat)
  case atStart => exact ⟨0, Nat.zero_le _, rfl, rfl, hide (fun j h hj => by omega)⟩
  case round =>
    obtain ⟨i, hi, rfl, rfl, HP⟩ := hrel
    by_cases hlt : i < l.length
    · have q1 : decide (i < l.length) = true := decide_eq_true hlt
      have hs : i < (⟨l.toArray⟩ : ByteArray).size := hlt
      have hbv : (((⟨l.toArray⟩ : ByteArray)[i]'hs).toNat : Int) = (l[i].toNat : Int) := rfl
      have hlt2 : (i : Int) < l.length := by omega
      have HI := hide (fun W => isInner_any l[i] W)
      by_cases hb : Words.behindB l[i] = true
      · have HB := hide hb
        rw [hb] at HI
        generalize l[i].toNat = m at *
        go_wp2_with (go_at_call 74; refine (unhide HI _).mono ?_; rintro ev w1 ⟨rfl, hw⟩; have hw := hw.symm; subst hw)
        go_roundw
        case rel => exact ⟨i + 1, by omega, by go_num, trivial, hide (fun j h hj => by
            by_cases e : j = i
            · subst e; exact unhide HB
            · exact unhide HP j h (by omega))⟩
        case measure => simp [intOf]; omega
      · replace hb : Words.behindB l[i] = false := by simpa using hb
        have HA := hide (unhide HT i (by omega) (unhide HP) (fun _ => hb))
        rw [hb] at HI
        generalize l[i].toNat = m at *
        go_wp2_with (go_at_call 74; refine (unhide HI _).mono ?_; rintro ev w1 ⟨rfl, hw⟩; have hw := hw.symm; subst hw)
        go_ret
        exact ⟨by rw [unhide HA]; rfl, rfl⟩
    · have q1 : decide (i < l.length) = false := decide_eq_false hlt
      have HA := hide (unhide HT i (by omega) (unhide HP) (fun h => absurd h hlt))
      go_wp2
      go_ret
      exact ⟨by rw [unhide HA]; rfl, rfl⟩
set_option maxHeartbeats 2000000 in
theorem spanDigit_any (l : List UInt8) (w : World) (hl : l.length ≤ 1000000) : Calls Tryz.prog 73 #[.string ⟨l.toArray⟩, .func (.func 75) #[] #[]] w fun e w' => e = .returned (.int .i64 ((l.takeWhile Words.digitB).length : Int)) ∧ w' = w := by
  have HT := hide (tw_len Words.digitB l)
  go_enter Tryz.func73, Tryz.ntmps73
  go_wp2_with fail
  go_loopw [5] (fun q wr => ∃ i : Nat, i ≤ l.length ∧ q = .int .i64 i ∧ wr = w ∧ Hid (∀ j (h : j < l.length), j < i → Words.digitB l[j] = true)) (fun q _ => l.length - (intOf q).toNat)
  case atStart => exact ⟨0, Nat.zero_le _, rfl, rfl, hide (fun j h hj => by omega)⟩
  case round =>
    obtain ⟨i, hi, rfl, rfl, HP⟩ := hrel
    by_cases hlt : i < l.length
    · have q1 : decide (i < l.length) = true := decide_eq_true hlt
      have hs : i < (⟨l.toArray⟩ : ByteArray).size := hlt
      have hbv : (((⟨l.toArray⟩ : ByteArray)[i]'hs).toNat : Int) = (l[i].toNat : Int) := rfl
      have hlt2 : (i : Int) < l.length := by omega
      have HI := hide (fun W => isDigit_any l[i] W)
      by_cases hb : Words.digitB l[i] = true
      · have HB := hide hb
        rw [hb] at HI
        generalize l[i].toNat = m at *
        go_wp2_with (go_at_call 75; refine (unhide HI _).mono ?_; rintro ev w1 ⟨rfl, hw⟩; have hw := hw.symm; subst hw)
        go_roundw
        case rel => exact ⟨i + 1, by omega, by go_num, trivial, hide (fun j h hj => by
            by_cases e : j = i
            · subst e; exact unhide HB
            · exact unhide HP j h (by omega))⟩
        case measure => simp [intOf]; omega
      · replace hb : Words.digitB l[i] = false := by simpa using hb
        have HA := hide (unhide HT i (by omega) (unhide HP) (fun _ => hb))
        rw [hb] at HI
        generalize l[i].toNat = m at *
        go_wp2_with (go_at_call 75; refine (unhide HI _).mono ?_; rintro ev w1 ⟨rfl, hw⟩; have hw := hw.symm; subst hw)
        go_ret
        exact ⟨by rw [unhide HA]; rfl, rfl⟩
    · have q1 : decide (i < l.length) = false := decide_eq_false hlt
      have HA := hide (unhide HT i (by omega) (unhide HP) (fun h => absurd h hlt))
      go_wp2
      go_ret
      exact ⟨by rw [unhide HA]; rfl, rfl⟩
theorem signLen_at0 (l : List UInt8) (h : 0 < l.length) (two : Bool) (ht : two = true ↔ ∃ h2 : 1 < l.length, l[1].toNat = 61) : Words.signLen l = if l[0].toNat = 60 ∨ l[0].toNat = 62 ∨ l[0].toNat = 61 ∨ l[0].toNat = 47 then (if two = true then 2 else 1) else if l[0].toNat = 43 ∨ l[0].toNat = 45 ∨ l[0].toNat = 42 ∨ l[0].toNat = 40 ∨ l[0].toNat = 41 ∨ l[0].toNat = 44 then 1 else 0 := by
  have := signLen_at l 0 h two ht
  rwa [List.drop_zero] at this
set_option maxHeartbeats 4000000 in
theorem signLength_any (l : List UInt8) (h : 0 < l.length) (hl : l.length ≤ 1000000) (w : World) : Calls Tryz.prog 77 #[.string ⟨l.toArray⟩] w fun e w' => e = .returned (.int .i64 (Words.signLen l)) ∧ w' = w := by
  have hs : 0 < (⟨l.toArray⟩ : ByteArray).size := h
  have hbv : (((⟨l.toArray⟩ : ByteArray)[0]'hs).toNat : Int) = (l[0].toNat : Int) := rfl
  have hsz : ((⟨l.toArray⟩ : ByteArray).size : Int) = l.length := rfl
  have hi1 : (0 : Int) < l.length := by omega
  have core : ∀ two : Bool, (two = true ↔ ∃ h2 : 1 < l.length, l[1].toNat = 61) → Calls Tryz.prog 77 #[.string ⟨l.toArray⟩] w fun e w' => e = .returned (.int .i64 (if l[0].toNat = 60 ∨ l[0].toNat = 62 ∨ l[0].toNat = 61 ∨ l[0].toNat = 47 then (if two = true then 2 else 1) else if l[0].toNat = 43 ∨ l[0].toNat = 45 ∨ l[0].toNat = 42 ∨ l[0].toNat = 40 ∨ l[0].toNat = 41 ∨ l[0].toNat = 44 then 1 else 0 : Nat)) ∧ w' = w := by
    intro two ht
    have hcase : (∃ (h2 : 1 < l.length), l[1].toNat = 61 ∧ two = true) ∨ (∃ (h2 : 1 < l.length), l[1].toNat ≠ 61 ∧ two = false) ∨ (¬ 1 < l.length ∧ two = false) := by
      by_cases h2 : 1 < l.length
      · by_cases h3 : l[1].toNat = 61
        · exact .inl ⟨h2, h3, ht.2 ⟨h2, h3⟩⟩
        · refine .inr (.inl ⟨h2, h3, ?_⟩)
          cases two
          · rfl
          · obtain ⟨h4, h5⟩ := ht.1 rfl; exact absurd h5 h3
      · refine .inr (.inr ⟨h2, ?_⟩)
        cases two
        · rfl
        · obtain ⟨h4, h5⟩ := ht.1 rfl; exact absurd h4 h2
    clear ht
    generalize l[0].toNat = n at *
    have hn : n = 60 ∨ n = 62 ∨ n = 61 ∨ n = 47 ∨ n = 43 ∨ n = 45 ∨ n = 42 ∨ n = 40 ∨ n = 41 ∨ n = 44 ∨ (¬ (n = 60 ∨ n = 62 ∨ n = 61 ∨ n = 47) ∧ ¬ (n = 43 ∨ n = 45 ∨ n = 42 ∨ n = 40 ∨ n = 41 ∨ n = 44)) := by omega
    rcases hcase with ⟨h2, h3, rfl⟩ | ⟨h2, h3, rfl⟩ | ⟨h2, rfl⟩
    · have hs2 : 1 < (⟨l.toArray⟩ : ByteArray).size := h2
      have hb2 : (((⟨l.toArray⟩ : ByteArray)[1]'hs2).toNat : Int) = 61 := by
        show (l[1].toNat : Int) = 61
        rw [h3]; rfl
      have q1 : decide (1 < l.length) = true := decide_eq_true h2
      have q2 : (1 : Int) < l.length := by omega
      clear h3
      rcases hn with rfl | rfl | rfl | rfl | rfl | rfl | rfl | rfl | rfl | rfl | ⟨hn1, hn2⟩
      all_goals try (
        go_enter Tryz.func77, Tryz.ntmps77
        go_wp2
        go_ret
        exact ⟨rfl, rfl⟩)
      all_goals (
        rw [if_neg hn1, if_neg hn2]
        have k1 : ((n : Int) == 60) = false := by rw [beq_eq_false_iff_ne]; omega
        have k2 : ((n : Int) == 62) = false := by rw [beq_eq_false_iff_ne]; omega
        have k3 : ((n : Int) == 61) = false := by rw [beq_eq_false_iff_ne]; omega
        have k4 : ((n : Int) == 47) = false := by rw [beq_eq_false_iff_ne]; omega
        have k5 : ((n : Int) == 43) = false := by rw [beq_eq_false_iff_ne]; omega
        have k6 : ((n : Int) == 45) = false := by rw [beq_eq_false_iff_ne]; omega
        have k7 : ((n : Int) == 42) = false := by rw [beq_eq_false_iff_ne]; omega
        have k8 : ((n : Int) == 40) = false := by rw [beq_eq_false_iff_ne]; omega
        have k9 : ((n : Int) == 41) = false := by rw [beq_eq_false_iff_ne]; omega
        have k0 : ((n : Int) == 44) = false := by rw [beq_eq_false_iff_ne]; omega
        clear hn1 hn2
        go_enter Tryz.func77, Tryz.ntmps77
        go_wp2
        go_ret
        exact ⟨rfl, rfl⟩)
    · have hs2 : 1 < (⟨l.toArray⟩ : ByteArray).size := h2
      have hb2 : ((((⟨l.toArray⟩ : ByteArray)[1]'hs2).toNat : Int) == 61) = false := by
        show ((l[1].toNat : Int) == 61) = false
        rw [beq_eq_false_iff_ne]
        omega
      have q1 : decide (1 < l.length) = true := decide_eq_true h2
      have q2 : (1 : Int) < l.length := by omega
      clear h3
      rcases hn with rfl | rfl | rfl | rfl | rfl | rfl | rfl | rfl | rfl | rfl | ⟨hn1, hn2⟩
      all_goals try (
        go_enter Tryz.func77, Tryz.ntmps77
        go_wp2
        go_ret
        exact ⟨rfl, rfl⟩)
      all_goals (
        rw [if_neg hn1, if_neg hn2]
        have k1 : ((n : Int) == 60) = false := by rw [beq_eq_false_iff_ne]; omega
        have k2 : ((n : Int) == 62) = false := by rw [beq_eq_false_iff_ne]; omega
        have k3 : ((n : Int) == 61) = false := by rw [beq_eq_false_iff_ne]; omega
        have k4 : ((n : Int) == 47) = false := by rw [beq_eq_false_iff_ne]; omega
        have k5 : ((n : Int) == 43) = false := by rw [beq_eq_false_iff_ne]; omega
        have k6 : ((n : Int) == 45) = false := by rw [beq_eq_false_iff_ne]; omega
        have k7 : ((n : Int) == 42) = false := by rw [beq_eq_false_iff_ne]; omega
        have k8 : ((n : Int) == 40) = false := by rw [beq_eq_false_iff_ne]; omega
        have k9 : ((n : Int) == 41) = false := by rw [beq_eq_false_iff_ne]; omega
        have k0 : ((n : Int) == 44) = false := by rw [beq_eq_false_iff_ne]; omega
        clear hn1 hn2
        go_enter Tryz.func77, Tryz.ntmps77
        go_wp2
        go_ret
        exact ⟨rfl, rfl⟩)
    · have q1 : decide (1 < l.length) = false := decide_eq_false h2
      rcases hn with rfl | rfl | rfl | rfl | rfl | rfl | rfl | rfl | rfl | rfl | ⟨hn1, hn2⟩
      all_goals try (
        go_enter Tryz.func77, Tryz.ntmps77
        go_wp2
        go_ret
        exact ⟨rfl, rfl⟩)
      all_goals (
        rw [if_neg hn1, if_neg hn2]
        have k1 : ((n : Int) == 60) = false := by rw [beq_eq_false_iff_ne]; omega
        have k2 : ((n : Int) == 62) = false := by rw [beq_eq_false_iff_ne]; omega
        have k3 : ((n : Int) == 61) = false := by rw [beq_eq_false_iff_ne]; omega
        have k4 : ((n : Int) == 47) = false := by rw [beq_eq_false_iff_ne]; omega
        have k5 : ((n : Int) == 43) = false := by rw [beq_eq_false_iff_ne]; omega
        have k6 : ((n : Int) == 45) = false := by rw [beq_eq_false_iff_ne]; omega
        have k7 : ((n : Int) == 42) = false := by rw [beq_eq_false_iff_ne]; omega
        have k8 : ((n : Int) == 40) = false := by rw [beq_eq_false_iff_ne]; omega
        have k9 : ((n : Int) == 41) = false := by rw [beq_eq_false_iff_ne]; omega
        have k0 : ((n : Int) == 44) = false := by rw [beq_eq_false_iff_ne]; omega
        clear hn1 hn2
        go_enter Tryz.func77, Tryz.ntmps77
        go_wp2
        go_ret
        exact ⟨rfl, rfl⟩)
  by_cases hx : ∃ h2 : 1 < l.length, l[1].toNat = 61
  · rw [signLen_at0 l h true ⟨fun _ => hx, fun _ => rfl⟩]
    exact core true ⟨fun _ => hx, fun _ => rfl⟩
  · rw [signLen_at0 l h false ⟨fun h => (by cases h), fun h => absurd h hx⟩]
    exact core false ⟨fun h => (by cases h), fun h => absurd h hx⟩
end Go.Proofs.YtbpmfkikhackfaaGreatDoor.Line

namespace Go.Proofs.YtbpmfkikhackfaaGreatDoor.Plain
open Go

/-- the length of the first line, its end counted -/
def fl : List UInt8 → Nat
  | [] => 0
  | c :: r => if c = 10 then 1 else fl r + 1
/-- a text in lines, each with its end -/
def lines : List UInt8 → List (List UInt8)
  | [] => []
  | c :: r => if c = 10 then [c] :: lines r else match lines r with
    | [] => [[c]]
    | l :: ls => (c :: l) :: ls
/-- may the byte stand in a text? -/
def okB (c : UInt8) : Bool := (decide (32 ≤ c.toNat) && decide (c.toNat ≤ 126)) || (c.toNat == 9) || (c.toNat == 10)
/-- a line's error: 4: too long; 3: a byte that may not be; 0: none -/
def bad (l : List UInt8) : Nat := if 200 < l.length then 4 else if l.all okB then 0 else 3
def errOf : List (List UInt8) → Nat
  | [] => 0
  | l :: ls => if bad l = 0 then errOf ls else bad l
def atOf : List (List UInt8) → Nat
  | [] => 0
  | l :: ls => if bad l = 0 then atOf ls + 1 else 0
/-- a text's error, its place, its word, its lines -/
def errS (s : List UInt8) : Nat := if 65536 < s.length then 4 else errOf (lines s)
def atS (s : List UInt8) : Nat := if 65536 < s.length then 0 else if errOf (lines s) = 0 then 0 else atOf (lines s)
def wordS (s : List UInt8) : List UInt8 := if 65536 < s.length then [116, 101, 120, 116] else [108, 105, 110, 101]
def rowS (s : List UInt8) : List (List UInt8) := if errS s = 0 then lines s else []

theorem fl_le (l : List UInt8) : fl l ≤ l.length := by
  induction l with
  | nil => simp [fl]
  | cons c r ih => unfold fl; split <;> simp <;> omega
theorem fl_pos (l : List UInt8) (h : l ≠ []) : 0 < fl l := by
  cases l with
  | nil => exact absurd rfl h
  | cons c r => unfold fl; split <;> omega
theorem fl_idx (l : List UInt8) : (0 ≤ Lib.indexByte l 10 → (fl l : Int) = Lib.indexByte l 10 + 1) ∧ (¬ 0 ≤ Lib.indexByte l 10 → fl l = l.length) := by
  induction l with
  | nil => simp [fl, Lib.indexByte]
  | cons c r ih =>
    have hg := Lib.indexByte_ge r 10
    unfold fl Lib.indexByte
    by_cases hc : c = 10
    · simp [hc]
    · have hc' : (c == 10) = false := by simpa using hc
      simp only [hc', if_neg hc, Bool.false_eq_true, if_false]
      by_cases h : Lib.indexByte r 10 = -1
      · simp [h]; have := ih.2 (by omega); omega
      · have h' : (Lib.indexByte r 10 == -1) = false := by simpa using h
        simp only [h', Bool.false_eq_true, if_false, List.length_cons]
        have := ih.1 (by omega)
        constructor <;> intro _ <;> omega
theorem fl_at (l : List UInt8) (k : Nat) (hk : k < l.length) (h : l[k] = 10) (hno : ∀ j (hj : j < k), l[j]'(by omega) ≠ 10) : fl l = k + 1 := by
  induction l generalizing k with
  | nil => simp at hk
  | cons c r ih =>
    unfold fl
    cases k with
    | zero => simp at h; simp [h]
    | succ k =>
      have h0 : c ≠ 10 := hno 0 (by omega)
      rw [if_neg h0, ih k (by simpa using hk) (by simpa using h) (fun j hj => by simpa using hno (j + 1) (by omega))]
theorem fl_all (l : List UInt8) (hno : ∀ j (hj : j < l.length), l[j] ≠ 10) : fl l = l.length := by
  induction l with
  | nil => rfl
  | cons c r ih =>
    unfold fl
    have h0 : c ≠ 10 := hno 0 (by simp)
    rw [if_neg h0, ih (fun j hj => hno (j + 1) (by simpa using hj))]
    rfl
theorem lines_step (l : List UInt8) (h : l ≠ []) : lines l = l.take (fl l) :: lines (l.drop (fl l)) := by
  induction l with
  | nil => exact absurd rfl h
  | cons c r ih =>
    by_cases hc : c = 10
    · simp [lines, fl, hc]
    · have e1 : fl (c :: r) = fl r + 1 := by simp [fl, hc]
      rw [e1, List.take_succ_cons, List.drop_succ_cons]
      conv => lhs; unfold lines
      rw [if_neg hc]
      by_cases hr : r = []
      · subst hr; simp [lines, fl]
      · rw [ih hr]
theorem lines_nil : lines [] = [] := rfl
theorem lines_ne (l : List UInt8) (h : l ≠ []) : lines l ≠ [] := by rw [lines_step l h]; simp
theorem flatten_lines (l : List UInt8) : (lines l).flatten = l := by
  induction l with
  | nil => rfl
  | cons c r ih =>
    unfold lines
    by_cases hc : c = 10
    · simp [hc, ih]
    · rw [if_neg hc]
      cases hl : lines r with
      | nil => rw [hl] at ih; simp at ih; simp [← ih]
      | cons a b => rw [hl] at ih; simp at ih; simp [ih]
theorem lines_append (a b : List UInt8) (h : a = [] ∨ a.getLast? = some 10) : lines (a ++ b) = lines a ++ lines b := by
  induction a with
  | nil => rfl
  | cons c r ih =>
    rw [List.cons_append]
    conv => lhs; unfold lines
    conv => rhs; lhs; unfold lines
    by_cases hc : c = 10
    · rw [if_pos hc, if_pos hc]
      have : r = [] ∨ r.getLast? = some 10 := by
        rcases h with h | h
        · cases h
        · by_cases hr : r = []
          · exact .inl hr
          · right; rwa [List.getLast?_cons_of_ne_nil hr] at h
      rw [ih this]; rfl
    · rw [if_neg hc, if_neg hc]
      have hr : r ≠ [] := by
        intro hr; subst hr
        rcases h with h | h
        · cases h
        · simp at h; exact hc h
      have h2 : r.getLast? = some 10 := by
        rcases h with h | h
        · cases h
        · rwa [List.getLast?_cons_of_ne_nil hr] at h
      rw [ih (.inr h2)]
      have := lines_ne r hr
      cases hl : lines r with
      | nil => exact absurd hl this
      | cons x y => simp
theorem lines_length_le (l : List UInt8) : (lines l).length ≤ l.length := by
  induction l with
  | nil => simp [lines]
  | cons c r ih =>
    unfold lines
    split
    · simp; omega
    · split <;> simp_all <;> omega
theorem lines_mem_le (l : List UInt8) : ∀ x ∈ lines l, x.length ≤ l.length := by
  intro x hx
  have h := flatten_lines l
  have : x.length ≤ (lines l).flatten.length := by
    exact (List.sublist_flatten_of_mem hx).length_le
  rwa [h] at this

theorem bad_range (l : List UInt8) : bad l = 0 ∨ bad l = 3 ∨ bad l = 4 := by
  unfold bad
  split
  · exact .inr (.inr rfl)
  · split
    · exact .inl rfl
    · exact .inr (.inl rfl)
theorem bad_long (l : List UInt8) (h : 200 < l.length) : bad l = 4 := by simp [bad, h]
theorem bad_word (l : List UInt8) (h : ¬ 200 < l.length) (k : Nat) (hk : k < l.length) (hb : okB l[k] = false) : bad l = 3 := by
  unfold bad
  rw [if_neg h, if_neg]
  intro hall
  have := List.all_eq_true.1 hall _ (List.getElem_mem hk)
  rw [hb] at this; cases this
theorem bad_none (l : List UInt8) (h : ¬ 200 < l.length) (hb : ∀ k (hk : k < l.length), okB l[k] = true) : bad l = 0 := by
  unfold bad
  rw [if_neg h, if_pos]
  rw [List.all_eq_true]
  intro x hx
  obtain ⟨k, hk, rfl⟩ := List.getElem_of_mem hx
  exact hb k hk

theorem errOf_append (ds ls : List (List UInt8)) (h : ∀ d ∈ ds, bad d = 0) : errOf (ds ++ ls) = errOf ls := by
  induction ds with
  | nil => rfl
  | cons d ds ih => simp [errOf, h d (by simp), ih (fun x hx => h x (by simp [hx]))]
theorem atOf_append (ds ls : List (List UInt8)) (h : ∀ d ∈ ds, bad d = 0) : atOf (ds ++ ls) = ds.length + atOf ls := by
  induction ds with
  | nil => simp
  | cons d ds ih => simp [atOf, h d (by simp), ih (fun x hx => h x (by simp [hx]))]; omega
theorem errOf_hit (d : List UInt8) (ls : List (List UInt8)) (h : bad d ≠ 0) : errOf (d :: ls) = bad d ∧ atOf (d :: ls) = 0 := by simp [errOf, atOf, h]
theorem errOf_zero (ds : List (List UInt8)) : errOf ds = 0 ↔ ∀ d ∈ ds, bad d = 0 := by
  induction ds with
  | nil => simp [errOf]
  | cons d ds ih =>
    by_cases hd : bad d = 0
    · simp [errOf, hd, ih]
    · simp [errOf, hd]
theorem errOf_range (ls : List (List UInt8)) : errOf ls = 0 ∨ errOf ls = 3 ∨ errOf ls = 4 := by
  induction ls with
  | nil => simp [errOf]
  | cons d ds ih => unfold errOf; split; exact ih; exact bad_range d
theorem err_at (ls : List (List UInt8)) (i : Nat) (hi : i < ls.length) (hno : ∀ j (hj : j < i), bad (ls[j]'(by omega)) = 0) (hb : bad ls[i] ≠ 0) : errOf ls = bad ls[i] ∧ atOf ls = i := by
  have e : ls = ls.take i ++ (ls[i] :: ls.drop (i + 1)) := by rw [List.getElem_cons_drop]; simp
  have h : ∀ d ∈ ls.take i, bad d = 0 := by
    intro d hd
    obtain ⟨j, hj, rfl⟩ := List.getElem_of_mem hd
    rw [List.getElem_take]
    exact hno j (by simp at hj; omega)
  have h2 := errOf_hit ls[i] (ls.drop (i + 1)) hb
  have h3 : errOf ls = errOf (ls.take i ++ (ls[i] :: ls.drop (i + 1))) := congrArg errOf e
  have h4 : atOf ls = atOf (ls.take i ++ (ls[i] :: ls.drop (i + 1))) := congrArg atOf e
  rw [h3, h4, errOf_append _ _ h, atOf_append _ _ h, h2.1, h2.2]
  simp
  omega
theorem errS_range (s : List UInt8) : errS s = 0 ∨ errS s = 3 ∨ errS s = 4 := by unfold errS; split; simp; exact errOf_range _
theorem errS_long (s : List UInt8) (h : 65536 < s.length) : errS s = 4 ∧ atS s = 0 ∧ wordS s = [116, 101, 120, 116] ∧ rowS s = [] := by simp [errS, atS, wordS, rowS, h]
theorem errS_ok (s : List UInt8) (h : ¬ 65536 < s.length) (h2 : ∀ d ∈ lines s, bad d = 0) : errS s = 0 ∧ rowS s = lines s := by
  have := (errOf_zero (lines s)).2 h2
  simp [errS, rowS, h, this]
theorem errS_bad (s : List UInt8) (h : ¬ 65536 < s.length) (k e : Nat) (h1 : errOf (lines s) = e) (h2 : atOf (lines s) = k) (h0 : e ≠ 0) : errS s = e ∧ atS s = k ∧ wordS s = [108, 105, 110, 101] ∧ rowS s = [] := by
  simp [errS, atS, wordS, rowS, h, h1, h2, h0]
theorem rowS_le (s : List UInt8) : (rowS s).length ≤ s.length := by
  unfold rowS; split; exact lines_length_le s; simp

/-! ### parts -/
def core (s : List UInt8) : List UInt8 := if s.getLast? = some 10 then s.dropLast else s
def endOf (s : List UInt8) : List UInt8 := if s.getLast? = some 10 then [10] else []
def bodyOf (s : List UInt8) : List UInt8 := (core s).takeWhile (fun c => decide (c ≠ 33))
def noteOf (s : List UInt8) : List UInt8 := (core s).dropWhile (fun c => decide (c ≠ 33))
def blankB (c : UInt8) : Bool := c == 32 || c == 9
def indentOf (s : List UInt8) : List UInt8 := s.takeWhile blankB

theorem core_end (s : List UInt8) : core s ++ endOf s = s := by
  unfold core endOf
  by_cases h : s.getLast? = some 10
  · rw [if_pos h, if_pos h]
    obtain ⟨r, rfl⟩ := List.getLast?_eq_some_iff.1 h
    simp
  · simp [h]
theorem parts_join (s : List UInt8) : bodyOf s ++ noteOf s ++ endOf s = s := by
  unfold bodyOf noteOf; rw [List.takeWhile_append_dropWhile]; exact core_end s
theorem while_mem (p : UInt8 → Bool) (l : List UInt8) : ∀ x ∈ l.takeWhile p, p x = true := by
  induction l with
  | nil => simp
  | cons c r ih =>
    intro x hx
    rw [List.takeWhile_cons] at hx
    by_cases hc : p c = true
    · rw [if_pos hc] at hx
      rcases List.mem_cons.1 hx with rfl | h
      · exact hc
      · exact ih x h
    · rw [if_neg hc] at hx; cases hx
theorem body_no (s : List UInt8) : ∀ (j : Nat) (h : j < (bodyOf s).length), (bodyOf s)[j] ≠ 33 := by
  intro j h
  have := while_mem _ _ _ (List.getElem_mem h)
  simpa using this
/-- where a byte stands: what stands ahead of it -/
theorem idx_while (l : List UInt8) (c : UInt8) : (0 ≤ Lib.indexByte l c → ((l.takeWhile (fun x => decide (x ≠ c))).length : Int) = Lib.indexByte l c ∧ (Lib.indexByte l c : Int) < l.length) ∧ (¬ 0 ≤ Lib.indexByte l c → l.takeWhile (fun x => decide (x ≠ c)) = l ∧ l.dropWhile (fun x => decide (x ≠ c)) = []) := by
  induction l with
  | nil => simp [Lib.indexByte]
  | cons b r ih =>
    have hg := Lib.indexByte_ge r c
    unfold Lib.indexByte
    by_cases hc : b = c
    · simp [hc]
    · have hc' : (b == c) = false := by simpa using hc
      have hd : decide (b ≠ c) = true := by simpa using hc
      simp only [hc', Bool.false_eq_true, if_false, List.takeWhile_cons, hd, List.dropWhile_cons]
      by_cases h : Lib.indexByte r c = -1
      · have := ih.2 (by omega)
        simp only [h, this.1, this.2]
        simp
      · have h' : (Lib.indexByte r c == -1) = false := by simpa using h
        simp only [h', Bool.false_eq_true, if_false, if_true, List.length_cons]
        have := ih.1 (by omega)
        constructor
        · intro _; constructor <;> omega
        · intro _; omega
theorem take_while (l : List UInt8) (p : UInt8 → Bool) : l.take (l.takeWhile p).length = l.takeWhile p ∧ l.drop (l.takeWhile p).length = l.dropWhile p := by
  have h := List.takeWhile_append_dropWhile (p := p) (l := l)
  constructor
  · have := List.take_left (l₁ := l.takeWhile p) (l₂ := l.dropWhile p); rwa [h] at this
  · have := List.drop_left (l₁ := l.takeWhile p) (l₂ := l.dropWhile p); rwa [h] at this
theorem while_at (l : List UInt8) (p : UInt8 → Bool) (i : Nat) (hi : i ≤ l.length) (h1 : ∀ j (hj : j < i), p (l[j]'(by omega)) = true) (h2 : ∀ (h : i < l.length), p l[i] = false) : (l.takeWhile p).length = i := by
  induction l generalizing i with
  | nil => simp at hi; simp [hi]
  | cons c r ih =>
    cases i with
    | zero => have := h2 (by simp); simp at this; simp [this]
    | succ i =>
      have h0 : p c = true := h1 0 (by omega)
      simp only [List.takeWhile_cons, h0, if_true, List.length_cons]
      rw [ih i (by simpa using hi) (fun j hj => h1 (j + 1) (by omega)) (fun h => h2 (by simpa using h))]
end Go.Proofs.YtbpmfkikhackfaaGreatDoor.Plain

namespace Go.Proofs.YtbpmfkikhackfaaGreatDoor
open Go.Shelf
def lays166_ren : Go.Shelf.Ren := ⟨fun | 166 => 45 | 240 => 66 | 276 => 88 | n => n, fun | 0 => 0 | 3 => 3 | 4 => 4 | 9 => 9 | 20 => 20 | 37 => 60 | 70 => 103 | 72 => 105 | 75 => 35 | 164 => 135 | 76 => 110 | 80 => 114 | 5 => 5 | n => n, fun | n => n⟩
theorem lays166 : Go.Proofs.Lays.n166 Tryz.prog lays166_ren := {
  mixed := by kernel_rfl
  f166 := Tryz.func45.trans (congrArg some (by kernel_rfl))
  f240 := Tryz.func66.trans (congrArg some (by kernel_rfl))
  f276 := Tryz.func88.trans (congrArg some (by kernel_rfl))
  t0 := Tryz.underlying0
  a0 := Tryz.isAgg0
  z0 := Tryz.sizeOf0
  v0 := Tryz.zeroValue0
  t3 := Tryz.underlying3
  a3 := Tryz.isAgg3
  z3 := Tryz.sizeOf3
  v3 := Tryz.zeroValue3
  t4 := Tryz.underlying4
  a4 := Tryz.isAgg4
  z4 := Tryz.sizeOf4
  v4 := Tryz.zeroValue4
  t9 := Tryz.underlying9
  a9 := Tryz.isAgg9
  z9 := Tryz.sizeOf9
  v9 := Tryz.zeroValue9
  t20 := Tryz.underlying20
  a20 := Tryz.isAgg20
  z20 := Tryz.sizeOf20
  v20 := Tryz.zeroValue20
  t37 := Tryz.underlying60
  a37 := Tryz.isAgg60
  z37 := Tryz.sizeOf60
  v37 := Tryz.zeroValue60
  t70 := Tryz.underlying103
  a70 := Tryz.isAgg103
  z70 := Tryz.sizeOf103
  v70 := Tryz.zeroValue103
  t72 := Tryz.underlying105
  a72 := Tryz.isAgg105
  z72 := Tryz.sizeOf105
  v72 := Tryz.zeroValue105
  t75 := Tryz.underlying35
  a75 := Tryz.isAgg35
  z75 := Tryz.sizeOf35
  v75 := Tryz.zeroValue35
  t164 := Tryz.underlying135
  a164 := Tryz.isAgg135
  z164 := Tryz.sizeOf135
  v164 := Tryz.zeroValue135 }
theorem Builder_Extra_166 : Builder.Extra Tryz.prog lays166_ren := {
  sizeBuilder := by kernel_rfl
  liesBuilder := by kernel_rfl
  t5 := Tryz.underlying5
  a5 := Tryz.isAgg5
  z5 := Tryz.sizeOf5
  v5 := Tryz.zeroValue5
  infoByte := by kernel_rfl
  cellsByte := by kernel_rfl
  sizeByte := by kernel_rfl
  neB5 := by decide }
open Go.RowKit in
theorem Builder_WriteString (B b : Nat) (bs : List Value) (s : ByteArray) (w : World) (h : Lib.IsBuilderF 105 5 B b bs w) (hlen : bs.length + s.size ≤ 140737488355328) (hBw : B ≤ w.heap.size) :
    Calls Tryz.prog 45 #[.pointer (some ⟨b, 0, none⟩), .string s] w fun e w' => e = .returned (.tuple #[.int .i64 s.size, .nilIface]) ∧ (Lib.BuilderAtF 105 5 B b (.pointer (some ⟨b, 0, none⟩)) (bs ++ Lib.strCells s) w' ∧ Below B w w' ∧ Lib.OthersKept 5 (some b) w w') := Any.Builder_WriteString_k lays166 Builder_Extra_166 B b bs s w h hlen hBw
def lays169_ren : Go.Shelf.Ren := ⟨fun | 169 => 48 | n => n, fun | 70 => 103 | 9 => 9 | 0 => 0 | 72 => 105 | 37 => 60 | 127 => 148 | 3 => 3 | 5 => 5 | n => n, fun | n => n⟩
theorem lays169 : Go.Proofs.Lays.n169 Tryz.prog lays169_ren := {
  mixed := by kernel_rfl
  f169 := Tryz.func48.trans (congrArg some (by kernel_rfl))
  t0 := Tryz.underlying0
  a0 := Tryz.isAgg0
  z0 := Tryz.sizeOf0
  v0 := Tryz.zeroValue0
  t3 := Tryz.underlying3
  a3 := Tryz.isAgg3
  z3 := Tryz.sizeOf3
  v3 := Tryz.zeroValue3
  t9 := Tryz.underlying9
  a9 := Tryz.isAgg9
  z9 := Tryz.sizeOf9
  v9 := Tryz.zeroValue9
  t37 := Tryz.underlying60
  a37 := Tryz.isAgg60
  z37 := Tryz.sizeOf60
  v37 := Tryz.zeroValue60
  t70 := Tryz.underlying103
  a70 := Tryz.isAgg103
  z70 := Tryz.sizeOf103
  v70 := Tryz.zeroValue103
  t72 := Tryz.underlying105
  a72 := Tryz.isAgg105
  z72 := Tryz.sizeOf105
  v72 := Tryz.zeroValue105
  t127 := Tryz.underlying148
  a127 := Tryz.isAgg148
  z127 := Tryz.sizeOf148
  v127 := Tryz.zeroValue148 }
theorem Builder_Extra_169 : Builder.Extra Tryz.prog lays169_ren := {
  sizeBuilder := by kernel_rfl
  liesBuilder := by kernel_rfl
  t5 := Tryz.underlying5
  a5 := Tryz.isAgg5
  z5 := Tryz.sizeOf5
  v5 := Tryz.zeroValue5
  infoByte := by kernel_rfl
  cellsByte := by kernel_rfl
  sizeByte := by kernel_rfl
  neB5 := by decide }
open Go.RowKit in
theorem Builder_String_any (B b : Nat) (l : List UInt8) (w : World) (h : Lib.IsBuilderF 105 5 B b (Lib.byteCells l) w) (hBw : B ≤ w.heap.size) :
    Calls Tryz.prog 48 #[.pointer (some ⟨b, 0, none⟩)] w fun e w' => e = .returned (.string ⟨l.toArray⟩) ∧ (Lib.IsBuilderF 105 5 B b (Lib.byteCells l) w' ∧ Below B w w' ∧ Lib.OthersKept 5 (some b) w w') := Any.Builder_String_any_k lays169 Builder_Extra_169 B b l w h hBw
def lays161_ren : Go.Shelf.Ren := ⟨fun | 161 => 70 | 231 => 91 | 227 => 92 | 233 => 93 | 235 => 94 | 228 => 100 | 197 => 101 | 151 => 102 | 260 => 107 | 152 => 108 | 137 => 113 | 119 => 114 | 224 => 115 | 225 => 116 | 217 => 122 | 266 => 125 | n => n, fun | 9 => 9 | 4 => 4 | 3 => 3 | 5 => 5 | 117 => 182 | 116 => 181 | 0 => 0 | 124 => 185 | 105 => 189 | 21 => 21 | 119 => 203 | 46 => 71 | 139 => 206 | 138 => 205 | n => n, fun | 3 => 1 | 4 => 2 | n => n⟩
theorem lays161 : Go.Proofs.Lays.n161 Tryz.prog lays161_ren := {
  mixed := by kernel_rfl
  f119 := Tryz.func114.trans (congrArg some (by kernel_rfl))
  f137 := Tryz.func113.trans (congrArg some (by kernel_rfl))
  f151 := Tryz.func102.trans (congrArg some (by kernel_rfl))
  f152 := Tryz.func108.trans (congrArg some (by kernel_rfl))
  f161 := Tryz.func70.trans (congrArg some (by kernel_rfl))
  f197 := Tryz.func101.trans (congrArg some (by kernel_rfl))
  f217 := Tryz.func122.trans (congrArg some (by kernel_rfl))
  f224 := Tryz.func115.trans (congrArg some (by kernel_rfl))
  f225 := Tryz.func116.trans (congrArg some (by kernel_rfl))
  f227 := Tryz.func92.trans (congrArg some (by kernel_rfl))
  f228 := Tryz.func100.trans (congrArg some (by kernel_rfl))
  f231 := Tryz.func91.trans (congrArg some (by kernel_rfl))
  f233 := Tryz.func93.trans (congrArg some (by kernel_rfl))
  f235 := Tryz.func94.trans (congrArg some (by kernel_rfl))
  f260 := Tryz.func107.trans (congrArg some (by kernel_rfl))
  f266 := Tryz.func125.trans (congrArg some (by kernel_rfl))
  t0 := Tryz.underlying0
  a0 := Tryz.isAgg0
  z0 := Tryz.sizeOf0
  v0 := Tryz.zeroValue0
  t3 := Tryz.underlying3
  a3 := Tryz.isAgg3
  z3 := Tryz.sizeOf3
  v3 := Tryz.zeroValue3
  t4 := Tryz.underlying4
  a4 := Tryz.isAgg4
  z4 := Tryz.sizeOf4
  v4 := Tryz.zeroValue4
  t5 := Tryz.underlying5
  a5 := Tryz.isAgg5
  z5 := Tryz.sizeOf5
  v5 := Tryz.zeroValue5
  t9 := Tryz.underlying9
  a9 := Tryz.isAgg9
  z9 := Tryz.sizeOf9
  v9 := Tryz.zeroValue9
  t21 := Tryz.underlying21
  a21 := Tryz.isAgg21
  z21 := Tryz.sizeOf21
  v21 := Tryz.zeroValue21
  t46 := Tryz.underlying71
  a46 := Tryz.isAgg71
  z46 := Tryz.sizeOf71
  v46 := Tryz.zeroValue71
  t105 := Tryz.underlying189
  a105 := Tryz.isAgg189
  z105 := Tryz.sizeOf189
  v105 := Tryz.zeroValue189
  t116 := Tryz.underlying181
  a116 := Tryz.isAgg181
  z116 := Tryz.sizeOf181
  t117 := Tryz.underlying182
  a117 := Tryz.isAgg182
  z117 := Tryz.sizeOf182
  v117 := Tryz.zeroValue182
  t119 := Tryz.underlying203
  a119 := Tryz.isAgg203
  z119 := Tryz.sizeOf203
  t124 := Tryz.underlying185
  a124 := Tryz.isAgg185
  z124 := Tryz.sizeOf185
  v124 := Tryz.zeroValue185
  t138 := Tryz.underlying205
  a138 := Tryz.isAgg205
  z138 := Tryz.sizeOf205
  v138 := Tryz.zeroValue205
  t139 := Tryz.underlying206
  a139 := Tryz.isAgg206
  z139 := Tryz.sizeOf206
  v139 := Tryz.zeroValue206
  g3 := by kernel_rfl
  g4 := by kernel_rfl }
end Go.Proofs.YtbpmfkikhackfaaGreatDoor

namespace Go.Proofs.YtbpmfkikhackfaaGreatDoor.Line
open Go.ChangeShapes Go.WideShapes Go.ChangeAt Go.RowKit Plain
set_option linter.unusedVariables false

theorem trimLeft_any (l : List UInt8) (w : World) : Calls Tryz.prog 70 #[.string ⟨l.toArray⟩, .string ⟨#[32, 9]⟩] w fun e w' => e = .returned (.string ⟨(l.drop (indentOf l).length).toArray⟩) ∧ Below w.heap.size w w' := by
  have h := Any.strings_TrimLeft_laid lays161 (by kernel_rfl) (⟨l.toArray⟩ : ByteArray) ⟨#[32, 9]⟩ w (by decide) (fun j b hb => by
    match j, hb with
    | 0, hb => simp at hb; subst hb; decide
    | 1, hb => simp at hb; subst hb; decide
    | n + 2, hb => simp at hb)
  change Calls Tryz.prog 70 _ _ _ at h
  have e : Lib.trimLeftS (⟨l.toArray⟩ : ByteArray).data.toList (⟨#[32, 9]⟩ : ByteArray).data.toList = l.drop (indentOf l).length := by
    unfold Lib.trimLeftS indentOf
    rw [(take_while l blankB).2]
    show l.dropWhile _ = l.dropWhile _
    have hf : (fun c : UInt8 => List.contains [32, 9] c) = blankB := by
      funext c
      simp only [blankB, List.contains_cons, List.contains_nil, Bool.or_false]
    exact congrArg (fun p => l.dropWhile p) hf
  rw [e] at h
  exact h

set_option maxHeartbeats 1000000 in
theorem indent_any (l : List UInt8) (w : World) (hl : l.length ≤ 1000000) : Calls Tryz.prog 53 #[.string ⟨l.toArray⟩] w fun e w' => e = .returned (.string ⟨(indentOf l).toArray⟩) ∧ Below w.heap.size w w' := by
  have hle : (indentOf l).length ≤ l.length := by
    have := List.takeWhile_sublist (l := l) blankB
    exact this.length_le
  have HT : Hid (l.take (indentOf l).length = indentOf l) := (take_while l blankB).1
  generalize hn : (indentOf l).length = n at *
  have hcon := trimLeft_any l w
  rw [hn] at hcon
  have HC := hide hcon
  clear hcon hn
  have hd : (l.drop n).length = l.length - n := by simp
  go_enter Tryz.func53, Tryz.ntmps53
  go_wp2_with (go_at_call 70; refine (unhide HC).mono ?_; rintro e w' ⟨rfl, hB⟩)
  go_ret
  refine ⟨ret_val (congrArg Value.string ((ext_front _ _).trans (mk_eq ?_))), hB⟩
  rw [show l.length - (l.length - n) = n by omega]
  exact HT.out


theorem indent_len (l : List UInt8) : (indentOf l).length = (l.takeWhile Words.blankB).length := by
  have hf : Plain.blankB = Words.blankB := by
    funext c
    simp only [Plain.blankB, Words.blankB]
    have key : ∀ k : UInt8, (c == k) = decide (c.toNat = k.toNat) := fun k => by
      by_cases h : c = k
      · subst h; simp
      · rw [beq_eq_false_iff_ne.2 h, decide_eq_false (fun h2 => h (UInt8.toNat.inj h2))]
    rw [key 32, key 9]
    rfl
  unfold indentOf
  rw [hf]
end Go.Proofs.YtbpmfkikhackfaaGreatDoor.Line

namespace Go.Proofs.YtbpmfkikhackfaaGreatDoor.Line
open Go.ChangeShapes Go.WideShapes Go.ChangeAt Go.RowKit
set_option linter.unusedVariables false

/-- what is asked of the project's Line: the words are the reference's; what is wrong is told at the reference's place, as the same error or as a near one -/
def LineSpec : Prop := ∀ (l : List UInt8) (w : World), l.length ≤ 100000 → Calls Tryz.prog 26 #[.string ⟨l.toArray⟩] w fun e w' =>
    ∃ u g err, e = .returned (.tuple #[u, g]) ∧ OwnT 84 w.heap.size w' u (Words.toks l).1 ∧ Says w.heap.size w' g wWord (Words.toks l).2.2 err ∧ Words.Near (Words.toks l).2.1 err ∧ Below w.heap.size w w'
def TellsSpec : Prop := ∀ (w : World) (f g : Value) (k err B B' : Nat), Glob w → Says B w f wWord k err → Told B' w g wWord k err → Calls Tryz.prog 14 #[f, g] w fun e w' => e = .returned (.bool true) ∧ Below w.heap.size w w'
theorem told_agg {B : Nat} {w : World} {g : Value} {word : List UInt8} {k err : Nat} (h : Told B w g word k err) : ∃ a n, g = .agg #[.slice a n n, .int .i64 err] := by
  rcases h with ⟨rfl, rfl⟩ | ⟨_, b, _, rfl, _⟩
  · exact ⟨none, 0, rfl⟩
  · exact ⟨_, 1, rfl⟩
theorem toks_good (l : List UInt8) : Words.Good l 0 (Words.toks l).1 := by
  by_cases h : (Words.toks l).2.1 = 0
  · exact Words.scanAt_good l 0 h
  · rw [show (Words.toks l).1 = [] from (Words.scanAt_form l 0).2 h]; trivial
theorem toks_count (l : List UInt8) : (Words.toks l).1.length ≤ l.length := by
  have key : ∀ (T : List Words.T) a, Words.Good l a T → (∀ t ∈ T, 0 < t.text.length) → a + T.length ≤ l.length ∨ T = [] := by
    intro T
    induction T with
    | nil => intro a _ _; exact .inr rfl
    | cons t T ih =>
      intro a h hp
      obtain ⟨h1, h2, _, _, h5⟩ := h
      have h6 := hp t (List.mem_cons_self ..)
      rcases ih _ h5 (fun x hx => hp x (List.mem_cons_of_mem _ hx)) with h7 | h7
      · left; rw [List.length_cons]; omega
      · left; subst h7; simp; omega
  have hpos : ∀ i, ∀ t ∈ (Words.scanAt l i).1, 0 < t.text.length := by
    refine Words.scanAt_ind l _ (fun i h => ?_) (fun i h hs ih => ?_) (fun i e o h hs => ?_) (fun i kd n k h hs ih => ?_)
    · rw [Words.scanAt_end l i h]; intro t ht; cases ht
    · rw [Words.scanAt_blank h hs]; exact ih
    · rw [Words.scanAt_bad h hs]; intro t ht; cases ht
    · rw [Words.scanAt_tok h hs]
      unfold Words.also
      split
      · intro t ht
        rcases List.mem_cons.1 ht with rfl | h2
        · have hk := Words.step_len hs
          show 0 < ((l.drop i).take k).length
          rw [List.length_take]; omega
        · exact ih t h2
      · intro t ht; cases ht
  rcases key _ 0 (toks_good l) (hpos 0) with h | h
  · omega
  · rw [h]; simp
end Go.Proofs.YtbpmfkikhackfaaGreatDoor.Line

namespace Go.Proofs.YtbpmfkikhackfaaGreatDoor.Line
open Go.ChangeShapes Go.WideShapes Go.ChangeAt Go.RowKit
set_option linter.unusedVariables false

/-- a word whose place is not told yet, as a value -/
def tokA (t : Words.T) : Value := .agg #[.int .i64 t.kind, .string ⟨t.text.toArray⟩, .int .i64 0, .int .i64 t.n]
/-- an Errno, or none, as a value -/
def errV (e : Nat) : Value := if e = 0 then .nilIface else .iface 92 (.int .i64 e)
def lettersW (s : List UInt8) : Words.T × Nat := if Words.isKey s then (⟨4, s, 0, 0⟩, 0) else if 31 < s.length then (⟨0, [], 0, 0⟩, 4) else (⟨1, s, 0, 0⟩, 0)

abbrev zeroTok : Array Value := #[.int .i64 0, .string ⟨#[]⟩, .int .i64 0, .int .i64 0]
set_option maxHeartbeats 2000000 in
theorem letters_any (l : List UInt8) (w : World) (hl : l.length ≤ 1000000) : Calls Tryz.prog 72 #[.string ⟨l.toArray⟩] w fun e w' => e = .returned (.tuple #[tokA (lettersW l).1, errV (lettersW l).2]) ∧ Below w.heap.size w w' := by
  have HK := hide (isKeyD_any l)
  unfold lettersW
  by_cases hk : Words.isKey l = true
  · rw [if_pos hk]
    rw [hk] at HK
    clear hk
    go_enter Tryz.func72, Tryz.ntmps72
    go_wp2_with (go_at_call 95; refine (unhide HK _).mono ?_; rintro ev w1 ⟨rfl, hw⟩; have hw := hw.symm; subst hw)
    exact bodyPost_ret (v := .tuple #[tokA ⟨4, l, 0, 0⟩, errV 0]) (by simp [results, Tryz.results72, go_sem, tokA, errV]) rfl ⟨rfl, alloc_below _ _⟩
  · rw [if_neg hk]
    replace hk : Words.isKey l = false := by simpa using hk
    rw [hk] at HK
    clear hk
    by_cases h31 : 31 < l.length
    · rw [if_pos h31]
      have q1 : decide (31 < l.length) = true := decide_eq_true h31
      go_enter Tryz.func72, Tryz.ntmps72
      go_wp2_with (go_at_call 95; refine (unhide HK _).mono ?_; rintro ev w1 ⟨rfl, hw⟩; have hw := hw.symm; subst hw)
      exact bodyPost_ret (v := .tuple #[tokA ⟨0, [], 0, 0⟩, errV 4]) (by simp [results, Tryz.results72, go_sem, tokA, errV]) rfl ⟨rfl, alloc_below _ _⟩
    · rw [if_neg h31]
      have q1 : decide (31 < l.length) = false := decide_eq_false h31
      go_enter Tryz.func72, Tryz.ntmps72
      go_wp2_with (go_at_call 95; refine (unhide HK _).mono ?_; rintro ev w1 ⟨rfl, hw⟩; have hw := hw.symm; subst hw)
      exact bodyPost_ret (v := .tuple #[tokA ⟨1, l, 0, 0⟩, errV 0]) (by simp [results, Tryz.results72, go_sem, tokA, errV]) rfl ⟨rfl, alloc_below _ _⟩

def digitsW (s : List UInt8) : Words.T × Nat := if Words.big < Words.num s then (⟨0, [], 0, 0⟩, 5) else (⟨2, s, 0, Words.num s⟩, 0)
set_option maxHeartbeats 4000000 in
set_option maxRecDepth 100000 in
theorem digits_any (l : List UInt8) (hd : ∀ i (h : i < l.length), Words.digitB l[i] = true) (hl : l.length ≤ 1000000) (w : World) : Calls Tryz.prog 76 #[.string ⟨l.toArray⟩] w fun e w' => e = .returned (.tuple #[tokA (digitsW l).1, errV (digitsW l).2]) ∧ Below w.heap.size w w' := by
  have hsz : ((⟨l.toArray⟩ : ByteArray).size : Int) = l.length := rfl
  have HD := hide hd
  clear hd
  obtain ⟨ans, hans⟩ : ∃ a, Ending.returned (.tuple #[tokA (digitsW l).1, errV (digitsW l).2]) = a := ⟨_, rfl⟩
  rw [hans]
  have HANS := hide hans
  clear hans
  go_enter Tryz.func76, Tryz.ntmps76
  go_wp2
  go_loopw [4, 10] (fun x q wr => ∃ i : Nat, i ≤ l.length ∧ q = .int .i64 i ∧ x = .int .i64 (Words.num (l.take i) : Int) ∧ wr = w.alloc (.cells zeroTok 84) ∧ Hid (Words.num (l.take i) ≤ Words.big)) (fun _ q _ => l.length - (intOf q).toNat)
  case atStart => exact ⟨0, Nat.zero_le _, rfl, rfl, rfl, hide (Nat.zero_le _)⟩
  case round =>
    obtain ⟨i, hi, rfl, rfl, rfl, HB⟩ := hrel
    by_cases hlt : i < l.length
    · have hs : i < (⟨l.toArray⟩ : ByteArray).size := hlt
      have hbv : (((⟨l.toArray⟩ : ByteArray)[i]'hs).toNat : Int) = (l[i].toNat : Int) := rfl
      have hlt2 : (i : Int) < l.length := by omega
      have hdg := unhide HD i hlt
      unfold Words.digitB at hdg
      simp only [Bool.and_eq_true, decide_eq_true_eq] at hdg
      have HNT := hide (num_take l i hlt)
      have HLE := hide (num_le l (i + 1))
      have hnb := unhide HB
      generalize hnn : l[i].toNat = n at *
      generalize Words.num (l.take i) = m at *
      obtain ⟨d, rfl⟩ : ∃ d, n = d + 48 := ⟨n - 48, by omega⟩
      have hd9 : d ≤ 9 := by omega
      unfold Words.big at hnb
      clear hdg
      have e1 : ((d + 48 : Nat) : Int) - 48 = d := by omega
      have HM := hide (fun W => mul_any (m : Int) 10 W (by omega) (by omega) (by omega) (by omega))
      by_cases hov : 10 * m ≤ 9223372036854775807
      · rw [fitV_in (by omega) (by omega), fitO_in (by omega) (by omega), show (m : Int) * 10 = ((10 * m : Nat) : Int) by omega] at HM
        have HA := hide (fun W => add_any ((10 * m : Nat) : Int) (d : Int) W (by omega) (by omega) (by omega) (by omega))
        obtain ⟨mm, hmm⟩ : ∃ mm, 10 * m = mm := ⟨_, rfl⟩
        rw [hmm] at HM HA
        by_cases hov2 : mm + d ≤ 9223372036854775807
        · rw [fitV_in (by omega) (by omega), fitO_in (by omega) (by omega), show (mm : Int) + (d : Int) = ((mm + d : Nat) : Int) by omega] at HA
          go_wp2_with (first | (go_at_call 96; refine (unhide HM _).mono ?_; rintro ev w1 ⟨rfl, hw⟩; have hw := hw.symm; subst hw) | (go_at_call 97; refine (unhide HA _).mono ?_; rintro ev w1 ⟨rfl, hw⟩; have hw := hw.symm; subst hw))
          go_roundw
          case rel => exact ⟨i + 1, by omega, by go_num, by rw [unhide HNT, show d + 48 - 48 = d by omega, hmm]; simp, trivial, hide (by rw [unhide HNT]; unfold Words.big; omega)⟩
          case measure => simp [intOf]; omega
        · rw [fitV_out (by omega), fitO_out (by omega)] at HA
          have HOV : Hid (Words.big < Words.num l) := hide (by have h1 := unhide HNT; have h2 := unhide HLE; unfold Words.big; omega)
          go_wp2_with (first | (go_at_call 96; refine (unhide HM _).mono ?_; rintro ev w1 ⟨rfl, hw⟩; have hw := hw.symm; subst hw) | (go_at_call 97; refine (unhide HA _).mono ?_; rintro ev w1 ⟨rfl, hw⟩; have hw := hw.symm; subst hw))
          refine bodyPost_ret (v := .tuple #[tokA ⟨0, [], 0, 0⟩, errV 5]) (by simp [results, Tryz.results76, go_sem, tokA, errV]) rfl ⟨?_, alloc_below _ _⟩
          rw [← unhide HANS]
          unfold digitsW
          rw [if_pos (unhide HOV)]
      · rw [fitV_out (by omega), fitO_out (by omega)] at HM
        have HOV : Hid (Words.big < Words.num l) := hide (by have h1 := unhide HNT; have h2 := unhide HLE; unfold Words.big; omega)
        go_wp2_with (first | (go_at_call 96; refine (unhide HM _).mono ?_; rintro ev w1 ⟨rfl, hw⟩; have hw := hw.symm; subst hw))
        refine bodyPost_ret (v := .tuple #[tokA ⟨0, [], 0, 0⟩, errV 5]) (by simp [results, Tryz.results76, go_sem, tokA, errV]) rfl ⟨?_, alloc_below _ _⟩
        rw [← unhide HANS]
        unfold digitsW
        rw [if_pos (unhide HOV)]
    · have hil : i = l.length := by omega
      have HQ : Hid (l.take i = l) := hide (by rw [hil, List.take_length])
      have hnb := unhide HB
      rw [unhide HQ] at hnb
      have HNB := hide hnb
      rw [unhide HQ]
      generalize hm : Words.num l = m at *
      clear hil
      have HM := hide hm
      clear hm
      go_wp2
      refine bodyPost_ret (v := .tuple #[tokA ⟨2, l, 0, m⟩, errV 0]) (by simp [results, Tryz.results76, go_sem, tokA, errV]) rfl ⟨?_, alloc_below _ _⟩
      rw [← unhide HANS]
      unfold digitsW
      rw [unhide HM, if_neg (by have := unhide HNB; omega)]

theorem clings_nil (k : Nat) : Words.clingsB [] k = false := rfl
theorem clings_last (l : List Words.T) (m : Nat) (h : l.length = m + 1) (k : Nat) : Words.clingsB l k = (decide ((l[m]'(by omega)).kind = 2) && (decide (k = 1) || decide (k = 4))) := by
  unfold Words.clingsB
  rw [List.getLast?_eq_getElem?, show l.length - 1 = m by omega, List.getElem?_eq_getElem (by omega)]
set_option maxHeartbeats 4000000 in
theorem clings_any (u : Value) (l : List Words.T) (t : Words.T) (w : World) (hT : Tks w u l) (hl : l.length ≤ 1000000) : Calls Tryz.prog 55 #[u, tokA t] w fun e w' => e = .returned (.bool (Words.clingsB l t.kind)) ∧ Below w.heap.size w w' := by
  unfold tokA
  have hT2 := hT.below (alloc_below w (.cells #[.int .i64 t.kind, .string ⟨t.text.toArray⟩, .int .i64 0, .int .i64 t.n] 84))
  have hB := alloc_below w (.cells #[.int .i64 t.kind, .string ⟨t.text.toArray⟩, .int .i64 0, .int .i64 t.n] 84)
  have HB := hide hB
  clear hB
  have c0 : (w.alloc (.cells #[.int .i64 t.kind, .string ⟨t.text.toArray⟩, .int .i64 0, .int .i64 t.n] 84)).cell? ⟨w.heap.size, 0, none⟩ = some (.int .i64 t.kind) := by simp
  by_cases h0 : l.length = 0
  · obtain rfl : l = [] := List.length_eq_zero_iff.1 h0
    obtain ⟨a, c, rfl⟩ := hT.shape
    rw [clings_nil]
    clear hT hT2 h0 c0
    go_enter Tryz.func55, Tryz.ntmps55
    go_wp2
    go_ret
    exact ⟨rfl, unhide HB⟩
  · obtain ⟨m, hm⟩ : ∃ m, l.length = m + 1 := ⟨l.length - 1, by omega⟩
    rw [clings_last l m hm]
    rcases hT2 with ⟨_, _, _, hnil⟩ | ⟨b, off, cap, rfl, hcap, hcells⟩
    · exact absurd (by rw [hnil]; rfl) h0
    obtain ⟨d0, -, -, -⟩ := hcells m (by omega)
    clear hcells hT h0
    generalize (l[m]'(by omega)).kind = lk at *
    generalize l.length = n at *
    have e1 : (n : Int) - 1 = m := by omega
    have e2 : ((n : Int) == 0) = false := by rw [beq_eq_false_iff_ne]; omega
    have e3 : ¬ (n : Int) = 0 := by omega
    have hm1 : m + 1 ≤ cap := by omega
    have hm2 : (m : Int) < n := by omega
    have hm3 : m ≤ 1000000 := by omega
    clear hm
    generalize t.kind = k at *
    by_cases g1 : lk = 2
    · subst g1
      by_cases g2 : k = 1
      · have k1 : (k : Int) = 1 := by omega
        have HG := hide g2
        rw [k1] at c0 HB d0 ⊢
        clear k1 g2
        go_enter Tryz.func55, Tryz.ntmps55
        go_wp2
        go_ret
        exact ⟨ret_bool (by rw [unhide HG]; rfl), unhide HB⟩
      · have k1 : ((k : Int) == 1) = false := by rw [beq_eq_false_iff_ne]; omega
        go_enter Tryz.func55, Tryz.ntmps55
        go_wp2
        go_ret
        refine ⟨ret_bool ?_, unhide HB⟩
        by_cases g3 : k = 4
        · subst g3; rfl
        · have k4 : ((k : Int) == 4) = false := by rw [beq_eq_false_iff_ne]; omega
          simp [g2, g3, k4]
    · have k2 : ((lk : Int) != 2) = true := by rw [bne_iff_ne]; omega
      have k3 : ¬ (lk : Int) = 2 := by omega
      rw [decide_eq_false g1]
      go_enter Tryz.func55, Tryz.ntmps55
      go_wp2
      go_ret
      exact ⟨rfl, unhide HB⟩

/-- the block of the named result, a Tok, behind a call that wrote new memory alone -/
theorem tok_cells {w w2 : World} (hB : Below (w.heap.size + 1) (w.alloc (.cells zeroTok 84)) w2) :
    (w2.cell? ⟨w.heap.size, 0, none⟩ = some (.int .i64 0) ∧ w2.cell? ⟨w.heap.size, 1, none⟩ = some (.string ⟨#[]⟩) ∧ w2.cell? ⟨w.heap.size, 2, none⟩ = some (.int .i64 0) ∧ w2.cell? ⟨w.heap.size, 3, none⟩ = some (.int .i64 0)) ∧ (w2.frozen? ⟨w.heap.size, 0, none⟩ = false ∧ w2.frozen? ⟨w.heap.size, 1, none⟩ = false ∧ w2.frozen? ⟨w.heap.size, 2, none⟩ = false ∧ w2.frozen? ⟨w.heap.size, 3, none⟩ = false) ∧ w.heap.size < w2.heap.size ∧ Below w.heap.size w w2 := by
  refine ⟨⟨?_, ?_, ?_, ?_⟩, ⟨?_, ?_, ?_, ?_⟩, by have := hB.size; simp at this; omega, ((Below.refl _ _).alloc (Nat.le_refl _) _).trans (hB.mono (by omega))⟩
  · rw [hB.cell (p := ⟨w.heap.size, 0, none⟩) (by simp)]; simp
  · rw [hB.cell (p := ⟨w.heap.size, 1, none⟩) (by simp)]; simp
  · rw [hB.cell (p := ⟨w.heap.size, 2, none⟩) (by simp)]; simp
  · rw [hB.cell (p := ⟨w.heap.size, 3, none⟩) (by simp)]; simp
  · rw [hB.frozen (p := ⟨w.heap.size, 0, none⟩) (by simp)]; simp
  · rw [hB.frozen (p := ⟨w.heap.size, 1, none⟩) (by simp)]; simp
  · rw [hB.frozen (p := ⟨w.heap.size, 2, none⟩) (by simp)]; simp
  · rw [hB.frozen (p := ⟨w.heap.size, 3, none⟩) (by simp)]; simp
theorem first_names {l : List UInt8} (h : Words.headIs Words.letterB l = true) : Words.first l = lettersW (l.takeWhile Words.behindB) := by
  unfold Words.first lettersW
  rw [if_pos h]
theorem first_numbers {l : List UInt8} (h : Words.headIs Words.letterB l = false) (h2 : Words.headIs Words.digitB l = true) : Words.first l = digitsW (l.takeWhile Words.digitB) := by
  unfold Words.first digitsW
  rw [if_neg (by rw [h]; decide), if_pos h2]
theorem first_signs {l : List UInt8} (h : Words.headIs Words.letterB l = false) (h2 : Words.headIs Words.digitB l = false) : Words.first l = if Words.signLen l = 0 then (⟨0, [], 0, 0⟩, 3) else (⟨3, l.take (Words.signLen l), 0, 0⟩, 0) := by
  unfold Words.first
  rw [if_neg (by rw [h]; decide), if_neg (by rw [h2]; decide)]
theorem head_at (p : UInt8 → Bool) (l : List UInt8) (h : 0 < l.length) : Words.headIs p l = p l[0] := by
  cases l with
  | nil => simp at h
  | cons c r => rfl
theorem take_tw (p : UInt8 → Bool) (l : List UInt8) : l.take (l.takeWhile p).length = l.takeWhile p := (List.prefix_iff_eq_take.1 (List.takeWhile_prefix _)).symm
set_option maxHeartbeats 4000000 in
set_option maxRecDepth 100000 in
theorem first_any (l : List UInt8) (w : World) (h0 : 0 < l.length) (hl : l.length ≤ 1000000) : Calls Tryz.prog 54 #[.string ⟨l.toArray⟩] w fun e w' => e = .returned (.tuple #[tokA (Words.first l).1, errV (Words.first l).2]) ∧ Below w.heap.size w w' := by
  have hs : 0 < (⟨l.toArray⟩ : ByteArray).size := h0
  have hbv : (((⟨l.toArray⟩ : ByteArray)[0]'hs).toNat : Int) = (l[0].toNat : Int) := rfl
  have hlt2 : (0 : Int) < l.length := by omega
  have HS := hide (fun W => isSmall_any l[0] W)
  have HD := hide (fun W => isDigit_any l[0] W)
  have H1 := hide (head_at Words.letterB l h0)
  have H2 := hide (head_at Words.digitB l h0)
  by_cases g1 : Words.letterB l[0] = true
  · rw [first_names ((unhide H1).trans g1)]
    rw [g1] at HS
    have HSP := hide (fun W => spanInner_any l W hl)
    have HTW := hide (take_tw Words.behindB l)
    have hle : (l.takeWhile Words.behindB).length ≤ l.length := (List.takeWhile_prefix _).length_le
    have HLE := hide (fun W => letters_any (l.takeWhile Words.behindB) W (by omega))
    generalize l.takeWhile Words.behindB = X at *
    generalize lettersW X = r at *
    obtain ⟨⟨rk, rt, rp, rn⟩, re⟩ := r
    generalize l[0].toNat = c0 at *
    have hxe : (⟨l.toArray⟩ : ByteArray).extract 0 X.length = ⟨X.toArray⟩ := by rw [ext_front, unhide HTW]
    have hle2 : (X.length : Int) ≤ l.length := by omega
    clear g1 H1 H2
    go_enter Tryz.func54, Tryz.ntmps54
    go_wp2_with (first | (go_at_call 71; refine (unhide HS _).mono ?_; rintro ev w1 ⟨rfl, hw⟩; have hw := hw.symm; subst hw) | (go_at_call 73; refine (unhide HSP _).mono ?_; rintro ev w1 ⟨rfl, hw⟩; have hw := hw.symm; subst hw))
    refine (unhide HLE _).mono ?_
    rintro ev w4 ⟨rfl, hb4⟩
    have hb5 : Below (w.heap.size + 1) (w.alloc (.cells zeroTok 84)) w4 := hb4.mono (by simp)
    obtain ⟨⟨k0, k1, k2, k3⟩, ⟨z0, z1, z2, z3⟩, hsz, hB⟩ := tok_cells hb5
    have HB := hide hB
    clear hb4 hb5 hB
    unfold tokA
    go_wp2
    refine bodyPost_ret (v := .tuple #[tokA ⟨rk, rt, rp, rn⟩, errV re]) (by simp [results, Tryz.results54, go_sem, tokA, k0, k1, k2, k3]) rfl ⟨rfl, ?_⟩
    exact ((((unhide HB).setCell (Nat.le_refl _) _).setCell (Nat.le_refl _) _).setCell (Nat.le_refl _) _).setCell (Nat.le_refl _) _
  · replace g1 : Words.letterB l[0] = false := by simpa using g1
    rw [g1] at HS
    by_cases g2 : Words.digitB l[0] = true
    · rw [first_numbers ((unhide H1).trans g1) ((unhide H2).trans g2)]
      rw [g2] at HD
      have HSP := hide (fun W => spanDigit_any l W hl)
      have HTW := hide (take_tw Words.digitB l)
      have hle : (l.takeWhile Words.digitB).length ≤ l.length := (List.takeWhile_prefix _).length_le
      have HLE := hide (fun W => digits_any (l.takeWhile Words.digitB) (fun i h => List.all_eq_true.1 List.all_takeWhile _ (List.getElem_mem h)) (by omega) W)
      generalize l.takeWhile Words.digitB = X at *
      generalize digitsW X = r at *
      obtain ⟨⟨rk, rt, rp, rn⟩, re⟩ := r
      generalize l[0].toNat = c0 at *
      have hxe : (⟨l.toArray⟩ : ByteArray).extract 0 X.length = ⟨X.toArray⟩ := by rw [ext_front, unhide HTW]
      have hle2 : (X.length : Int) ≤ l.length := by omega
      clear g1 g2 H1 H2
      go_enter Tryz.func54, Tryz.ntmps54
      go_wp2_with (first | (go_at_call 71; refine (unhide HS _).mono ?_; rintro ev w1 ⟨rfl, hw⟩; have hw := hw.symm; subst hw) | (go_at_call 75; refine (unhide HD _).mono ?_; rintro ev w1 ⟨rfl, hw⟩; have hw := hw.symm; subst hw) | (go_at_call 73; refine (unhide HSP _).mono ?_; rintro ev w1 ⟨rfl, hw⟩; have hw := hw.symm; subst hw))
      refine (unhide HLE _).mono ?_
      rintro ev w4 ⟨rfl, hb4⟩
      have hb5 : Below (w.heap.size + 1) (w.alloc (.cells zeroTok 84)) w4 := hb4.mono (by simp)
      obtain ⟨⟨k0, k1, k2, k3⟩, ⟨z0, z1, z2, z3⟩, hsz, hB⟩ := tok_cells hb5
      have HB := hide hB
      clear hb4 hb5 hB
      unfold tokA
      go_wp2
      refine bodyPost_ret (v := .tuple #[tokA ⟨rk, rt, rp, rn⟩, errV re]) (by simp [results, Tryz.results54, go_sem, tokA, k0, k1, k2, k3]) rfl ⟨rfl, ?_⟩
      exact ((((unhide HB).setCell (Nat.le_refl _) _).setCell (Nat.le_refl _) _).setCell (Nat.le_refl _) _).setCell (Nat.le_refl _) _
    · replace g2 : Words.digitB l[0] = false := by simpa using g2
      rw [first_signs ((unhide H1).trans g1) ((unhide H2).trans g2)]
      rw [g2] at HD
      have HSG := hide (fun W => signLength_any l h0 hl W)
      have HKL := hide (Words.signLen_le l)
      have hle : Words.signLen l ≤ l.length := by
        have := Words.signLen_le l
        cases hh : l with
        | nil => simp [Words.signLen]
        | cons c r =>
          simp only [Words.signLen]
          split
          · split
            · rename_i hr
              cases r with
              | nil => cases hr
              | cons _ _ => simp
            · simp
          · split <;> simp
      generalize Words.signLen l = k at *
      generalize l[0].toNat = c0 at *
      clear g1 g2 H1 H2
      by_cases hk : k = 0
      · subst hk
        rw [if_pos rfl]
        go_enter Tryz.func54, Tryz.ntmps54
        go_wp2_with (first | (go_at_call 71; refine (unhide HS _).mono ?_; rintro ev w1 ⟨rfl, hw⟩; have hw := hw.symm; subst hw) | (go_at_call 75; refine (unhide HD _).mono ?_; rintro ev w1 ⟨rfl, hw⟩; have hw := hw.symm; subst hw) | (go_at_call 77; refine (unhide HSG _).mono ?_; rintro ev w1 ⟨rfl, hw⟩; have hw := hw.symm; subst hw))
        exact bodyPost_ret (v := .tuple #[tokA ⟨0, [], 0, 0⟩, errV 3]) (by simp [results, Tryz.results54, go_sem, tokA, errV]) rfl ⟨rfl, alloc_below _ _⟩
      · rw [if_neg hk]
        have k1 : ((k : Int) == 0) = false := by rw [beq_eq_false_iff_ne]; omega
        have k2 : ¬ (k : Int) = 0 := by omega
        have hle2 : (k : Int) ≤ l.length := by omega
        obtain ⟨X, hX⟩ : ∃ X, l.take k = X := ⟨_, rfl⟩
        have hxe : (⟨l.toArray⟩ : ByteArray).extract 0 k = ⟨X.toArray⟩ := by rw [ext_front, hX]
        rw [hX]
        clear hX
        go_enter Tryz.func54, Tryz.ntmps54
        go_wp2_with (first | (go_at_call 71; refine (unhide HS _).mono ?_; rintro ev w1 ⟨rfl, hw⟩; have hw := hw.symm; subst hw) | (go_at_call 75; refine (unhide HD _).mono ?_; rintro ev w1 ⟨rfl, hw⟩; have hw := hw.symm; subst hw) | (go_at_call 77; refine (unhide HSG _).mono ?_; rintro ev w1 ⟨rfl, hw⟩; have hw := hw.symm; subst hw))
        exact bodyPost_ret (v := .tuple #[tokA ⟨3, X, 0, 0⟩, errV 0]) (by simp [results, Tryz.results54, go_sem, tokA, errV]) rfl ⟨rfl, alloc_below _ _⟩
end Go.Proofs.YtbpmfkikhackfaaGreatDoor.Line

namespace Go.Proofs.YtbpmfkikhackfaaGreatDoor.Line
open Go.ChangeShapes Go.WideShapes Go.ChangeAt Go.RowKit
set_option linter.unusedVariables false

/-- one word more (the project's) -/
theorem append_tok {base : Nat} {w : World} {s : Value} {l : List Words.T} (hs : OwnT 84 base w s l) (t : Words.T) (hb : base ≤ w.heap.size) (hl : l.length + 1 ≤ 1000000) :
    ∃ v' w', (Builtin.append_ #[29, 29] 29 #[s, .slice (some ⟨w.heap.size, 0, none⟩) 1 1]).run Tryz.prog (w.alloc (.cells #[.int .i64 t.kind, .string ⟨t.text.toArray⟩, .int .i64 t.pos, .int .i64 t.n] 84)) = .ok v' w' ∧ OwnT 84 base w' v' (l ++ [t]) ∧ (w.alloc (.cells #[.int .i64 t.kind, .string ⟨t.text.toArray⟩, .int .i64 t.pos, .int .i64 t.n] 84)).grownBy w' s.ownBlock := by
  obtain ⟨i0, hi, hz0, hz1, hz2⟩ := info_parts infoTok
  obtain ⟨v', w', hr, ho, hgr, _⟩ := run_append_own (P := Tryz.prog) (w.alloc (.cells #[.int .i64 t.kind, .string ⟨t.text.toArray⟩, .int .i64 t.pos, .int .i64 t.n] 84)) base 29 29 84 i0 _ 4 40 Tryz.underlying29 hi hz0 hz1 hz2 rfl (by decide) s l.length (flatT l) (World.ownsRow.alloc hs _) ⟨w.heap.size, 0, none⟩ 1 1 (tokV t) rfl
    (World.news_of_block (cs := #[.int .i64 t.kind, .string ⟨t.text.toArray⟩, .int .i64 t.pos, .int .i64 t.n]) (t := 84) (fr := (0, 0)) (by show (w.heap.push _)[w.heap.size]? = _; exact Array.getElem?_push_size))
    (by intro u hu; simp [tokV] at hu; rcases hu with rfl | rfl | rfl | rfl <;> rfl) (by unfold maxLen; omega) (by omega) (by simp; omega)
  refine ⟨v', w', hr, ?_, hgr⟩
  unfold OwnT
  rw [flatT_snoc, List.length_append]
  exact ho
/-- an append of such words in a plain region, by its run -/
theorem wpList_append_runD {ops : Array Oper} {rest : List Oper} {o : Oper} {a : Act} {w : World} {Q : Exit → Act → World → Prop} (hgd : o.guard = none) (s x : Operand)
    (ho : o.op = .call { callee := .builtin .append, args := #[s, x], argTypes := #[29, 29] }) (hty : o.type = 29) (sv xv : Value) (hs : a.eval s = sv) (hx : a.eval x = xv) (v' : Value) (w' : World)
    (hr : (Builtin.append_ #[29, 29] 29 #[sv, xv]).run Tryz.prog w = .ok v' w') (h : wpList Tryz.prog ops Q rest (a.put o.dst v') w') : wpList Tryz.prog ops Q (o :: rest) a w := by
  refine wpList_plain hgd fun K hK => ?_
  unfold Oper.wp execOp
  simp only [ho, hty, resolve, invoke, builtin, Sem.run_bind, Sem.run_pure, Result.andThen_ok, List.map_toArray, List.map_cons, List.map_nil, hs, hx, hr]
  exact hK _ _ h

set_option maxHeartbeats 8000000 in
set_option maxRecDepth 100000 in
theorem line_any : LineSpec := by
  intro l w hl
  have HR0 := hide (Words.round l)
  have HI0 := hide (Words.inv_start l)
  generalize Words.toks l = R at *
  go_enter Tryz.func26, Tryz.ntmps26
  go_wp2_with fail
  go_loopw [4, 5] (fun x y wr => ∃ (e : Nat) (done : List Words.T), e ≤ l.length ∧ y = .int .i64 e ∧ done.length ≤ e ∧ Hid (Words.Inv l done e) ∧ Hid (OwnT 84 w.heap.size wr x done) ∧ Hid (Below w.heap.size w wr)) (fun _ y _ => l.length - (intOf y).toNat)
  case atStart => exact ⟨0, [], Nat.zero_le _, rfl, Nat.le_refl _, HI0, hide (OwnT.nil _ _ _), hide (Below.refl _ _)⟩
  case round =>
    obtain ⟨e, done, he, rfl, hdl, HI, HO, HB⟩ := hrel
    have hel : (e : Int) ≤ l.length := by omega
    obtain ⟨Y, hY⟩ : ∃ Y, Plain.indentOf (l.drop e) = Y := ⟨_, rfl⟩
    have hYl : Y.length = ((l.drop e).takeWhile Words.blankB).length := by rw [← hY, indent_len]
    have hYb : Y.length ≤ l.length - e := by rw [hYl, ← List.length_drop]; exact (List.takeWhile_prefix _).length_le
    obtain ⟨a, ha⟩ : ∃ a, e + Y.length = a := ⟨_, rfl⟩
    have hR := unhide HR0 done e a (unhide HI) he (by rw [← hYl]; exact ha)
    have HR := hide hR
    have HIN := hide (fun W => indent_any (l.drop e) W (by rw [List.length_drop]; omega))
    rw [hY] at HIN
    clear hR hYl hY HR0 HI0
    obtain ⟨X, hX⟩ : ∃ X, l.drop e = X := ⟨_, rfl⟩
    have hxe : (⟨l.toArray⟩ : ByteArray).extract e l.length = ⟨X.toArray⟩ := by rw [ext_end, hX]
    rw [hX] at HIN
    clear hX
    have hae : (e : Int) + Y.length = a := by omega
    go_wp2_with fail
    refine (unhide HIN _).mono ?_
    rintro ev w1 ⟨rfl, hb1⟩
    have HB1 := hide hb1
    clear hb1
    obtain ⟨au, cu, rfl⟩ := (unhide HO).tks.shape
    by_cases hal : a = l.length
    · have HRR := hide ((unhide HR).1 hal)
      have q1 : ((a : Int) == l.length) = true := by rw [beq_iff_eq]; omega
      go_wp2
      go_ret2
      rw [unhide HRR]
      exact ⟨_, _, 0, rfl, (unhide HO).below (unhide HB1), .inl ⟨rfl, rfl⟩, .inl rfl, bthen (unhide HB) (unhide HB1)⟩
    · have hal2 : a < l.length := by omega
      have hal3 : (a : Int) ≤ l.length := by omega
      have q1 : ((a : Int) == l.length) = false := by rw [beq_eq_false_iff_ne]; omega
      have HF := hide (fun W => first_any (l.drop a) W (by rw [List.length_drop]; omega) (by rw [List.length_drop]; omega))
      have HRR := hide ((unhide HR).2 hal2)
      obtain ⟨Z, hZ⟩ : ∃ Z, l.drop a = Z := ⟨_, rfl⟩
      have hze : (⟨l.toArray⟩ : ByteArray).extract a l.length = ⟨Z.toArray⟩ := by rw [ext_end, hZ]
      rw [hZ] at HF HRR
      clear hZ HR
      go_wp2_with fail
      refine (unhide HF _).mono ?_
      rintro ev w2 ⟨rfl, hb2⟩
      have HB2 := hide hb2
      clear hb2
      rcases unhide HRR with ⟨⟨rk, rt, rp, rn⟩, f1, hae2, hcl, hR⟩ | ⟨⟨rk, rt, rp, rn⟩, f1, hncl, hinv, hpos, hlen⟩ | ⟨err, f1, he0, hr1, hr2, hr3⟩
      · rw [f1]
        clear HRR f1 HF
        subst hae2
        have HC := hide (fun W (hT : Tks W (.slice au done.length cu) done) => clings_any _ done ⟨rk, rt, rp, rn⟩ W hT (by omega))
        rw [hcl] at HC
        have HRR := hide hR
        clear hcl hR
        unfold tokA errV at *
        rw [if_pos rfl]
        have hb12 : Below wr.heap.size wr w2 := bthen (unhide HB1) (unhide HB2)
        have hb3 : Below wr.heap.size wr (w2.alloc (.cells #[.int .i64 rk, .string ⟨rt.toArray⟩, .int .i64 0, .int .i64 rn] 84)) := bthen hb12 (alloc_below _ _)
        have HT3 := hide ((unhide HO).below hb3).tks
        have HB3 := hide (bthen (unhide HB) hb3)
        clear hb12 hb3
        go_wp2_with fail
        refine (unhide HC _ (unhide HT3)).mono ?_
        rintro ev w4 ⟨rfl, hb4⟩
        have HB4 := hide (bthen (unhide HB3) hb4)
        clear hb4
        go_wp2
        go_ret2
        rw [unhide HRR]
        exact ⟨_, _, 3, rfl, OwnT.nil _ _ _, .inr ⟨by decide, w4.heap.size, (unhide HB4).size, rfl, by simp, by simp, by simp⟩, .inl rfl, bthen (unhide HB4) (alloc_below _ _)⟩
      · rw [f1]
        clear HRR f1 HF
        have HK := hide (And.intro hinv (And.intro hpos hlen))
        clear hinv
        have hs5 : wr.heap.size ≤ w2.heap.size := Nat.le_trans (unhide HB1).size (unhide HB2).size
        have hb12 : Below wr.heap.size wr w2 := bthen (unhide HB1) (unhide HB2)
        have hlen2 : a + rt.length ≤ l.length := hlen
        have hrt : rt.length ≤ 100000 := by omega
        have hrt2 : a + rt.length ≤ 100000 := by omega
        have hpos2 : 0 < rt.length := hpos
        unfold errV
        rw [if_pos rfl]
        by_cases hc : a = e
        · have q2 : ((a : Int) == e) = true := by rw [beq_iff_eq]; omega
          have HC := hide (fun W (hT : Tks W (.slice au done.length cu) done) => clings_any _ done ⟨rk, rt, rp, rn⟩ W hT (by omega))
          have hncl2 : Words.clingsB done rk = false := by
            cases h : Words.clingsB done rk
            · rfl
            · exact absurd ⟨hc, h⟩ hncl
          have HC2 : Hid (∀ W (hT : Tks W (.slice au done.length cu) done), Calls Tryz.prog 55 #[.slice au done.length cu, .agg #[.int .i64 rk, .string ⟨rt.toArray⟩, .int .i64 0, .int .i64 rn]] W fun e w' => e = .returned (.bool false) ∧ Below W.heap.size W w') := hide (fun W hT => by have := unhide HC W hT; rwa [show Words.clingsB done (Words.T.mk rk rt rp rn).kind = false from hncl2] at this)
          have hb3 : Below wr.heap.size wr (w2.alloc (.cells #[.int .i64 rk, .string ⟨rt.toArray⟩, .int .i64 0, .int .i64 rn] 84)) := bthen hb12 (alloc_below _ _)
          have HT3 := hide ((unhide HO).below hb3).tks
          have hc0 : (w2.alloc (.cells #[.int .i64 rk, .string ⟨rt.toArray⟩, .int .i64 0, .int .i64 rn] 84)).cell? ⟨w2.heap.size, 0, none⟩ = some (.int .i64 rk) := by simp
          have hc1 : (w2.alloc (.cells #[.int .i64 rk, .string ⟨rt.toArray⟩, .int .i64 0, .int .i64 rn] 84)).cell? ⟨w2.heap.size, 1, none⟩ = some (.string ⟨rt.toArray⟩) := by simp
          have hc2 : (w2.alloc (.cells #[.int .i64 rk, .string ⟨rt.toArray⟩, .int .i64 0, .int .i64 rn] 84)).cell? ⟨w2.heap.size, 2, none⟩ = some (.int .i64 0) := by simp
          have hc3 : (w2.alloc (.cells #[.int .i64 rk, .string ⟨rt.toArray⟩, .int .i64 0, .int .i64 rn] 84)).cell? ⟨w2.heap.size, 3, none⟩ = some (.int .i64 rn) := by simp
          have hf2 : (w2.alloc (.cells #[.int .i64 rk, .string ⟨rt.toArray⟩, .int .i64 0, .int .i64 rn] 84)).frozen? ⟨w2.heap.size, 2, none⟩ = false := by simp
          have hw3 : w2.heap.size < (w2.alloc (.cells #[.int .i64 rk, .string ⟨rt.toArray⟩, .int .i64 0, .int .i64 rn] 84)).heap.size := by simp
          have HW3 := hide (And.intro hb3 (And.intro hc0 (And.intro hc1 (And.intro hc2 (And.intro hc3 (And.intro hf2 hw3))))))
          clear hb3 hc0 hc1 hc2 hc3 hf2 hw3 hb12 hpos hlen HC hncl hncl2
          subst hc
          unfold tokA
          go_wp2_with fail
          refine (unhide HC2 _ (unhide HT3)).mono ?_
          rintro ev w4 ⟨rfl, hb4⟩
          obtain ⟨hb3, hc0, hc1, hc2, hc3, hf2, hw3⟩ := unhide HW3
          have k0 := (hb4.cell (p := ⟨w2.heap.size, 0, none⟩) hw3).trans hc0
          have k1 := (hb4.cell (p := ⟨w2.heap.size, 1, none⟩) hw3).trans hc1
          have k2 := (hb4.cell (p := ⟨w2.heap.size, 2, none⟩) hw3).trans hc2
          have k3 := (hb4.cell (p := ⟨w2.heap.size, 3, none⟩) hw3).trans hc3
          have z2 := (hb4.frozen (p := ⟨w2.heap.size, 2, none⟩) hw3).trans hf2
          have k1' : (w4.setCell ⟨w2.heap.size, 2, none⟩ (.int .i64 a)).cell? ⟨w2.heap.size, 1, none⟩ = some (.string ⟨rt.toArray⟩) := by simp [go_sem, k1]
          have HW5 := hide (And.intro ((bthen hb3 hb4).setCell (p := ⟨w2.heap.size, 2, none⟩) hs5 (.int .i64 a)) (And.intro k1' (show w2.heap.size.succ ≤ (w4.setCell ⟨w2.heap.size, 2, none⟩ (.int .i64 a)).heap.size from Nat.le_trans hw3 (by have := hb4.size; simpa using this))))
          clear hb3 hc0 hc1 hc2 hc3 hf2 hw3 hb4 k1' HW3 HT3 HC2
          have hown5 := (unhide HO).below (unhide HW5).1
          have hne : some w2.heap.size ≠ (Value.slice au done.length cu).ownBlock := fun h => absurd ((unhide HO).lt _ h.symm).2 (by omega)
          obtain ⟨v9, w9, hr9, ho9, hg9⟩ := append_tok hown5 ⟨rk, rt, a, rn⟩ (Nat.le_trans (unhide HB).size (unhide HW5).1.size) (by omega)
          have hB5 : Below w.heap.size w (w4.setCell ⟨w2.heap.size, 2, none⟩ (.int .i64 a)) := bthen (unhide HB) (unhide HW5).1
          have y9 : Below w.heap.size w w9 := ((hB5.alloc hB5.size _).grown hg9 (Nat.le_trans hB5.size (by simp)) (fun j hj => (World.ownsRow.lt hown5 j hj).1))
          have c9 : w9.cell? ⟨w2.heap.size, 1, none⟩ = some (.string ⟨rt.toArray⟩) := hg9.cell (by rw [((Below.refl w2.heap.size.succ (w4.setCell ⟨w2.heap.size, 2, none⟩ (.int .i64 a))).alloc (unhide HW5).2.2 _).cell (p := ⟨w2.heap.size, 1, none⟩) (Nat.lt_succ_self _)]; exact (unhide HW5).2.1) hne
          have H9 := hide (And.intro ho9 y9)
          rw [show (w4.setCell ⟨w2.heap.size, 2, none⟩ (.int .i64 a)).heap.size = w4.heap.size by simp] at hr9
          clear hown5 hne ho9 hg9 hB5 y9
          go_wp2_with (at_builtin; refine wpList_append_runD rfl _ _ rfl rfl _ _ rfl rfl v9 w9 hr9 ?_)
          go_roundw
          case rel => exact ⟨a + rt.length, done ++ [⟨rk, rt, a, rn⟩], (unhide HK).2.2, by first | rfl | go_num, by rw [List.length_append, List.length_singleton]; omega, hide (unhide HK).1, hide (unhide H9).1, hide (unhide H9).2⟩
          case measure => simp [intOf]; omega
        · have q2 : ((a : Int) == e) = false := by rw [beq_eq_false_iff_ne]; omega
          have HW5 := hide (And.intro (bthen hb12 (alloc_below w2 (.cells #[.int .i64 rk, .string ⟨rt.toArray⟩, .int .i64 a, .int .i64 rn] 84))) (And.intro (show (w2.alloc (.cells #[.int .i64 rk, .string ⟨rt.toArray⟩, .int .i64 a, .int .i64 rn] 84)).cell? ⟨w2.heap.size, 1, none⟩ = some (.string ⟨rt.toArray⟩) by simp) (show w2.heap.size.succ ≤ (w2.alloc (.cells #[.int .i64 rk, .string ⟨rt.toArray⟩, .int .i64 a, .int .i64 rn] 84)).heap.size by simp)))
          clear hb12 hpos hlen hncl
          unfold tokA
          have hown5 := (unhide HO).below (unhide HW5).1
          have hne : some w2.heap.size ≠ (Value.slice au done.length cu).ownBlock := fun h => absurd ((unhide HO).lt _ h.symm).2 (by omega)
          obtain ⟨v9, w9, hr9, ho9, hg9⟩ := append_tok hown5 ⟨rk, rt, a, rn⟩ (Nat.le_trans (unhide HB).size (unhide HW5).1.size) (by omega)
          have hB5 : Below w.heap.size w (w2.alloc (.cells #[.int .i64 rk, .string ⟨rt.toArray⟩, .int .i64 a, .int .i64 rn] 84)) := bthen (unhide HB) (unhide HW5).1
          have y9 : Below w.heap.size w w9 := ((hB5.alloc hB5.size _).grown hg9 (Nat.le_trans hB5.size (by simp)) (fun j hj => (World.ownsRow.lt hown5 j hj).1))
          have c9 : w9.cell? ⟨w2.heap.size, 1, none⟩ = some (.string ⟨rt.toArray⟩) := hg9.cell (by rw [((Below.refl w2.heap.size.succ (w2.alloc (.cells #[.int .i64 rk, .string ⟨rt.toArray⟩, .int .i64 a, .int .i64 rn] 84))).alloc (unhide HW5).2.2 _).cell (p := ⟨w2.heap.size, 1, none⟩) (Nat.lt_succ_self _)]; exact (unhide HW5).2.1) hne
          have H9 := hide (And.intro ho9 y9)
          rw [show (w2.alloc (.cells #[.int .i64 rk, .string ⟨rt.toArray⟩, .int .i64 a, .int .i64 rn] 84)).heap.size = w2.heap.size + 1 by simp] at hr9
          clear hown5 hne ho9 hg9 hB5 y9
          go_wp2_with (at_builtin; refine wpList_append_runD rfl _ _ rfl rfl _ _ rfl rfl v9 w9 hr9 ?_)
          go_roundw
          case rel => exact ⟨a + rt.length, done ++ [⟨rk, rt, a, rn⟩], (unhide HK).2.2, by first | rfl | go_num, by rw [List.length_append, List.length_singleton]; omega, hide (unhide HK).1, hide (unhide H9).1, hide (unhide H9).2⟩
          case measure => simp [intOf]; omega
      · rw [f1]
        clear HRR f1 HF
        have HRR := hide (And.intro hr1 (And.intro hr2 hr3))
        have HE := hide he0
        clear hr1 hr2 hr3
        unfold tokA errV at *
        rw [if_neg he0]
        clear he0
        have HB3 := hide (bthen (unhide HB) (bthen (unhide HB1) (unhide HB2)))
        go_wp2
        go_ret2
        rw [(unhide HRR).1, (unhide HRR).2.1]
        exact ⟨_, _, err, rfl, OwnT.nil _ _ _, .inr ⟨unhide HE, _, Nat.le_trans (unhide HB3).size (by simp), rfl, by simp, by simp, by simp⟩, (unhide HRR).2.2, bthen (bthen (unhide HB3) (alloc_below _ _)) (alloc_below _ _)⟩
end Go.Proofs.YtbpmfkikhackfaaGreatDoor.Line
