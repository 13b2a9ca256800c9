/- Plain arithmetic for the laws of layer 1 (num): what the checked operations answer, as functions of integers; nothing of the program's run is in this text. -/
import Derived.Lib.Mul64
import Derived.Laws.Bits64b
import Derived.IntWalk
import Derived.RowKit
namespace Go.Proofs.Ytdmebcheofgjgaa.Plain
open Go.RowKit (wrap64 wrap32)

/-- What a checked operation answers for the whole number x: x itself where 64 bits hold it, else 0. -/
def fitV (x : Int) : Int := if -9223372036854775808 ≤ x ∧ x ≤ 9223372036854775807 then x else 0
/-- Whether 64 bits hold x. -/
def fitO (x : Int) : Bool := decide (-9223372036854775808 ≤ x ∧ x ≤ 9223372036854775807)

theorem fitV_in {x : Int} (h : -9223372036854775808 ≤ x) (g : x ≤ 9223372036854775807) : fitV x = x := by
  unfold fitV; rw [if_pos ⟨h, g⟩]
theorem fitO_in {x : Int} (h : -9223372036854775808 ≤ x) (g : x ≤ 9223372036854775807) : fitO x = true := by
  unfold fitO; exact decide_eq_true ⟨h, g⟩
theorem fitV_out {x : Int} (h : x < -9223372036854775808 ∨ 9223372036854775807 < x) : fitV x = 0 := by
  unfold fitV; rw [if_neg (by omega)]
theorem fitO_out {x : Int} (h : x < -9223372036854775808 ∨ 9223372036854775807 < x) : fitO x = false := by
  unfold fitO; exact decide_eq_false (by omega)

/-- Whether a quotient is there: not by 0, and not the one that is too great. -/
def quoO (a b : Int) : Bool := decide (¬ b = 0 ∧ ¬ (a = -9223372036854775808 ∧ b = -1))
/-- The quotient rounded down. -/
def down (a b : Int) : Int := if (0 < a.tmod b ∧ b < 0) ∨ (a.tmod b < 0 ∧ 0 < b) then a.tdiv b - 1 else a.tdiv b
/-- The quotient rounded up. -/
def up (a b : Int) : Int := if (0 < a.tmod b ∧ 0 < b) ∨ (a.tmod b < 0 ∧ b < 0) then a.tdiv b + 1 else a.tdiv b
def floorV (a b : Int) : Int := if quoO a b = true then down a b else 0
def ceilV (a b : Int) : Int := if quoO a b = true then up a b else 0

/-- How often a loop steps on behind its first turn. -/
def stepsV (lo hi step : Int) : Int := ((hi - lo).natAbs / step.natAbs : Nat)
/-- Whether a loop goes at all. -/
def goesO (lo hi step : Int) : Bool := decide ((0 < step ∧ lo ≤ hi) ∨ (step < 0 ∧ hi ≤ lo))
def timesV (lo hi step : Int) : Int :=
  if goesO lo hi step = true then (if stepsV lo hi step = 18446744073709551615 then 18446744073709551615 else stepsV lo hi step + 1) else 0
def lastV (lo hi step : Int) : Int := if goesO lo hi step = true then lo + stepsV lo hi step * step else lo

theorem ret_int {k : IntKind} {a b : Int} (h : a = b) : Ending.returned (.int k a) = .returned (.int k b) := by rw [h]
theorem ret_two {k : IntKind} {a b : Int} {c d : Bool} (h : a = b) (g : c = d) :
    Ending.returned (.tuple #[.int k a, .bool c]) = .returned (.tuple #[.int k b, .bool d]) := by rw [h, g]

/- quotients -/
theorem tdiv_bounds (a b : Int) (h1 : -9223372036854775808 ≤ a) (h2 : a ≤ 9223372036854775807) (hq : quoO a b = true) :
    -9223372036854775808 ≤ a.tdiv b ∧ a.tdiv b ≤ 9223372036854775807 := by
  have h : (a.tdiv b).natAbs = a.natAbs / b.natAbs := Int.natAbs_tdiv a b
  have g : a.natAbs / b.natAbs ≤ a.natAbs := Nat.div_le_self _ _
  by_cases e : a = -9223372036854775808
  · unfold quoO at hq
    have hq := of_decide_eq_true hq
    by_cases e1 : b = 1
    · subst e1; rw [Int.tdiv_one]; omega
    · have : 2 ≤ b.natAbs := by omega
      have : a.natAbs / b.natAbs ≤ a.natAbs / 2 := Nat.div_le_div_left this (by omega)
      omega
  · omega

theorem tmod_eq (a b : Int) : b * a.tdiv b + a.tmod b = a := Int.mul_tdiv_add_tmod a b
theorem tmod_lt (a b : Int) (h : ¬ b = 0) : (a.tmod b).natAbs < b.natAbs := by
  rw [Int.natAbs_tmod]; exact Nat.mod_lt _ (by omega)
theorem tmod_pos {a b : Int} (h : 0 < a.tmod b) : 0 < a := by
  have := Int.tmod_nonneg (a := -a) b
  rw [Int.neg_tmod] at this
  by_cases e : 0 < a
  · exact e
  · have := this (by omega); omega
theorem tmod_neg {a b : Int} (h : a.tmod b < 0) : a < 0 := by
  have := Int.tmod_nonneg (a := a) b
  by_cases e : a < 0
  · exact e
  · have := this (by omega); omega

theorem wrap64_mod (x : Int) : ∃ k : Int, wrap64 x = x - k * 18446744073709551616 ∧ -9223372036854775808 ≤ wrap64 x ∧ wrap64 x ≤ 9223372036854775807 :=
  ⟨(x + 9223372036854775808) / 18446744073709551616, by unfold wrap64; omega, by unfold wrap64; omega, by unfold wrap64; omega⟩
theorem wrap64_self (x : Int) (h : -9223372036854775808 ≤ x) (g : x ≤ 9223372036854775807) : wrap64 x = x := by unfold wrap64; omega

/-- The product that goes round, divided again: it is the first factor just where nothing went round. -/
theorem mul_round (a b : Int) (h1 : -9223372036854775808 ≤ a) (h2 : a ≤ 9223372036854775807) (h3 : -9223372036854775808 ≤ b) (h4 : b ≤ 9223372036854775807)
    (hb : ¬ b = 0) (hm : ¬ b = -1) : (-9223372036854775808 ≤ a * b ∧ a * b ≤ 9223372036854775807) ↔ wrap64 ((wrap64 (a * b)).tdiv b) = a := by
  constructor
  · rintro ⟨g1, g2⟩
    rw [wrap64_self _ g1 g2, Int.mul_tdiv_cancel _ hb, wrap64_self _ h1 h2]
  · intro h
    obtain ⟨k, hk, k1, k2⟩ := wrap64_mod (a * b)
    have hq : quoO (wrap64 (a * b)) b = true := by unfold quoO; exact decide_eq_true ⟨hb, fun g => hm g.2⟩
    have hd := tdiv_bounds _ b k1 k2 hq
    rw [wrap64_self _ hd.1 hd.2] at h
    have hr := tmod_eq (wrap64 (a * b)) b
    have hl := tmod_lt (wrap64 (a * b)) b hb
    rw [h, Int.mul_comm b a] at hr
    generalize a * b = p at *
    generalize (wrap64 p).tmod b = r at *
    omega

/-- Where there is a rest the quotient is at most half as great. -/
theorem tdiv_half (a b : Int) (h1 : -9223372036854775808 ≤ a) (h2 : a ≤ 9223372036854775807) (hb : ¬ b = 0) (hr : ¬ a.tmod b = 0) :
    -4611686018427387904 ≤ a.tdiv b ∧ a.tdiv b ≤ 4611686018427387904 := by
  have hl := tmod_lt a b hb
  have h : (a.tdiv b).natAbs = a.natAbs / b.natAbs := Int.natAbs_tdiv a b
  have g : a.natAbs / b.natAbs ≤ a.natAbs / 2 := Nat.div_le_div_left (by omega) (by omega)
  omega

theorem floor_is (a b : Int) (h1 : -9223372036854775808 ≤ a) (h2 : a ≤ 9223372036854775807) (hq : quoO a b = true) :
    (¬ ((0 < a.tmod b ∧ b < 0) ∨ (a.tmod b < 0 ∧ 0 < b)) → wrap64 (a.tdiv b) = floorV a b) ∧
    ((0 < a.tmod b ∧ b < 0) ∨ (a.tmod b < 0 ∧ 0 < b) → wrap64 (wrap64 (a.tdiv b) - 1) = floorV a b) := by
  have hb := tdiv_bounds a b h1 h2 hq
  unfold floorV; rw [if_pos hq]; unfold down
  constructor
  · intro h; rw [if_neg h, wrap64_self _ hb.1 hb.2]
  · intro h
    have := tdiv_half a b h1 h2 (by omega) (by omega)
    rw [if_pos h, wrap64_self _ hb.1 hb.2, wrap64_self _ (by omega) (by omega)]

theorem ceil_is (a b : Int) (h1 : -9223372036854775808 ≤ a) (h2 : a ≤ 9223372036854775807) (hq : quoO a b = true) :
    (¬ ((0 < a.tmod b ∧ 0 < b) ∨ (a.tmod b < 0 ∧ b < 0)) → wrap64 (a.tdiv b) = ceilV a b) ∧
    ((0 < a.tmod b ∧ 0 < b) ∨ (a.tmod b < 0 ∧ b < 0) → wrap64 (wrap64 (a.tdiv b) + 1) = ceilV a b) := by
  have hb := tdiv_bounds a b h1 h2 hq
  unfold ceilV; rw [if_pos hq]; unfold up
  constructor
  · intro h; rw [if_neg h, wrap64_self _ hb.1 hb.2]
  · intro h
    have := tdiv_half a b h1 h2 (by omega) (by omega)
    rw [if_pos h, wrap64_self _ hb.1 hb.2, wrap64_self _ (by omega) (by omega)]
theorem floor_none {a b : Int} (hq : quoO a b = false) : floorV a b = 0 := by unfold floorV; rw [if_neg (by simp [hq])]
theorem ceil_none {a b : Int} (hq : quoO a b = false) : ceilV a b = 0 := by unfold ceilV; rw [if_neg (by simp [hq])]
theorem quo_ne {a b : Int} (hq : quoO a b = true) : ¬ b = 0 := (of_decide_eq_true hq).1

theorem sign_differ {a b : Int} (hb : ¬ b = 0) (hr : ¬ a.tmod b = 0) (h : (!decide (a < 0) == decide (b < 0)) = true) :
    (0 < a.tmod b ∧ b < 0) ∨ (a.tmod b < 0 ∧ 0 < b) := by
  have t1 := @tmod_pos a b
  have t2 := @tmod_neg a b
  by_cases ha : a < 0 <;> by_cases hc : b < 0 <;> simp [ha, hc] at h <;> omega
theorem sign_same {a b : Int} (hb : ¬ b = 0) (hr : ¬ a.tmod b = 0) (h : (!decide (a < 0) == decide (b < 0)) = false) :
    (0 < a.tmod b ∧ 0 < b) ∨ (a.tmod b < 0 ∧ b < 0) := by
  have t1 := @tmod_pos a b
  have t2 := @tmod_neg a b
  by_cases ha : a < 0 <;> by_cases hc : b < 0 <;> simp [ha, hc] at h <;> omega

/-- What stepsDone tells. -/
def stepsN (lo hi step : Int) : Int := if goesO lo hi step = true then stepsV lo hi step else 0
theorem goes_up {lo hi step : Int} (h : 0 < step) (g : lo ≤ hi) : goesO lo hi step = true := decide_eq_true (Or.inl ⟨h, g⟩)
theorem goes_down {lo hi step : Int} (h : step < 0) (g : hi ≤ lo) : goesO lo hi step = true := decide_eq_true (Or.inr ⟨h, g⟩)
theorem goes_not {lo hi step : Int} (h : ¬ ((0 < step ∧ lo ≤ hi) ∨ (step < 0 ∧ hi ≤ lo))) : goesO lo hi step = false := decide_eq_false h
theorem goes_cases {lo hi step : Int} (h : goesO lo hi step = true) : (0 < step ∧ lo ≤ hi) ∨ (step < 0 ∧ hi ≤ lo) := of_decide_eq_true h
theorem goes_not_cases {lo hi step : Int} (h : goesO lo hi step = false) : ¬ ((0 < step ∧ lo ≤ hi) ∨ (step < 0 ∧ hi ≤ lo)) := of_decide_eq_false h

theorem steps_bounds (lo hi step : Int) (h1 : -9223372036854775808 ≤ lo) (h2 : lo ≤ 9223372036854775807) (h3 : -9223372036854775808 ≤ hi) (h4 : hi ≤ 9223372036854775807) :
    0 ≤ stepsV lo hi step ∧ stepsV lo hi step ≤ 18446744073709551615 := by
  have : (hi - lo).natAbs / step.natAbs ≤ (hi - lo).natAbs := Nat.div_le_self _ _
  unfold stepsV
  generalize (hi - lo).natAbs / step.natAbs = m at *
  omega

theorem dist_div (d s : Nat) (h : d ≤ 18446744073709551615) : IntKind.u64.wrap ((d : Int).tdiv (s : Int)) = ((d / s : Nat) : Int) := by
  rw [Int.tdiv_eq_ediv_of_nonneg (by omega), ← Int.natCast_ediv]
  have : d / s ≤ d := Nat.div_le_self _ _
  rw [IntKind.wrap_u64]
  generalize d / s = m at *
  omega
theorem dist_wrap (x y : Int) (h1 : -9223372036854775808 ≤ x) (h2 : x ≤ 9223372036854775807) (h3 : -9223372036854775808 ≤ y) (h4 : y ≤ 9223372036854775807) (h : y ≤ x) :
    IntKind.u64.wrap (IntKind.u64.wrap x - IntKind.u64.wrap y) = ((x - y).natAbs : Int) := by
  simp only [IntKind.wrap_u64]; omega
theorem steps_up (lo hi step : Int) (h1 : -9223372036854775808 ≤ lo) (h2 : lo ≤ 9223372036854775807) (h3 : -9223372036854775808 ≤ hi) (h4 : hi ≤ 9223372036854775807) (h : lo ≤ hi) :
    IntKind.u64.wrap ((IntKind.u64.wrap (IntKind.u64.wrap hi - IntKind.u64.wrap lo)).tdiv (step.natAbs : Int)) = stepsV lo hi step := by
  rw [dist_wrap hi lo h3 h4 h1 h2 h, dist_div _ _ (by omega)]; rfl
theorem steps_down (lo hi step : Int) (h1 : -9223372036854775808 ≤ lo) (h2 : lo ≤ 9223372036854775807) (h3 : -9223372036854775808 ≤ hi) (h4 : hi ≤ 9223372036854775807) (h : hi ≤ lo) :
    IntKind.u64.wrap ((IntKind.u64.wrap (IntKind.u64.wrap lo - IntKind.u64.wrap hi)).tdiv (step.natAbs : Int)) = stepsV lo hi step := by
  rw [dist_wrap lo hi h1 h2 h3 h4 h, dist_div _ _ (by omega)]
  unfold stepsV; rw [show (lo - hi).natAbs = (hi - lo).natAbs by omega]
/-- The steps together stay within the distance. -/
theorem steps_span (lo hi step : Int) (h : goesO lo hi step = true) :
    (lo ≤ hi → lo ≤ lo + stepsV lo hi step * step ∧ lo + stepsV lo hi step * step ≤ hi) ∧ (hi ≤ lo → hi ≤ lo + stepsV lo hi step * step ∧ lo + stepsV lo hi step * step ≤ lo) := by
  have hm : (hi - lo).natAbs / step.natAbs * step.natAbs ≤ (hi - lo).natAbs := Nat.div_mul_le_self _ _
  have hz : ((hi - lo).natAbs / step.natAbs * step.natAbs : Nat) = stepsV lo hi step * (step.natAbs : Int) := by unfold stepsV; rw [Int.natCast_mul]
  generalize (hi - lo).natAbs / step.natAbs * step.natAbs = m at *
  rcases goes_cases h with ⟨hs, hl⟩ | ⟨hs, hl⟩
  · rw [show ((step.natAbs : Nat) : Int) = step by omega] at hz
    rw [← hz]; omega
  · rw [show ((step.natAbs : Nat) : Int) = -step by omega, Int.mul_neg] at hz
    rw [show stepsV lo hi step * step = -(m : Int) by omega]; omega
theorem last_bounds (lo hi step : Int) (h : goesO lo hi step = true) (h1 : -9223372036854775808 ≤ lo) (h2 : lo ≤ 9223372036854775807) (h3 : -9223372036854775808 ≤ hi) (h4 : hi ≤ 9223372036854775807) :
    -9223372036854775808 ≤ lo + stepsV lo hi step * step ∧ lo + stepsV lo hi step * step ≤ 9223372036854775807 := by
  have := steps_span lo hi step h
  omega
theorem last_round (lo n step : Int) (h1 : -9223372036854775808 ≤ lo + n * step) (h2 : lo + n * step ≤ 9223372036854775807) :
    wrap64 (IntKind.u64.wrap (IntKind.u64.wrap lo + IntKind.u64.wrap (n * IntKind.u64.wrap step))) = lo + n * step := by
  have e : IntKind.u64.wrap (n * IntKind.u64.wrap step) = IntKind.u64.wrap (n * step) := by
    simp only [IntKind.wrap_u64]; rw [Int.mul_emod n (step % _), Int.emod_emod_of_dvd _ (Int.dvd_refl _), ← Int.mul_emod]
  rw [e]; simp only [IntKind.wrap_u64]; unfold wrap64
  generalize n * step = m at *
  omega
theorem times_none {lo hi step : Int} (h : goesO lo hi step = false) : timesV lo hi step = 0 := by unfold timesV; rw [if_neg (by simp [h])]
theorem last_none {lo hi step : Int} (h : goesO lo hi step = false) : lastV lo hi step = lo := by unfold lastV; rw [if_neg (by simp [h])]
theorem times_great {lo hi step : Int} (h : goesO lo hi step = true) (g : stepsV lo hi step = 18446744073709551615) : timesV lo hi step = stepsV lo hi step := by
  unfold timesV; rw [if_pos h, if_pos g, g]
theorem times_some {lo hi step : Int} (h : goesO lo hi step = true) (g : ¬ stepsV lo hi step = 18446744073709551615) : timesV lo hi step = stepsV lo hi step + 1 := by
  unfold timesV; rw [if_pos h, if_neg g]
theorem last_some {lo hi step : Int} (h : goesO lo hi step = true) : lastV lo hi step = lo + stepsV lo hi step * step := by unfold lastV; rw [if_pos h]

end Go.Proofs.Ytdmebcheofgjgaa.Plain
