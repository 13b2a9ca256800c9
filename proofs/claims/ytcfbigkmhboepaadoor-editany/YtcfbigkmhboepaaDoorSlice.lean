/- Parts of rows of lines: x[lo:hi], x[lo:], by the operation's own run. -/
import Derived.Test.YtcfbigkmhboepaaDoorAppE
namespace Go.Proofs.YtcfbigkmhboepaaDoor.Line
open Go.ChangeShapes Go.WideShapes Go.ChangeAt Go.RowKit
set_option linter.unusedVariables false
theorem run_slice2 {w : World} (a : Option Addr) (n cap lo hi : Nat) (h1 : lo ≤ hi) (h2 : hi ≤ cap) : (Instr.slice 22 (.slice a n cap) (some (.int .i64 lo)) (some (.int .i64 hi)) none).run Tryd.prog w = .ok (.slice (if cap = lo then a else a.map (·.add lo)) (hi - lo) (cap - lo)) w := by
  obtain ⟨i0, hi0, hz0, hz1, hz2⟩ := info_parts info9
  simp [Instr.slice, run_underlying Tryd.underlying22, sizeOf, typeInfo, hi0, hz1, Instr.sliceBounds, Instr.sliceBound, asIntOf, h1, h2]
theorem run_slice1 {w : World} (a : Option Addr) (n cap lo : Nat) (h1 : lo ≤ n) (h2 : n ≤ cap) : (Instr.slice 22 (.slice a n cap) (some (.int .i64 lo)) none none).run Tryd.prog w = .ok (.slice (if cap = lo then a else a.map (·.add lo)) (n - lo) (cap - lo)) w := by
  obtain ⟨i0, hi0, hz0, hz1, hz2⟩ := info_parts info9
  simp [Instr.slice, run_underlying Tryd.underlying22, sizeOf, typeInfo, hi0, hz1, Instr.sliceBounds, Instr.sliceBound, asIntOf, h1]
theorem Row.cut {w : World} {lv : Value} {L : List (List UInt8)} (hL : Row w lv L) (lo hi : Nat) (h1 : lo ≤ hi) (h2 : hi ≤ L.length) :
    ∃ a cap, lv = .slice a L.length cap ∧ L.length ≤ cap ∧ Row w (.slice (if cap = lo then a else a.map (·.add lo)) (hi - lo) (cap - lo)) ((L.drop lo).take (hi - lo)) := by
  rcases hL with ⟨a, cap, rfl, rfl⟩ | ⟨b, off, cap, rfl, hc, h⟩
  · obtain rfl : hi = 0 := by simpa using h2
    obtain rfl : lo = 0 := by omega
    exact ⟨a, cap, rfl, by simp, .inl ⟨_, _, rfl, by simp⟩⟩
  · refine ⟨_, cap, rfl, hc, ?_⟩
    by_cases hcap : cap = lo
    · rw [if_pos hcap]
      have : hi - lo = 0 := by omega
      rw [this]
      exact .inl ⟨_, _, rfl, rfl⟩
    · rw [if_neg hcap]
      show Row w (.slice (some ((⟨b, off, none⟩ : Addr).add lo)) _ _) _
      rw [addr_add]
      exact Row.part (cap := cap) h lo hi _ h1 h2 (by omega)
/-- x[lo:hi] -/
theorem slice_run {w : World} {lv : Value} {L : List (List UInt8)} (hL : Row w lv L) (lo hi : Nat) (h1 : lo ≤ hi) (h2 : hi ≤ L.length) :
    ∃ sv, (Instr.slice 22 lv (some (.int .i64 lo)) (some (.int .i64 hi)) none).run Tryd.prog w = .ok sv w ∧ Row w sv ((L.drop lo).take (hi - lo)) := by
  obtain ⟨a, cap, rfl, hc, h⟩ := hL.cut lo hi h1 h2
  exact ⟨_, run_slice2 a _ cap lo hi h1 (by omega), h⟩
/-- x[lo:] -/
theorem slice_rest {w : World} {lv : Value} {L : List (List UInt8)} (hL : Row w lv L) (lo : Nat) (h1 : lo ≤ L.length) :
    ∃ sv, (Instr.slice 22 lv (some (.int .i64 lo)) none none).run Tryd.prog w = .ok sv w ∧ Row w sv (L.drop lo) := by
  obtain ⟨a, cap, rfl, hc, h⟩ := hL.cut lo L.length h1 (Nat.le_refl _)
  rw [List.take_of_length_le (by simp)] at h
  exact ⟨_, run_slice1 a _ cap lo h1 hc, h⟩
end Go.Proofs.YtcfbigkmhboepaaDoor.Line
