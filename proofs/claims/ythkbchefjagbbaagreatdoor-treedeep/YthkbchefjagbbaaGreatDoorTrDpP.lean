/- TreeDeep: its lines, by reckoning. -/
import Derived.Test.YthkbchefjagbbaaGreatDoorTrLn
namespace Go.Proofs.YthkbchefjagbbaaGreatDoor.Line
open Ex (E St)
set_option linter.unusedVariables false

/-- the bit that tells which block stands at a depth -/
def dpBit (v i : Nat) : Nat := (v >>> (i % 8)) &&& 1
def dpOp (v i : Nat) : LP := if dpBit v i = 1 then (chF, psF) else (lA, psA)
def dpCl (v i : Nat) : LP := if dpBit v i = 1 then (chI, .plain 7) else (lC, .plain 4)
def dpLP (k v t : Nat) : List LP := (List.range k).map (dpOp v) ++ (List.range t).map (fun s => dpCl v (k - 1 - s))
def dpL (k v t : Nat) : List (List UInt8) := (dpLP k v t).map (·.1)
theorem dp_lines (k v t : Nat) : ∀ z ∈ dpLP k v t, LineIs z.1 z.2 := fun z hz => by
  rcases List.mem_append.1 hz with hz | hz
  · obtain ⟨i, _, rfl⟩ := List.mem_map.1 hz
    unfold dpOp; split
    · exact is_F
    · exact is_A
  · obtain ⟨i, _, rfl⟩ := List.mem_map.1 hz
    unfold dpCl; split
    · exact is_I
    · exact is_C
theorem dp_open (j v : Nat) : dpL (j + 1) v 0 = dpL j v 0 ++ [(dpOp v j).1] := by simp [dpL, dpLP, List.range_succ]
theorem dp_close (k v t : Nat) : dpL k v (t + 1) = dpL k v t ++ [(dpCl v (k - 1 - t)).1] := by simp [dpL, dpLP, List.range_succ]
theorem dp_len (k v t : Nat) : (dpL k v t).length = k + t := by simp [dpL, dpLP]
theorem dp_short (k v t : Nat) : ∀ s ∈ dpL k v t, s.length ≤ 65536 := fun s hs => by
  obtain ⟨z, hz, rfl⟩ := List.mem_map.1 hs
  rcases List.mem_append.1 hz with hz | hz
  · obtain ⟨i, _, rfl⟩ := List.mem_map.1 hz
    unfold dpOp; split <;> decide
  · obtain ⟨i, _, rfl⟩ := List.mem_map.1 hz
    unfold dpCl; split <;> decide
def dpB (k v : Nat) : Bool := match runQ (dpLP k v k) 0 Bl.start with
  | .ok b => b.opn.isEmpty && decide (k ≤ 8) && decide ((preL b.done 0).map (fun x => (x.1.line, x.1.en)) = (List.range k).map (fun i => (i, 2 * k - 1 - i)))
  | .error (j, e) => decide (8 < k) && j == 8 && e == 4
theorem fitA : FitF psA.full := ⟨by decide, fun x hx => by simp [psA, PS.full, FS.zero] at hx, by simp [psA, szF, PS.full, FS.zero, E.none, E.a, szL]⟩
theorem fitF : FitF psF.full := ⟨by decide, fun x hx => by simp [psF, PS.full, FS.zero] at hx, by simp [psF, szF, PS.full, FS.zero, E.none, E.a, szL]⟩
theorem fitPl (k : Nat) : FitF (PS.plain k).full := ⟨by simp [PS.full, FS.zero], fun x hx => by simp [PS.full, FS.zero] at hx, by simp [szF, PS.full, FS.zero, E.none, E.a, szL]⟩
theorem dp_fit (k v t : Nat) : ∀ z ∈ dpLP k v t, FitF z.2.full := fun z hz => by
  rcases List.mem_append.1 hz with hz | hz
  · obtain ⟨i, _, rfl⟩ := List.mem_map.1 hz
    unfold dpOp; split
    · exact fitF
    · exact fitA
  · obtain ⟨i, _, rfl⟩ := List.mem_map.1 hz
    unfold dpCl; split
    · exact fitPl 7
    · exact fitPl 4
end Go.Proofs.YthkbchefjagbbaaGreatDoor.Line
