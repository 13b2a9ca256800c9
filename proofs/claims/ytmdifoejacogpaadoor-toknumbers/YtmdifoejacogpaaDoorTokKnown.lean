/- The law's known, walked, over contracts of the project's Line, IsKey, IsName, Replace. -/
import Derived.Test.YtmdifoejacogpaaDoorTokReplaceWalk
import Derived.Test.YtmdifoejacogpaaDoorPartsB
namespace Go.Proofs.YtmdifoejacogpaaDoor.Line
open Go.ChangeShapes Go.WideShapes Go.ChangeAt Go.RowKit
set_option linter.unusedVariables false

def parts3 : Parts3 := fun s => (Plain.bodyOf s, Plain.noteOf s, Plain.endOf s)
theorem parts3_join (s : List UInt8) : (parts3 s).1 ++ (parts3 s).2.1 ++ (parts3 s).2.2 = s := Plain.parts_join s
theorem parts3_spec : PartsSpec parts3 := fun s w h => refParts_any s w h
def isNameB (l : List UInt8) : Bool := decide (Words.toks l = ([⟨1, l, 0, 0⟩], 0, 0))
def IsKeySpec : Prop := ∀ (l : List UInt8) (w : World), l.length ≤ 100000 → Calls Tryd.prog 15 #[.string ⟨l.toArray⟩] w fun e w' => e = .returned (.bool (Words.isKey l)) ∧ Below w.heap.size w w'
def IsNameSpec : Prop := ∀ (l : List UInt8) (w : World), l.length ≤ 100000 → Calls Tryd.prog 16 #[.string ⟨l.toArray⟩] w fun e w' => e = .returned (.bool (isNameB l)) ∧ Below w.heap.size w w'
abbrev kS : List UInt8 := [100, 111, 32, 105, 49, 32, 61, 32, 50, 44, 120, 47, 61, 51]
abbrev kR : List UInt8 := [105, 32, 43, 32, 105, 105, 42, 105, 32, 33, 32, 105, 10]
theorem k_toks : Words.toks kS = ([⟨4, [100, 111], 0, 0⟩, ⟨1, [105, 49], 3, 0⟩, ⟨3, [61], 6, 0⟩, ⟨2, [50], 8, 2⟩, ⟨3, [44], 9, 0⟩, ⟨1, [120], 10, 0⟩, ⟨3, [47, 61], 11, 0⟩, ⟨2, [51], 13, 3⟩], 0, 0) := by decide +kernel
theorem k_bad : Words.toks [97, 32, 59] = ([], 3, 2) := by decide +kernel
theorem k_then : Words.isKey [116, 104, 101, 110] = true := by decide +kernel
theorem k_do : isNameB [100, 111] = false := by decide +kernel
theorem k_a1 : isNameB [97, 95, 49] = true := by decide +kernel
theorem k_repl : replOf parts3 kR [105] [40, 106, 41] = [40, 106, 41, 32, 43, 32, 105, 105, 42, 40, 106, 41, 32, 33, 32, 105, 10] := by decide +kernel

set_option maxHeartbeats 4000000 in
set_option maxRecDepth 100000 in
theorem known_walk (HLINE : LineSpec) (HKEY : IsKeySpec) (HNAME : IsNameSpec) (HREPL : ReplaceSpec parts3) : KnownSpec := by
  intro w
  have HLN := hide (And.intro HLINE (And.intro HKEY (And.intro HNAME HREPL)))
  clear HLINE HKEY HNAME HREPL
  go_enter Tryd.func8, Tryd.ntmps8
  go_wp2_with fail
  refine ((unhide HLN).1 kS w (by decide)).mono ?_
  rintro e w1 ⟨u1, g1, er1, rfl, ho1, hs1, hn1, hb1⟩
  rw [k_toks] at ho1 hs1 hn1
  obtain rfl := hn1.same (by decide)
  obtain rfl : g1 = .nilIface := by
    rcases hs1 with ⟨_, h⟩ | ⟨h, _⟩
    · exact h
    · exact absurd rfl h
  obtain ⟨a1, c1, rfl⟩ := ho1.tks.shape
  have H1 := hide (And.intro ho1.tks hb1)
  clear ho1 hs1 hn1 hb1
  go_wp2_with fail
  refine ((unhide HLN).1 [97, 32, 59] w1 (by decide)).mono ?_
  rintro e w2 ⟨u2, g2, er2, rfl, ho2, hs2, hn2, hb2⟩
  rw [k_bad] at ho2 hs2 hn2
  obtain ⟨a2, c2, rfl⟩ := ho2.tks.shape
  rcases hs2 with ⟨h, _⟩ | ⟨_, b2, _, rfl, _⟩
  · subst h
    rcases hn2 with h | ⟨_, h⟩ <;> cases h
  have hT2 := (unhide H1).1.below hb2
  have H2 := hide (bthen (unhide H1).2 hb2)
  rcases hT2 with ⟨_, _, _, hnil⟩ | ⟨b, off, cap, hval, hcap, hcells⟩
  · cases hnil
  injection hval with hv1 hv2 hv3
  subst hv1
  obtain ⟨d0, -, -, -⟩ := hcells 0 (by decide)
  obtain ⟨-, d1, -, -⟩ := hcells 1 (by decide)
  obtain ⟨-, -, -, d3⟩ := hcells 3 (by decide)
  obtain ⟨-, d4, d5, -⟩ := hcells 6 (by decide)
  simp only [List.getElem_cons_zero, List.getElem_cons_succ, Nat.zero_mul, Nat.add_zero, Nat.one_mul] at d0 d1 d3 d4 d5
  clear ho2 hn2 hb2 hcells hcap hv2 hv3
  go_wp2_with fail
  refine ((unhide HLN).2.1 [116, 104, 101, 110] w2 (by decide)).mono ?_
  rintro e w3 ⟨rfl, hb3⟩
  rw [k_then]
  have H3 := hide (bthen (unhide H2) hb3)
  clear hb3
  go_wp2_with fail
  refine ((unhide HLN).2.2.1 [100, 111] w3 (by decide)).mono ?_
  rintro e w4 ⟨rfl, hb4⟩
  rw [k_do]
  have H4 := hide (bthen (unhide H3) hb4)
  clear hb4
  go_wp2_with fail
  refine ((unhide HLN).2.2.1 [97, 95, 49] w4 (by decide)).mono ?_
  rintro e w5 ⟨rfl, hb5⟩
  rw [k_a1]
  have H5 := hide (bthen (unhide H4) hb5)
  clear hb5
  go_wp2_with fail
  refine ((unhide HLN).2.2.2 kR [105] [40, 106, 41] w5 (by decide) (by decide) (by decide)).mono ?_
  rintro e w6 ⟨rfl, hb6⟩
  rw [k_repl]
  have H6 := hide (bthen (unhide H5) hb6)
  clear hb6
  go_wp2
  go_ret
  exact ⟨rfl, unhide H6⟩
end Go.Proofs.YtmdifoejacogpaaDoor.Line
