/- What the texts of known() are, in words and as trees; what they tell.
   The law's read: a text that is an expression, all of it.
   The law's known, walked, over contracts of read, Line, Parse, ParseCond, Text, CondText, Same and Tells.
   known of the law, of the project's own functions. -/
import Derived.Test.YtepnafnljfjeoaaGreatDoorTxA
import Derived.Test.YtepnafnljfjeoaaGreatDoorPlainAll
import Derived.Test.YtepnafnljfjeoaaGreatDoorExRef
import Derived.Test.YtepnafnljfjeoaaGreatDoorRdLast
import Derived.Test.YtepnafnljfjeoaaGreatDoorLineAll
import Derived.Deep.RegionHeld3
import Derived.Test.YtepnafnljfjeoaaGreatDoorBaseAll
import Derived.Test.YtepnafnljfjeoaaGreatDoorShelfF
import Derived.Test.YtepnafnljfjeoaaGreatDoorSmAll
import Derived.Test.YtepnafnljfjeoaaGreatDoorTellsA
import Derived.Test.YtepnafnljfjeoaaGreatDoorDeepWalk
namespace Go.Proofs.YtepnafnljfjeoaaGreatDoor.Line
open Ex (E St)
set_option linter.unusedVariables false

abbrev kS1 : List UInt8 := [45, 40, 120, 32, 43, 32, 50, 41, 42, 97, 40, 105, 44, 32, 40, 106, 41, 41, 47, 40, 51, 42, 52, 41]
abbrev kS2 : List UInt8 := [49, 32, 45, 32, 40, 50, 32, 45, 32, 45, 51, 41]
abbrev kS3 : List UInt8 := [120, 32, 43, 32, 41, 32, 50]
abbrev kS4 : List UInt8 := [120, 42, 50, 32, 47, 61, 32, 121, 41]
def kA : E := .mk 8 0 [] [.mk 7 0 [] [.mk 4 0 [] [.mk 5 0 [] [.mk 2 0 [120] [], .mk 1 2 [] []]], .mk 3 0 [97] [.mk 2 0 [105] [], .mk 2 0 [106] []]], .mk 7 0 [] [.mk 1 3 [] [], .mk 1 4 [] []]]
def kB : E := .mk 6 0 [] [.mk 1 1 [] [], .mk 6 0 [] [.mk 1 2 [] [], .mk 4 0 [] [.mk 1 3 [] []]]]
theorem kT1 : Words.toks kS1 = ((Words.toks kS1).1, 0, 0) := by kernel_rfl
theorem kR1 : Ex.RExpr (Words.toks kS1).1 0 s00 (kA, ⟨(Words.toks kS1).1.length, 0, 0⟩) := ⟨200, by kernel_rfl⟩
theorem kT2 : Words.toks kS2 = ((Words.toks kS2).1, 0, 0) := by kernel_rfl
theorem kR2 : Ex.RExpr (Words.toks kS2).1 0 s00 (kB, ⟨(Words.toks kS2).1.length, 0, 0⟩) := ⟨200, by kernel_rfl⟩
theorem kT3 : Words.toks kS3 = ((Words.toks kS3).1, 0, 0) := by kernel_rfl
theorem kR3 : ∃ x p, Ex.RExpr (Words.toks kS3).1 0 s00 (x, ⟨p, 2, 2⟩) := ⟨.mk 5 0 [] [.mk 2 0 [120] [], E.none], 2, 200, by kernel_rfl⟩
theorem kT4 : Words.toks kS4 = ((Words.toks kS4).1, 0, 0) := by kernel_rfl
def kX : E := .mk 7 0 [] [.mk 2 0 [120] [], .mk 1 2 [] []]
def kY : E := .mk 2 0 [121] []
theorem kR4 : RCond (Words.toks kS4).1 [47, 61] kX kY ⟨5, 0, 0⟩ := by
  refine ⟨kX, ⟨3, 0, 0⟩, ⟨200, by kernel_rfl⟩, .inr (.inr ⟨rfl, by kernel_rfl, kY, ⟨5, 0, 0⟩, ⟨200, by kernel_rfl⟩, .inr ⟨rfl, rfl, ⟨by decide +kernel, by kernel_rfl⟩, rfl, rfl⟩⟩)⟩
theorem kX1 : textT kA = [45, 40, 120, 32, 43, 32, 50, 41, 32, 42, 32, 97, 40, 105, 44, 32, 106, 41, 32, 47, 32, 40, 51, 32, 42, 32, 52, 41] := by kernel_rfl
theorem kX2 : textT kB = [49, 32, 45, 32, 40, 50, 32, 45, 32, 40, 45, 51, 41, 41] := by kernel_rfl
theorem kX3 : textT kX = [120, 32, 42, 32, 50] := by kernel_rfl
theorem kX4 : textT kY = [121] := by kernel_rfl
theorem kX5 : textT (.mk 1 (-4) [] []) = [40, 45, 52, 41] := by kernel_rfl
theorem ok_leaf (k n : Int) (s : List UInt8) (h1 : -9223372036854775808 ≤ n) (h2 : n ≤ 9223372036854775807) (h3 : s.length ≤ 1000000) : OkE (.mk k n s []) := .mk _ ⟨h1, h2, h3⟩ (by simp [E.a]) (fun y hy => by simp [E.a] at hy)
theorem ok_row (k n : Int) (s : List UInt8) (a : List E) (h1 : -9223372036854775808 ≤ n) (h2 : n ≤ 9223372036854775807) (h3 : s.length ≤ 1000000) (h4 : a.length ≤ 1000) (h : ∀ y ∈ a, OkE y) : OkE (.mk k n s a) := .mk _ ⟨h1, h2, h3⟩ h4 h
/-- a tree that may be told, by reckoning -/
def okB : Nat → E → Bool
  | 0, _ => false
  | f + 1, .mk k n s a => decide (-9223372036854775808 ≤ n) && decide (n ≤ 9223372036854775807) && decide (s.length ≤ 1000000) && decide (a.length ≤ 1000) && a.all (okB f)
theorem okB_ok : ∀ (f : Nat) (x : E), okB f x = true → OkE x := by
  intro f
  induction f with
  | zero => intro x h; simp [okB] at h
  | succ f ih =>
    intro x h
    obtain ⟨k, n, s, a⟩ := x
    simp only [okB, Bool.and_eq_true, decide_eq_true_eq, List.all_eq_true] at h
    exact ok_row k n s a h.1.1.1.1 h.1.1.1.2 h.1.1.2 h.1.2 (fun y hy => ih y (h.2 y hy))
theorem kOA : OkE kA := okB_ok 9 _ (by decide +kernel)
theorem kOB : OkE kB := okB_ok 9 _ (by decide +kernel)
theorem kOX : OkE kX := okB_ok 9 _ (by decide +kernel)
theorem kOY : OkE kY := okB_ok 9 _ (by decide +kernel)
theorem kO5 : OkE (.mk 1 (-4) [] []) := okB_ok 9 _ (by decide +kernel)
theorem kWA : wtE kA ≤ 90000 := by decide +kernel
theorem kWB : wtE kB ≤ 90000 := by decide +kernel
theorem kWX : wtE kX ≤ 90000 := by decide +kernel
theorem kWY : wtE kY ≤ 90000 := by decide +kernel
theorem kW5 : wtE (.mk 1 (-4) [] []) ≤ 90000 := by decide +kernel
end Go.Proofs.YtepnafnljfjeoaaGreatDoor.Line

namespace Go.Proofs.YtepnafnljfjeoaaGreatDoor.Line
open Go.ChangeShapes Go.WideShapes Go.ChangeAt Go.RowKit
open Ex (E St)
set_option linter.unusedVariables false

set_option maxHeartbeats 8000000 in
set_option maxRecDepth 100000 in
theorem readL_any (s : List UInt8) (T : List Words.T) (x : E) (b : Nat) (w : World) (hs : s.length ≤ 10000) (ht : Words.toks s = (T, 0, 0)) (hx : Ex.RExpr T 0 s00 (x, ⟨T.length, 0, b⟩)) :
    Calls Tryz.prog 16 #[.string ⟨s.toArray⟩] w fun e w' => ∃ sl, e = .returned (.tuple #[treeV x sl, .bool true]) ∧ Forest w' (fun b => w.heap.size ≤ b) x.a sl ∧ Below w.heap.size w w' := by
  have hb0 := alloc_below w (.cells zeroE PET)
  have hz0 : (w.alloc (.cells zeroE PET)).heap.size = w.heap.size + 1 := by simp
  have HL := hide (line_any s (w.alloc (.cells zeroE PET)) (by omega))
  have HTC : Hid (T.length ≤ 10000) := hide (by have := toks_count s; rw [ht] at this; show T.length ≤ _; simp only at this; omega)
  have HB := hide (And.intro hb0 (And.intro hz0 (box_new w E.none (.slice none 0 0) PET)))
  rw [ht] at HL
  have HX := hide hx
  clear hb0 hz0 ht hx hs
  go_enter Tryz.func16, Tryz.ntmps16
  go_wp2_with fail
  refine (unhide HL).mono ?_
  rintro ev w1 ⟨u, g, err, rfl, hu, hg, hn, hb1⟩
  obtain rfl : err = 0 := by
    rcases hn with h | ⟨h, _⟩
    · exact h
    · exact absurd h (by decide)
  obtain rfl := says_nil hg rfl
  have HP := hide (parse_spec T u w1 (by have := unhide HTC; omega) hu.tks hu.ownLt)
  have HB1 := hide (And.intro (bthen (unhide HB).1 hb1) (And.intro ((unhide HB).2.2.keep (hb1.block _ (unhide HB).2.2.lt) hb1.size) (And.intro (unhide HB).2.1 hb1.size)))
  obtain ⟨ua, uc, hus⟩ := hu.tks.shape
  subst hus
  have hTl : T.length ≤ 10000 := unhide HTC
  clear hu hg hn hb1 HL HB
  go_wp2_with fail
  refine (unhide HP).mono ?_
  rintro ev w2 ⟨x2, s2, sl, g2, hr2, rfl, hf2, hs2, hb2⟩
  have hdet := Ex.RExpr.det hr2 (unhide HX)
  injection hdet with e1 e2
  subst e1
  subst e2
  have ha : ansE x2 ⟨T.length, 0, b⟩ = x2 := if_pos rfl
  have han : ansN ⟨T.length, 0, b⟩ = T.length := if_pos rfl
  obtain rfl := says_nil hs2 rfl
  rw [ha] at hf2 ⊢
  rw [han]
  obtain ⟨la, lc, hsl⟩ := hf2.shape
  generalize hln : x2.a.length = ln at *
  subst hsl
  have hA := alloc_below w2 (.cells #[.int .i64 x2.kind, .int .i64 x2.n, .string ⟨x2.name.toArray⟩, .slice la ln lc] PET)
  have hBX := box_new w2 x2 (.slice la ln lc) PET
  have hR1 := (unhide HB1).2.1.keep (hb2.block _ (unhide HB1).2.1.lt) hb2.size
  have hR2 := hR1.keep (hA.block _ hR1.lt) hA.size
  have HE := hide (And.intro (hf2.old hA) (And.intro (bthen (bthen (unhide HB1).1 hb2) hA) (And.intro (unhide HB1).2.2.1 (And.intro (unhide HB1).2.2.2 hb2.size))))
  clear hs2 hf2 hb2 hr2 ha han HP HB1 hR1 hA HX HTC
  go_wp2_with fail
  generalize hWA : (w2.alloc (.cells #[.int .i64 x2.kind, .int .i64 x2.n, .string ⟨x2.name.toArray⟩, .slice la ln lc] PET)) = WA at *
  have hne : w2.heap.size ≠ w.heap.size := by have := (unhide HE).2.2; omega
  have hne2 : ¬ w.heap.size = w2.heap.size := fun e => hne e.symm
  have HZ := hide (And.intro hne hWA)
  clear hWA
  obtain ⟨m0, m1, m2, m3, -, -, -, -, hml⟩ := hBX
  obtain ⟨r0, r1, r2, r3, z0, z1, z2, z3, hrl⟩ := hR2
  generalize hq1 : w.heap.size = B1 at *
  generalize hq2 : w2.heap.size = B2 at *
  go_region_held3 (fun W => W.cell? ⟨B2, 0, none⟩ = some (.int .i64 x2.kind) ∧ W.cell? ⟨B2, 1, none⟩ = some (.int .i64 x2.n) ∧ W.cell? ⟨B2, 2, none⟩ = some (.string ⟨x2.name.toArray⟩) ∧ W.cell? ⟨B2, 3, none⟩ = some (.slice la ln lc)) (go_keep) (fail)
  all_goals (
    go_wp2
    refine bodyPost_ret (v := .tuple #[treeV x2 (.slice la ln lc), .bool true]) (by simp [results, Tryz.results16, go_sem, r0, r1, r2, r3]) rfl ⟨.slice la ln lc, rfl, ?_, ?_⟩
    · have he := unhide HE
      have h1 := he.2.2
      refine he.1.keep (fun b hs _ => ?_) (fun b hs _ => by omega)
      exact heap_set4 WA B1 _ _ _ _ b (by omega)
    · have he := unhide HE
      rw [hq1]
      exact below_drew1 (below_set4 he.2.1 (Nat.le_refl _) _ _ _ _))
end Go.Proofs.YtepnafnljfjeoaaGreatDoor.Line

namespace Go.Proofs.YtepnafnljfjeoaaGreatDoor.Line
open Go.ChangeShapes Go.WideShapes Go.ChangeAt Go.RowKit
open Ex (E St)
set_option linter.unusedVariables false

def ReadSpec : Prop := ∀ (s : List UInt8) (T : List Words.T) (x : E) (b : Nat) (w : World), s.length ≤ 10000 → Words.toks s = (T, 0, 0) → Ex.RExpr T 0 s00 (x, ⟨T.length, 0, b⟩) →
    Calls Tryz.prog 16 #[.string ⟨s.toArray⟩] w fun e w' => ∃ sl, e = .returned (.tuple #[treeV x sl, .bool true]) ∧ Forest w' (fun b => w.heap.size ≤ b) x.a sl ∧ Below w.heap.size w w'
def TextSpec : Prop := ∀ (x : E) (sx : Value) (S : Nat → Prop) (w : World), Forest w S x.a sx → OkE x → Tab w → wtE x ≤ 90000 → (textT x).length ≤ 1000000000 → Calls Tryz.prog 8 #[treeV x sx] w fun e w' => e = .returned (.string ⟨(textT x).toArray⟩) ∧ Below w.heap.size w w'
def CondTextSpec : Prop := ∀ (op : List UInt8) (x y : E) (sx sy : Value) (S : Nat → Prop) (w : World), Forest w S x.a sx → Forest w S y.a sy → OkE x → OkE y → Tab w → wtE x ≤ 90000 → wtE y ≤ 90000 → (textT x).length ≤ 1000000 → (textT y).length ≤ 1000000 → op.length ≤ 1000 →
    Calls Tryz.prog 21 #[condV op x sx y sy] w fun e w' => e = .returned (.string ⟨(textT x ++ [32] ++ op ++ [32] ++ textT y).toArray⟩) ∧ Below w.heap.size w w'
def SameTrueSpec : Prop := ∀ (x : E) (sx sy : Value) (S S' : Nat → Prop) (w : World), Forest w S x.a sx → Forest w S' x.a sy → OkE x → wtE x ≤ 90000 → Calls Tryz.prog 22 #[treeV x sx, treeV x sy] w fun e w' => e = .returned (.bool true) ∧ Below w.heap.size w w'
def SameKindSpec : Prop := ∀ (x y : E) (sx sy : Value) (S S' : Nat → Prop) (w : World), Forest w S x.a sx → Forest w S' y.a sy → x.kind ≠ y.kind → Calls Tryz.prog 22 #[treeV x sx, treeV y sy] w fun e w' => e = .returned (.bool false) ∧ Below w.heap.size w w'
theorem says_nilK {B : Nat} {w : World} {g : Value} {word : List UInt8} {p er : Nat} (h : Says B w g word p er) (he : er = 0) : g = .nilIface := by
  rcases h with ⟨_, h0⟩ | ⟨h0, _⟩
  · exact h0
  · exact absurd he h0
/-- all that known asks of the memory at its last statement -/
theorem held17 {w W W' : World} {B C D : Nat} {v0 v1 v2 v3 v4 v5 v6 v7 v8 u0 u1 u2 u3 u4 u5 u6 u7 : Value}
    (h : W.cell? ⟨D, 0, none⟩ = some v0 ∧ W.cell? ⟨D, 1, none⟩ = some v1 ∧ W.cell? ⟨D, 2, none⟩ = some v2 ∧ W.cell? ⟨D, 3, none⟩ = some v3 ∧ W.cell? ⟨D, 4, none⟩ = some v4 ∧ W.cell? ⟨D, 5, none⟩ = some v5 ∧ W.cell? ⟨D, 6, none⟩ = some v6 ∧ W.cell? ⟨D, 7, none⟩ = some v7 ∧ W.cell? ⟨D, 8, none⟩ = some v8 ∧ W.cell? ⟨B, 0, none⟩ = some u0 ∧ W.cell? ⟨B, 1, none⟩ = some u1 ∧ W.cell? ⟨B, 2, none⟩ = some u2 ∧ W.cell? ⟨B, 3, none⟩ = some u3 ∧ W.cell? ⟨C, 0, none⟩ = some u4 ∧ W.cell? ⟨C, 1, none⟩ = some u5 ∧ W.cell? ⟨C, 2, none⟩ = some u6 ∧ W.cell? ⟨C, 3, none⟩ = some u7 ∧ Hid (Below w.heap.size w W))
    (hb : Hid (Below W.heap.size W W')) :
    W'.cell? ⟨D, 0, none⟩ = some v0 ∧ W'.cell? ⟨D, 1, none⟩ = some v1 ∧ W'.cell? ⟨D, 2, none⟩ = some v2 ∧ W'.cell? ⟨D, 3, none⟩ = some v3 ∧ W'.cell? ⟨D, 4, none⟩ = some v4 ∧ W'.cell? ⟨D, 5, none⟩ = some v5 ∧ W'.cell? ⟨D, 6, none⟩ = some v6 ∧ W'.cell? ⟨D, 7, none⟩ = some v7 ∧ W'.cell? ⟨D, 8, none⟩ = some v8 ∧ W'.cell? ⟨B, 0, none⟩ = some u0 ∧ W'.cell? ⟨B, 1, none⟩ = some u1 ∧ W'.cell? ⟨B, 2, none⟩ = some u2 ∧ W'.cell? ⟨B, 3, none⟩ = some u3 ∧ W'.cell? ⟨C, 0, none⟩ = some u4 ∧ W'.cell? ⟨C, 1, none⟩ = some u5 ∧ W'.cell? ⟨C, 2, none⟩ = some u6 ∧ W'.cell? ⟨C, 3, none⟩ = some u7 ∧ Hid (Below w.heap.size w W') := by
  obtain ⟨h0, h1, h2, h3, h4, h5, h6, h7, h8, g0, g1, g2, g3, g4, g5, g6, g7, h9⟩ := h
  have hc : ∀ {b o : Nat} {v : Value}, W.cell? ⟨b, o, none⟩ = some v → W'.cell? ⟨b, o, none⟩ = some v := fun {b o v} h => (hb.cell (p := ⟨b, o, none⟩) (cell_lt h)).trans h
  exact ⟨hc h0, hc h1, hc h2, hc h3, hc h4, hc h5, hc h6, hc h7, hc h8, hc g0, hc g1, hc g2, hc g3, hc g4, hc g5, hc g6, hc g7, hide (bthen (unhide h9) (unhide hb))⟩

set_option maxHeartbeats 16000000 in
set_option maxRecDepth 100000 in
theorem known5_of (HREAD : ReadSpec) (HLINE : LineSpec) (HPARSE : ParseSpec) (HCOND : CondSpec) (HTEXT : TextSpec) (HCT : CondTextSpec) (HST : SameTrueSpec) (HSK : SameKindSpec) (HTELLS : TellsESpec)
    (A B X Y : E) (hA : Ex.RExpr (Words.toks kS1).1 0 s00 (A, ⟨(Words.toks kS1).1.length, 0, 0⟩)) (hB : Ex.RExpr (Words.toks kS2).1 0 s00 (B, ⟨(Words.toks kS2).1.length, 0, 0⟩)) (hX : RCond (Words.toks kS4).1 [47, 61] X Y ⟨5, 0, 0⟩)
    (tA : textT A = [45, 40, 120, 32, 43, 32, 50, 41, 32, 42, 32, 97, 40, 105, 44, 32, 106, 41, 32, 47, 32, 40, 51, 32, 42, 32, 52, 41]) (tB : textT B = [49, 32, 45, 32, 40, 50, 32, 45, 32, 40, 45, 51, 41, 41]) (tX : textT X = [120, 32, 42, 32, 50]) (tY : textT Y = [121])
    (oA : OkE A) (oB : OkE B) (oX : OkE X) (oY : OkE Y) (wA : wtE A ≤ 90000) (wB : wtE B ≤ 90000) (wX : wtE X ≤ 90000) (wY : wtE Y ≤ 90000) (hk : A.kind ≠ B.kind)
    (w : World) (hG : Glob w) (hT : Tab w) : Calls Tryz.prog 4 #[] w fun e w' => e = .returned (.bool true) ∧ Below w.heap.size w w' := by
  have HR1 := hide (HREAD kS1 _ A 0 w (by decide) kT1 hA)
  have HR2 := hide (fun W => HREAD kS2 _ B 0 W (by decide) kT2 hB)
  have HX := hide hX
  have HLN := hide HLINE
  have HPC := hide (And.intro HPARSE HCOND)
  have HGT := hide (And.intro hG hT)
  have HCA : Hid (∀ (sl : Value) S W, Forest W S A.a sl → Tab W → Calls Tryz.prog 8 #[treeV A sl] W fun e w' => e = .returned (.string ⟨#[45, 40, 120, 32, 43, 32, 50, 41, 32, 42, 32, 97, 40, 105, 44, 32, 106, 41, 32, 47, 32, 40, 51, 32, 42, 32, 52, 41]⟩) ∧ Below W.heap.size W w') := hide (fun sl S W h1 h2 => by have := HTEXT A sl S W h1 oA h2 wA (by rw [tA]; decide); rw [tA] at this; exact this)
  have HCB : Hid (∀ (sl : Value) S W, Forest W S B.a sl → Tab W → Calls Tryz.prog 8 #[treeV B sl] W fun e w' => e = .returned (.string ⟨#[49, 32, 45, 32, 40, 50, 32, 45, 32, 40, 45, 51, 41, 41]⟩) ∧ Below W.heap.size W w') := hide (fun sl S W h1 h2 => by have := HTEXT B sl S W h1 oB h2 wB (by rw [tB]; decide); rw [tB] at this; exact this)
  have HC5 : Hid (∀ W, Tab W → Calls Tryz.prog 8 #[.agg #[.int .i64 1, .int .i64 (-4), .string ⟨#[]⟩, .slice none 0 0]] W fun e w' => e = .returned (.string ⟨#[40, 45, 52, 41]⟩) ∧ Below W.heap.size W w') := hide (fun W h2 => by have := HTEXT (.mk 1 (-4) [] []) (.slice none 0 0) (fun _ => True) W (.nil none 0) kO5 h2 kW5 (by rw [kX5]; decide); rw [kX5] at this; exact this)
  have HCC : Hid (∀ (sx sy : Value) S W, Forest W S X.a sx → Forest W S Y.a sy → Tab W → Calls Tryz.prog 21 #[condV [47, 61] X sx Y sy] W fun e w' => e = .returned (.string ⟨#[120, 32, 42, 32, 50, 32, 47, 61, 32, 121]⟩) ∧ Below W.heap.size W w') := hide (fun sx sy S W h1 h2 h3 => by have := HCT [47, 61] X Y sx sy S W h1 h2 oX oY h3 wX wY (by rw [tX]; decide) (by rw [tY]; decide) (by decide); rw [tX, tY] at this; exact this)
  have HSA : Hid (∀ (sl : Value) S W, Forest W S A.a sl → Calls Tryz.prog 22 #[treeV A sl, treeV A sl] W fun e w' => e = .returned (.bool true) ∧ Below W.heap.size W w') := hide (fun sl S W h1 => HST A sl sl S S W h1 h1 oA wA)
  have HSB : Hid (∀ (sx sy : Value) S S' W, Forest W S A.a sx → Forest W S' B.a sy → Calls Tryz.prog 22 #[treeV A sx, treeV B sy] W fun e w' => e = .returned (.bool false) ∧ Below W.heap.size W w') := hide (fun sx sy S S' W h1 h2 => HSK A B sx sy S S' W h1 h2 hk)
  have HTL := hide HTELLS
  clear HREAD HLINE HPARSE HCOND HTEXT HCT HST HSK HTELLS hA hB hX tA tB tX tY oA oB oX oY wA wB wX wY hk hG hT
  go_enter Tryz.func4, Tryz.ntmps4
  go_wp2_with fail
  refine (unhide HR1).mono ?_
  rintro e w1 ⟨sa, rfl, hfa, hb1⟩
  obtain ⟨aa, ac, hsa⟩ := hfa.shape
  generalize hal : A.a.length = al at hsa
  subst hsa
  have hA1 := alloc_below w1 (.cells #[.int .i64 A.kind, .int .i64 A.n, .string ⟨A.name.toArray⟩, .slice aa al ac] 24)
  have hX1 := box_new w1 A (.slice aa al ac) 24
  have H1 := hide (And.intro (hfa.old hA1) (And.intro hX1 (bthen hb1 hA1)))
  clear hfa hal hA1 hX1 hb1 HR1
  go_wp2_with fail
  generalize hq1 : w1.heap.size = B1 at *
  generalize w1.alloc (.cells #[.int .i64 A.kind, .int .i64 A.n, .string ⟨A.name.toArray⟩, .slice aa al ac] 24) = W1 at *
  clear hq1
  refine (unhide HR2 W1).mono ?_
  rintro e w2 ⟨sb, rfl, hfb, hb2⟩
  obtain ⟨ba, bc, hsb⟩ := hfb.shape
  generalize hbl : B.a.length = bl at hsb
  subst hsb
  have hA2 := alloc_below w2 (.cells #[.int .i64 B.kind, .int .i64 B.n, .string ⟨B.name.toArray⟩, .slice ba bl bc] 24)
  have hX2 := box_new w2 B (.slice ba bl bc) 24
  have h12 := bthen hb2 hA2
  have H2 := hide (And.intro ((unhide H1).1.old h12) (And.intro ((unhide H1).2.1.keep (h12.block _ (unhide H1).2.1.lt) h12.size) (And.intro (hfb.old hA2) (And.intro hX2 (bthen (unhide H1).2.2 h12)))))
  clear hfb hbl hA2 hX2 hb2 h12 H1 HR2
  go_wp2_with fail
  generalize hq2 : w2.heap.size = B2 at *
  generalize w2.alloc (.cells #[.int .i64 B.kind, .int .i64 B.n, .string ⟨B.name.toArray⟩, .slice ba bl bc] 24) = W2 at *
  clear hq2
  refine (unhide HLN kS3 W2 (by decide)).mono ?_
  rintro e w3 ⟨u3, g3, er3, rfl, hu3, hg3, hn3, hb3⟩
  obtain ⟨ua, uc, hus⟩ := hu3.tks.shape
  have hT3l : (Words.toks kS3).1.length = 4 := by kernel_rfl
  rw [hT3l] at hus
  subst hus
  have HP3 := hide ((unhide HPC).1 _ _ w3 (by rw [hT3l]; decide) hu3.tks hu3.ownLt)
  have H3 := hide hb3
  clear hu3 hg3 hn3 hb3 hT3l
  go_wp2_with fail
  refine (unhide HP3).mono ?_
  rintro e w4 ⟨x4, s4, sl4, f4, hr4, rfl, hf4, hs4, hb4⟩
  obtain ⟨x0, p0, hr0⟩ := kR3
  have hdet := Ex.RExpr.det hr4 hr0
  injection hdet with e1 e2
  subst e1 e2
  have hE4 : ansE x4 ⟨p0, 2, 2⟩ = E.none := if_neg (fun h => by cases h)
  have hN4 : ansN ⟨p0, 2, 2⟩ = 0 := if_neg (fun h => by cases h)
  rw [hE4] at hf4
  obtain ⟨fa, fc, hsf⟩ := hf4.shape
  rw [hE4, hN4]
  generalize hfl : E.none.a.length = fl at hsf
  subst hsf
  generalize E.none = X4 at *
  have hA4 := alloc_below w4 (.cells #[.int .i64 X4.kind, .int .i64 X4.n, .string ⟨X4.name.toArray⟩, .slice fa fl fc] 24)
  have H4 := hide (And.intro (hs4.below hA4) (bthen (unhide H3) (bthen hb4 hA4)))
  clear hr4 hr0 hf4 hs4 hb4 hA4 hE4 hN4 hfl HP3
  go_wp2_with fail
  generalize w4.alloc (.cells #[.int .i64 X4.kind, .int .i64 X4.n, .string ⟨X4.name.toArray⟩, .slice fa fl fc] 24) = W4 at *
  refine (unhide HLN kS4 W4 (by decide)).mono ?_
  rintro e w5 ⟨u5, g5, er5, rfl, hu5, hg5, hn5, hb5⟩
  obtain ⟨va, vc, hvs⟩ := hu5.tks.shape
  have hT5l : (Words.toks kS4).1.length = 6 := by kernel_rfl
  rw [hT5l] at hvs
  subst hvs
  have HP5 := hide ((unhide HPC).2 _ _ w5 (by rw [hT5l]; decide) hu5.tks hu5.ownLt)
  have H5 := hide hb5
  clear hu5 hg5 hn5 hb5 hT5l
  go_wp2_with fail
  refine (unhide HP5).mono ?_
  rintro e w6 ⟨c6, x6, y6, s6, sx6, sy6, f6, hr6, rfl, hfx, hfy, hs6, hb6⟩
  obtain ⟨j1, j2, j3, j4⟩ := RCond.det hr6 (unhide HX)
  subst j1 j2 j3 j4
  obtain rfl := says_nilK hs6 rfl
  have hN6 : ansN ⟨5, 0, 0⟩ = 5 := if_pos rfl
  rw [hN6]
  obtain ⟨ca, cc, hsx⟩ := hfx.shape
  generalize hcl : x6.a.length = cl at hsx
  subst hsx
  obtain ⟨da, dc, hsy⟩ := hfy.shape
  generalize hdl : y6.a.length = dl at hsy
  subst hsy
  have hA6 := alloc_below w6 (.cells #[.string ⟨#[47, 61]⟩, .int .i64 x6.kind, .int .i64 x6.n, .string ⟨x6.name.toArray⟩, .slice ca cl cc, .int .i64 y6.kind, .int .i64 y6.n, .string ⟨y6.name.toArray⟩, .slice da dl dc] 55)
  have hX6 := boxC_new w6 [47, 61] x6 (.slice ca cl cc) y6 (.slice da dl dc) 55
  have h46 := bthen (unhide H5) (bthen hb6 hA6)
  have h26 := bthen (unhide H4).2 h46
  have hAX := (unhide H2).2.1.keep (h26.block _ (unhide H2).2.1.lt) h26.size
  have hBX := (unhide H2).2.2.2.1.keep (h26.block _ (unhide H2).2.2.2.1.lt) h26.size
  have h6 := bthen (unhide H2).2.2.2.2 h26
  have HF := hide (And.intro ((unhide H2).1.old h26) (And.intro ((unhide H2).2.2.1.old h26) (And.intro (hfx.old hA6) (And.intro (hfy.old hA6) ((unhide H4).1.below h46)))))
  have HS6 := hide (And.intro hX6.c0 (And.intro hX6.c1 (And.intro hX6.c2 (And.intro hX6.c3 (And.intro hX6.c4 (And.intro hX6.c5 (And.intro hX6.c6 (And.intro hX6.c7 (And.intro hX6.c8 (And.intro hAX.c0 (And.intro hAX.c1 (And.intro hAX.c2 (And.intro hAX.c3 (And.intro hBX.c0 (And.intro hBX.c1 (And.intro hBX.c2 (And.intro hBX.c3 (hide h6))))))))))))))))))
  obtain ⟨k0, k1, k2, k3⟩ : _ ∧ _ ∧ _ ∧ _ := ⟨hAX.c0, hAX.c1, hAX.c2, hAX.c3⟩
  clear hr6 hfx hfy hs6 hb6 hN6 hcl hdl hA6 hX6 h46 HP5 H5 H4 H3 HX HLN HPC h26 hAX hBX h6 H2
  go_wp2_with fail
  generalize w6.alloc (.cells #[.string ⟨#[47, 61]⟩, .int .i64 x6.kind, .int .i64 x6.n, .string ⟨x6.name.toArray⟩, .slice ca cl cc, .int .i64 y6.kind, .int .i64 y6.n, .string ⟨y6.name.toArray⟩, .slice da dl dc] 55) = W6 at *
  generalize w6.heap.size = B6 at *
  have HT6 : Hid (∀ W', Below W6.heap.size W6 W' → Glob W' ∧ Tab W') := hide (fun W' hb => have h0 := bthen (unhide (unhide HS6).2.2.2.2.2.2.2.2.2.2.2.2.2.2.2.2.2) hb; ⟨(unhide HGT).1.below h0, (unhide HGT).2.below h0⟩)
  clear k0 k1 k2 k3
  refine (unhide HCA _ _ W6 (unhide HF).1 (unhide HT6 _ (Below.refl _ _)).2).mono ?_
  rintro e w7 ⟨rfl, hb7⟩
  have HS7 := hide (held17 (unhide HS6) (hide hb7))
  have HB7 := hide hb7
  obtain ⟨-, -, -, -, -, -, -, -, -, -, -, -, -, k0, k1, k2, k3, -⟩ := unhide HS7
  clear hb7
  go_wp2_with fail
  clear k0 k1 k2 k3
  refine (unhide HCB _ _ w7 ((unhide HF).2.1.old (unhide HB7)) (unhide HT6 _ (unhide HB7)).2).mono ?_
  rintro e w8 ⟨rfl, hb8⟩
  have HS8 := hide (held17 (unhide HS7) (hide hb8))
  have HB8 := hide (bthen (unhide HB7) hb8)
  clear hb8 HS7 HB7
  go_wp2_with fail
  refine (at_any wExpr 2 2 w8).mono ?_
  rintro e w9 ⟨b9, rfl, hb9, d0, d1, hB9⟩
  have HS9 := hide (held17 (unhide HS8) (hide hB9))
  have HB9 := hide (bthen (unhide HB8) hB9)
  have HTL9 := hide (unhide HTL w9 f4 _ 2 2 _ w8.heap.size (unhide HT6 _ (unhide HB9)).1 ((unhide HF).2.2.2.2.below (unhide HB9)) (.inr ⟨by decide, b9, hb9, rfl, d0, d1⟩))
  clear hB9 d0 d1 hb9 HS8 HB8
  go_wp2_with fail
  refine (unhide HTL9).mono ?_
  rintro e w10 ⟨rfl, hb10⟩
  have HS10 := hide (held17 (unhide HS9) (hide hb10))
  have HB10 := hide (bthen (unhide HB9) hb10)
  clear hb10 HS9 HB9 HTL9
  obtain ⟨k0, k1, k2, k3, k4, k5, k6, k7, k8, -, -, -, -, -, -, -, -, -⟩ := unhide HS10
  go_wp2_with fail
  clear k0 k1 k2 k3 k4 k5 k6 k7 k8
  refine (unhide HCC _ _ _ w10 ((unhide HF).2.2.1.old (unhide HB10)) ((unhide HF).2.2.2.1.old (unhide HB10)) (unhide HT6 _ (unhide HB10)).2).mono ?_
  rintro e w11 ⟨rfl, hb11⟩
  have HS11 := hide (held17 (unhide HS10) (hide hb11))
  have HB11 := hide (bthen (unhide HB10) hb11)
  clear hb11 HS10 HB10
  obtain ⟨-, -, -, -, -, -, -, -, -, k0, k1, k2, k3, -, -, -, -, -⟩ := unhide HS11
  go_wp2_with fail
  clear k0 k1 k2 k3
  refine (unhide HSA _ _ w11 ((unhide HF).1.old (unhide HB11))).mono ?_
  rintro e w12 ⟨rfl, hb12⟩
  have HS12 := hide (held17 (unhide HS11) (hide hb12))
  have HB12 := hide (bthen (unhide HB11) hb12)
  clear hb12 HS11 HB11
  obtain ⟨-, -, -, -, -, -, -, -, -, k0, k1, k2, k3, k4, k5, k6, k7, -⟩ := unhide HS12
  go_wp2_with fail
  clear k0 k1 k2 k3 k4 k5 k6 k7
  refine (unhide HSB _ _ _ _ w12 ((unhide HF).1.old (unhide HB12)) ((unhide HF).2.1.old (unhide HB12))).mono ?_
  rintro e w13 ⟨rfl, hb13⟩
  have HS13 := hide (held17 (unhide HS12) (hide hb13))
  have HB13 := hide (bthen (unhide HB12) hb13)
  clear hb13 HS12 HB12
  go_wp2_with fail
  refine (unhide HC5 w13 (unhide HT6 _ (unhide HB13)).2).mono ?_
  rintro e w14 ⟨rfl, hb14⟩
  have HEND := hide (bthen (unhide (unhide HS13).2.2.2.2.2.2.2.2.2.2.2.2.2.2.2.2.2) hb14)
  clear hb14 HS13 HB13
  go_wp2
  go_ret
  exact ⟨rfl, unhide HEND⟩
end Go.Proofs.YtepnafnljfjeoaaGreatDoor.Line

namespace Go.Proofs.YtepnafnljfjeoaaGreatDoor.Line
open Ex (E St)

theorem tellsE_any : TellsESpec := fun w f g k err _ _ hG hs ht => tells_any w f g wExpr k err hG hs ht
theorem known5_any : KnownTSpec := fun w hG hT =>
  known5_of readL_any line_any parse_spec cond_spec text_any condText_any same_true same_kind tellsE_any kA kB kX kY kR1 kR2 kR4 kX1 kX2 kX3 kX4 kOA kOB kOX kOY kWA kWB kWX kWY (by decide) w hG hT
end Go.Proofs.YtepnafnljfjeoaaGreatDoor.Line
