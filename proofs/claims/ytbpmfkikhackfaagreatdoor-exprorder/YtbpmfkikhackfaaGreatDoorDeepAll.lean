/- Brackets and signs in one another: the texts that ExprDeep makes, and how they are read (plain; reckoned by the kernel).
   ExprDeep, walked, over contracts of known, of the project's Parse and of Tells. -/
import Derived.Test.YtbpmfkikhackfaaGreatDoorPlainTok
import Derived.Test.YtbpmfkikhackfaaGreatDoorPlainExpr
import Derived.Test.YtbpmfkikhackfaaGreatDoorExprSpec
import Derived.Test.YtbpmfkikhackfaaGreatDoorAtB
import Derived.Test.YtbpmfkikhackfaaGreatDoorShelfF
import Derived.Deep.RegionHeld3
namespace Go.Proofs.YtbpmfkikhackfaaGreatDoor.Line
open Ex (E St)
set_option linter.unusedVariables false

def dBit (p i : Nat) : Bool := p / 2 ^ (i % 5) % 2 == 1
def dS (p k : Nat) : List UInt8 := (List.range k).map fun i => if dBit p i then 45 else 40
def dE (p k : Nat) : List UInt8 := (List.range k).flatMap fun i => if dBit p i then [] else [41]
theorem dS_succ (p k : Nat) : dS p (k + 1) = dS p k ++ [if dBit p k then 45 else 40] := by simp [dS, List.range_succ]
theorem dE_succ (p k : Nat) : dE p (k + 1) = dE p k ++ (if dBit p k then [] else [41]) := by simp [dE, List.range_succ]
theorem dS_length (p k : Nat) : (dS p k).length = k := by simp [dS]
theorem dE_length (p k : Nat) : (dE p k).length ≤ k := by
  induction k with
  | zero => simp [dE]
  | succ k ih =>
    rw [dE_succ, List.length_append]
    split
    · simp; omega
    · simp; omega
def dT (p k : Nat) : List UInt8 := dS p k ++ [120] ++ dE p k
def deepB (p k : Nat) : Bool :=
  (Words.toks (dT p k)).2 == (0, 0) &&
  match Ex.pExpr (Words.toks (dT p k)).1 200 0 ⟨0, 0, 0⟩ with
  | none => false
  | some (x, s) => if 20 < k then s.err == 4 && s.bad == 20 else s.err == 0 && s.pos == (Words.toks (dT p k)).1.length && decide (2 ≤ x.kind)
theorem deepB_all : ∀ k, k < 30 → ∀ p, p < 32 → deepB p k = true := by decide +kernel
theorem deep_read (p k : Nat) (hp : p < 32) (hk : k < 30) : (Words.toks (dT p k)).2.1 = 0 ∧ (Words.toks (dT p k)).2.2 = 0 ∧ ∃ x s, Ex.RExpr (Words.toks (dT p k)).1 0 ⟨0, 0, 0⟩ (x, s) ∧ (20 < k → s.err = 4 ∧ s.bad = 20) ∧ (¬ 20 < k → s.err = 0 ∧ s.pos = (Words.toks (dT p k)).1.length ∧ 2 ≤ x.kind) := by
  have h := deepB_all k hk p hp
  unfold deepB at h
  rw [Bool.and_eq_true] at h
  have h1 := eq_of_beq h.1
  have h2 := h.2
  refine ⟨by rw [h1], by rw [h1], ?_⟩
  cases hr : Ex.pExpr (Words.toks (dT p k)).1 200 0 ⟨0, 0, 0⟩ with
  | none => rw [hr] at h2; cases h2
  | some r =>
    obtain ⟨x, s⟩ := r
    rw [hr] at h2
    refine ⟨x, s, ⟨200, hr⟩, fun hlt => ?_, fun hge => ?_⟩
    · simp only [if_pos hlt, Bool.and_eq_true, beq_iff_eq] at h2
      exact h2
    · simp only [if_neg hge, Bool.and_eq_true, beq_iff_eq, decide_eq_true_eq] at h2
      exact ⟨h2.1.1, h2.1.2, h2.2⟩
end Go.Proofs.YtbpmfkikhackfaaGreatDoor.Line

namespace Go.Proofs.YtbpmfkikhackfaaGreatDoor.Line
open Go.ChangeShapes Go.WideShapes Go.ChangeAt Go.RowKit
open Ex (E St)
set_option linter.unusedVariables false

def KnownTSpec : Prop := ∀ w, Glob w → Tab w → Calls Tryz.prog 7 #[] w fun e w' => e = .returned (.bool true) ∧ Below w.heap.size w w'
theorem bit_all : ∀ p : Nat, p < 32 → ∀ j, j < 5 → (bits BinOp.and IntKind.u8 ((p : Int) / 2 ^ j) 1 == 1) = (p / 2 ^ j % 2 == 1) := by decide +kernel
theorem bit_of (p k : Nat) (h : p < 32) : (bits BinOp.and IntKind.u8 ((p : Int) / 2 ^ (k % 5)) 1 == 1) = dBit p k := bit_all p h (k % 5) (by omega)
theorem told_aggD {B : Nat} {w : World} {g : Value} {word : List UInt8} {k err : Nat} (h : Told B w g word k err) : ∃ a n, g = .agg #[.slice a n n, .int .i64 err] := by
  rcases h with ⟨rfl, rfl⟩ | ⟨_, b, _, rfl, _⟩
  · exact ⟨none, 0, rfl⟩
  · exact ⟨_, 1, rfl⟩
theorem says_nilD {B : Nat} {w : World} {g : Value} {word : List UInt8} {p er : Nat} (h : Says B w g word p er) (he : er = 0) : g = .nilIface := by
  rcases h with ⟨_, h0⟩ | ⟨h0, _⟩
  · exact h0
  · exact absurd he h0
set_option maxHeartbeats 8000000 in
set_option maxRecDepth 100000 in
theorem exprDeep_walk (HPARSE : ParseSpec) (HKNOWN : KnownTSpec) (HTELLS : TellsESpec) (n p : Nat) (hn : n < 256) (hp : p < 256) (w : World) (hG : Glob w) (hT : Tab w) :
    Calls Tryz.prog 6 #[.int .u8 n, .int .u8 p] w fun e w' => e = .returned (.bool true) ∧ Below w.heap.size w w' := by
  have HKN := hide (HKNOWN w hG hT)
  have HG := hide hG
  have HPC := hide (And.intro HPARSE HTELLS)
  have HD := hide (deep_read (p / 8) (n % 30) (by omega) (by omega))
  clear HPARSE HKNOWN HTELLS hG hT
  go_enter Tryz.func6, Tryz.ntmps6
  go_wp2_with fail
  refine (unhide HKN).mono ?_
  rintro e w1 ⟨rfl, hb1⟩
  have H1 := hide hb1
  clear hb1 HKN
  have en : ((n : Int) % 30) = ((n % 30 : Nat) : Int) := by omega
  have ep : ((p : Int) / 8) = ((p / 8 : Nat) : Int) := by omega
  have hk0 : n % 30 < 30 := by omega
  have hp0 : p / 8 < 32 := by omega
  generalize hK : n % 30 = K at *
  generalize hP : p / 8 = P at *
  go_wp2_with fail
  go_loop [6, 7, 8] (fun s t i => ∃ k : Nat, k ≤ K ∧ i = .int .i64 k ∧ s = .string ⟨(dS P k).toArray⟩ ∧ t = .string ⟨(dE P k).toArray⟩) (fun _ _ i => K - (intOf i).toNat)
  case atStart => exact ⟨0, Nat.zero_le _, rfl, rfl, rfl⟩
  case round =>
    obtain ⟨k, hk, rfl, rfl, rfl⟩ := hrel
    by_cases hlt : k < K
    · have hlt2 : (k : Int) < K := by omega
      have hsl := dS_length P k
      have hel := dE_length P k
      have hd : (dS P k).length ≤ 30 := by omega
      have hd2 : (dE P k).length ≤ 30 := by omega
      have c1 : ∀ c : UInt8, (⟨(dS P k).toArray⟩ : ByteArray) ++ ⟨#[c]⟩ = ⟨(dS P k ++ [c]).toArray⟩ := fun c => cat2 _ [c]
      have c2 : (⟨(dE P k).toArray⟩ : ByteArray) ++ ⟨#[41]⟩ = ⟨(dE P k ++ [41]).toArray⟩ := cat2 _ [41]
      go_wp2_with fail
      · have hbit : dBit P k = true := by rw [← bit_of P k hp0]; assumption
        go_round
        case rel => exact ⟨k + 1, by omega, by go_num, by rw [dS_succ, hbit]; rfl, by rw [dE_succ, hbit]; simp⟩
        case measure => simp [intOf]; omega
      · have hbit : dBit P k = false := by rw [← bit_of P k hp0]; assumption
        go_round
        case rel => exact ⟨k + 1, by omega, by go_num, by rw [dS_succ, hbit]; rfl, by rw [dE_succ, hbit]; rfl⟩
        case measure => simp [intOf]; omega
    · have hkK : k = K := by omega
      subst hkK
      have hsl := dS_length P k
      have hel := dE_length P k
      have hd : (dS P k).length ≤ 30 := by omega
      have hd2 : (dE P k).length ≤ 30 := by omega
      have c1 : (⟨(dS P k).toArray⟩ : ByteArray) ++ ⟨#[120]⟩ = ⟨(dS P k ++ [120]).toArray⟩ := cat2 _ [120]
      have c2 : (⟨(dS P k ++ [120]).toArray⟩ : ByteArray) ++ ⟨(dE P k).toArray⟩ = ⟨(dT P k).toArray⟩ := cat2 _ _
      have hd3 : (dS P k ++ [120]).length ≤ 31 := by simp; omega
      have hd4 : (dT P k).length ≤ 100 := by simp [dT]; omega
      obtain ⟨d1, d2, x, s, hr, hbig, hsmall⟩ := unhide HD
      have HR := hide (And.intro hr (And.intro hbig hsmall))
      have HTOK := hide (refToks_any (dT P k) (by omega))
      rw [d1, d2] at HTOK
      have hcnt : (Words.toks (dT P k)).1.length ≤ 100 := by have := toks_countW (dT P k); omega
      clear hr hbig hsmall d1 d2 HD
      generalize (Words.toks (dT P k)).1 = T at *
      generalize dT P k = tt at *
      generalize dS P k ++ [120] = t1 at *
      go_wp2_with fail
      refine (unhide HTOK _).mono ?_
      rintro e w2 ⟨u, g3, rfl, ho2, ht2, hb2⟩
      obtain ⟨ga, gn, rfl⟩ := told_aggD ht2
      have ba := alloc_below w2 (.cells #[.slice ga gn gn, .int .i64 ((0 : Nat) : Int)] WrT)
      have H2 := hide (And.intro (ho2.below ba) (bthen (bthen (unhide H1) hb2) ba))
      obtain ⟨a3, c3, rfl⟩ := ho2.tks.shape
      clear ho2 ht2 hb2 ba
      go_wp2_with fail
      generalize w2.alloc (.cells #[.slice ga gn gn, .int .i64 ((0 : Nat) : Int)] WrT) = W2 at *
      refine (to_any _ T W2 (unhide H2).1.tks (by omega)).mono ?_
      rintro e w3 ⟨v, rfl, ho3, hb3⟩
      have H3 := hide (And.intro ho3 hb3)
      obtain ⟨a4, c4, rfl⟩ := ho3.tks.shape
      clear ho3 hb3
      go_wp2_with fail
      refine ((unhide HPC).1 T _ w3 (by omega) (unhide H3).1.tks (unhide H3).1.ownLt).mono ?_
      rintro e w4 ⟨x4, s4, sx, f4, hr4, rfl, hf4, hs4, hb4⟩
      have hdet := Ex.RExpr.det hr4 (unhide HR).1
      injection hdet with e1 e2
      subst e1 e2
      obtain ⟨xa, xc, rfl⟩ := hf4.shape
      have hrest := (unhide HR).2
      clear hr4 HR
      generalize hXX : ansE x4 s4 = X at *
      generalize hNN : ansN s4 = N at *
      generalize hxn : X.a.length = xn at *
      have ba4 := alloc_below w4 (.cells #[.int .i64 X.kind, .int .i64 X.n, .string ⟨X.name.toArray⟩, .slice xa xn xc] PET)
      have hbx := box_new w4 X (.slice xa xn xc) PET
      have HW := hide (And.intro (hs4.below ba4) (And.intro hbx (bthen (bthen (unhide H2).2 (unhide H3).2) (bthen hb4 ba4))))
      clear hs4 ba4 hbx hb4 hf4
      by_cases hbig : 20 < k
      · obtain ⟨q1, q2⟩ := hrest.1 hbig
        have hN : N = 0 := by rw [← hNN]; exact if_neg (by omega)
        rw [q1, q2] at HW
        subst hN
        have hb20 : (20 : Int) < k := by omega
        clear hrest q1 q2 hxn hXX hNN
        go_wp2_with fail
        generalize w4.alloc (.cells #[.int .i64 X.kind, .int .i64 X.n, .string ⟨X.name.toArray⟩, .slice xa xn xc] PET) = W4 at *
        refine (at_any wExpr 20 4 W4).mono ?_
        rintro e w5 ⟨b5, rfl, hb5, d0, d1, hB5⟩
        have HTL := hide ((unhide HPC).2 w5 f4 _ 20 4 _ W4.heap.size ((unhide HG).below (bthen (unhide HW).2.2 hB5)) ((unhide HW).1.below hB5) (.inr ⟨by decide, b5, hb5, rfl, d0, d1⟩))
        have H5 := hide (bthen (unhide HW).2.2 hB5)
        clear hB5 d0 d1 hb5 HW
        go_wp2_with fail
        refine (unhide HTL).mono ?_
        rintro e w6 ⟨rfl, hb6⟩
        have H6 := hide (bthen (unhide H5) hb6)
        clear hb6
        go_wp2
        go_ret
        exact ⟨rfl, unhide H6⟩
      · obtain ⟨q1, q2, q3⟩ := hrest.2 hbig
        have hN : N = T.length := by rw [← hNN]; exact (if_pos q1).trans q2
        have hX : X = x4 := by rw [← hXX]; exact if_pos q1
        rw [q1] at HW
        have hg := says_nilD (unhide HW).1 rfl
        subst hN hg
        subst hX
        have hk2 : (2 : Int) ≤ X.kind := q3
        have hb20 : ¬ (20 : Int) < k := by omega
        clear hrest q1 q2 q3 hxn hXX hNN
        go_wp2_with fail
        generalize w4.alloc (.cells #[.int .i64 X.kind, .int .i64 X.n, .string ⟨X.name.toArray⟩, .slice xa xn xc] PET) = W4 at *
        go_ret
        exact ⟨rfl, (unhide HW).2.2⟩
end Go.Proofs.YtbpmfkikhackfaaGreatDoor.Line
