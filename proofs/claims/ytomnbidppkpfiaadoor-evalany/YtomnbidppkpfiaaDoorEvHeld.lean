/- The contracts of eval.held, value. -/
import Derived.Test.YtomnbidppkpfiaaDoorEvValue
namespace Go.Proofs.YtomnbidppkpfiaaDoor.Line
open Go.ChangeShapes Go.WideShapes Go.ChangeAt Go.RowKit
open Ex (E)
open Ev (Sy Res)
set_option linter.unusedVariables false

theorem says_mono {B B' : Nat} {w : World} {f : Value} {word : List UInt8} {k err : Nat} (h : Says B w f word k err) (hB : B' ≤ B) : Says B' w f word k err := by
  rcases h with h | ⟨h0, b, h1, h2⟩
  · exact .inl h
  · exact .inr ⟨h0, b, Nat.le_trans hB h1, h2⟩
set_option maxHeartbeats 4000000 in
theorem held_any (w : World) (sv : Value) (c : Int) (T : List Sy) (stv : Value) (s : List Int) (name : List UInt8) (lv : Value) (l : List Int) (hs : Syms w sv T) (ht : Ev.Fine T) (hst : Ints w stv s) (hsl : s.length ≤ 1000000) (hl : Ints w lv l) (hn : l.length ≤ 1000000) :
    Calls Tryd.prog 46 #[.agg #[sv, .int .i64 c], stv, .string ⟨name.toArray⟩, lv] w fun e w' => ∃ f, e = .returned (.tuple #[.int .i64 (Ev.heldP T s name l).v, f]) ∧ Says w.heap.size w' f (Ev.heldP T s name l).word (Ev.heldP T s name l).at_ (Ev.heldP T s name l).err ∧ Below w.heap.size w w' := by
  have ha := alloc_below w (.cells #[sv, .int .i64 c] TbT)
  have HC := hide (cell_any _ sv c T name lv l (hs.below ha) ht (hl.below ha) hn)
  have HST := hide (hst.below ha)
  have HR : Hid (Ev.heldP T s name l = if (Ev.cellP T name l).err ≠ 0 then .bad (Ev.cellP T name l).word (Ev.cellP T name l).at_ (Ev.cellP T name l).err else if (Ev.cellP T name l).v < 0 ∨ (s.length : Int) ≤ (Ev.cellP T name l).v then .ok 0 else .ok (s.getD (Ev.cellP T name l).v.toNat 0)) := hide rfl
  obtain ⟨sa, sc, rfl⟩ := hs.shape
  obtain ⟨ta, tc, rfl⟩ := hst.shape
  obtain ⟨la, lc, rfl⟩ := hl.shape
  clear hs hl hst ha ht
  generalize Ev.heldP T s name l = R at *
  generalize Ev.cellP T name l = C at *
  obtain ⟨cv, cw, ca, ce⟩ := C
  dsimp only at HC HR
  generalize hTn : T.length = tn at *
  generalize hln : l.length = ln at *
  generalize hsn : s.length = sn at *
  go_enter Tryd.func46, Tryd.ntmps46
  go_wp2_with fail
  refine (unhide HC).mono ?_
  rintro ev w1 ⟨f, rfl, hf, hb1⟩
  have hbw : Below w.heap.size w w1 := bthen (alloc_below w _) hb1
  have hST := (unhide HST).below hb1
  have hz : w.heap.size ≤ (w.alloc (.cells #[.slice sa tn sc, .int .i64 c] TbT)).heap.size := by simp
  have HF := hide (says_mono hf hz)
  have HB := hide hbw
  clear HC HST hb1 hbw hz
  rcases hf with ⟨h0, rfl⟩ | ⟨h0, bb, _, rfl, _, _, _⟩
  · rw [if_neg (by omega)] at HR
    subst h0
    by_cases g1 : cv < 0
    · have q1 : decide (cv < 0) = true := decide_eq_true g1
      rw [if_pos (.inl g1)] at HR
      go_wp2_with fail
      go_ret2
      exact ⟨_, by rw [unhide HR]; rfl, by rw [unhide HR]; exact says_none _ _ _ _, unhide HB⟩
    · have q1 : decide (cv < 0) = false := decide_eq_false g1
      by_cases g2 : (sn : Int) ≤ cv
      · have q2 : decide ((sn : Int) ≤ cv) = true := decide_eq_true g2
        rw [if_pos (.inr g2)] at HR
        go_wp2_with fail
        go_ret2
        exact ⟨_, by rw [unhide HR]; rfl, by rw [unhide HR]; exact says_none _ _ _ _, unhide HB⟩
      · have q2 : decide ((sn : Int) ≤ cv) = false := decide_eq_false g2
        rw [if_neg (by omega)] at HR
        obtain ⟨k, rfl⟩ := Int.eq_ofNat_of_zero_le (show 0 ≤ cv by omega)
        have hk : k < s.length := by omega
        have HR2 : Hid (R = .ok s[k]) := hide (by rw [unhide HR]; simp [hk])
        obtain ⟨b, off, cap, hv, hc1, hc2, hcl⟩ := hST.at (by omega)
        injection hv with hv1 hv2 hv3
        subst hv1
        have ck := hcl k hk
        clear hcl HR hST hv2 hv3
        generalize s[k] = y at *
        have hk3 : (k : Int) < sn := by omega
        go_wp2_with fail
        go_ret2
        exact ⟨_, by rw [unhide HR2]; rfl, by rw [unhide HR2]; exact says_none _ _ _ _, unhide HB⟩
  · rw [if_pos h0] at HR
    go_wp2_with fail
    go_ret2
    exact ⟨_, by rw [unhide HR]; rfl, by rw [unhide HR]; exact unhide HF, unhide HB⟩
end Go.Proofs.YtomnbidppkpfiaaDoor.Line
