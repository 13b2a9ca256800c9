/- The contract of eval.value. -/
import Derived.Test.YtomnbidppkpfiaaDoorEvHeld
namespace Go.Proofs.YtomnbidppkpfiaaDoor.Line
open Go.ChangeShapes Go.WideShapes Go.ChangeAt Go.RowKit
open Ex (E)
open Ev (Sy Res)
set_option linter.unusedVariables false

theorem ret_err {a b : Int} {f : Value} (h : a = b) : Ending.returned (.tuple #[.int .i64 a, f]) = .returned (.tuple #[.int .i64 b, f]) := by rw [h]
/-- what value answers -/
abbrev ValPost (w : World) (R : Res) : Ending → World → Prop := fun e w' => ∃ f, e = .returned (.tuple #[.int .i64 R.v, f]) ∧ Says w.heap.size w' f R.word R.at_ R.err ∧ Below w.heap.size w w'
set_option maxHeartbeats 8000000 in
set_option maxRecDepth 100000 in
theorem value_any (w : World) (sv : Value) (c : Int) (T : List Sy) (stv : Value) (s : List Int) (b o : Nat) (x : E) (sx : Value) (lv : Value) (l : List Int) (hs : Syms w sv T) (ht : Ev.Fine T) (hst : Ints w stv s) (hsl : s.length ≤ 1000000) (hx : At w b o x sx) (hl : Ints w lv l) (hn : l.length ≤ 1000000) :
    Calls Tryd.prog 31 #[.agg #[sv, .int .i64 c], stv, .pointer (some ⟨b, o, none⟩), lv] w fun e w' => ∃ f, e = .returned (.tuple #[.int .i64 (Ev.valP T s x l).v, f]) ∧ Says w.heap.size w' f (Ev.valP T s x l).word (Ev.valP T s x l).at_ (Ev.valP T s x l).err ∧ Below w.heap.size w w' := by
  have ha := alloc_below w (.cells #[sv, .int .i64 c] TbT)
  have HX := hide (hx.below ha)
  have HFT := hide (firstTwo_any _ lv l (hl.below ha))
  have HH : Hid (∀ n, Calls Tryd.prog 46 #[.agg #[sv, .int .i64 c], stv, .string ⟨x.name.toArray⟩, lv] ((w.alloc (.cells #[sv, .int .i64 c] TbT)).drewN n) fun e w' => ∃ f, e = .returned (.tuple #[.int .i64 (Ev.heldP T s x.name l).v, f]) ∧ Says w.heap.size w' f (Ev.heldP T s x.name l).word (Ev.heldP T s x.name l).at_ (Ev.heldP T s x.name l).err ∧ Below w.heap.size w w') := hide (fun n => by
    have hb := below_drewN ha n
    refine (held_any _ sv c T stv s x.name lv l (hs.below hb) ht (hst.below hb) hsl (hl.below hb) hn).mono ?_
    rintro e w' ⟨f, h1, h2, h3⟩
    exact ⟨f, h1, says_mono h2 hb.size, bthen hb h3⟩)
  have HQ : Hid (∀ W, Below w.heap.size w W → Calls Tryd.prog 47 #[.int .i64 (Ev.nth l 0), .int .i64 (Ev.nth l 1)] W fun e w' => ∃ f, e = .returned (.tuple #[.int .i64 (Ev.quoP (Ev.nth l 0) (Ev.nth l 1)).v, f]) ∧ Says w.heap.size w' f (Ev.quoP (Ev.nth l 0) (Ev.nth l 1)).word (Ev.quoP (Ev.nth l 0) (Ev.nth l 1)).at_ (Ev.quoP (Ev.nth l 0) (Ev.nth l 1)).err ∧ Below w.heap.size w w') := hide (fun W hb => by
    refine (quotient_any W _ _).mono ?_
    rintro e w' ⟨f, h1, h2, h3⟩
    exact ⟨f, h1, says_mono h2 hb.size, bthen hb h3⟩)
  have HB := hide ha
  obtain ⟨sa, sc, rfl⟩ := hs.shape
  obtain ⟨ta, tc, rfl⟩ := hst.shape
  obtain ⟨la, lc, rfl⟩ := hl.shape
  have HR : Hid (Ev.valP T s x l = if x.kind = 1 then .ok x.n else if x.kind = 2 ∨ x.kind = 3 then Ev.heldP T s x.name l else if x.kind = 4 then .ok (wrap64 (-(Ev.nth l 0))) else if x.kind = 5 then .ok (wrap64 (Ev.nth l 0 + Ev.nth l 1)) else if x.kind = 6 then .ok (wrap64 (Ev.nth l 0 - Ev.nth l 1)) else if x.kind = 7 then .ok (wrap64 (Ev.nth l 0 * Ev.nth l 1)) else if x.kind = 8 then Ev.quoP (Ev.nth l 0) (Ev.nth l 1) else .ok 0) := hide rfl
  clear hs hl hst ha ht hx
  generalize Ev.valP T s x l = R at *
  generalize Ev.heldP T s x.name l = H at *
  generalize Ev.quoP (Ev.nth l 0) (Ev.nth l 1) = Q at *
  generalize Ev.nth l 0 = n0 at *
  generalize Ev.nth l 1 = n1 at *
  generalize hTn : T.length = tn at *
  generalize hln : l.length = ln at *
  generalize hsn : s.length = sn at *
  have HXX := HX
  obtain ⟨x0, x1, x2, x3⟩ := unhide HXX
  have hkn : ∃ k, k = x.kind := ⟨_, rfl⟩
  obtain ⟨k, hk⟩ := hkn
  rw [← hk] at x0 HR
  generalize x.name = nm at *
  generalize x.n = xn at *
  clear hk HX HXX
  by_cases k1 : k = 1
  · subst k1
    rw [if_pos rfl] at HR
    go_enter Tryd.func31, Tryd.ntmps31
    go_wp2_with (go_at_call 45; refine (unhide HFT).mono ?_; rintro ev w1 ⟨rfl, rfl⟩)
    go_ret2
    exact ⟨_, by rw [unhide HR]; rfl, by rw [unhide HR]; exact says_none _ _ _ _, unhide HB⟩
  rw [if_neg k1] at HR
  by_cases k2 : k = 2 ∨ k = 3
  · rw [if_pos k2] at HR
    rcases k2 with rfl | rfl
    all_goals
      go_enter Tryd.func31, Tryd.ntmps31
      go_wp2_with (go_at_call 45; refine (unhide HFT).mono ?_; rintro ev w1 ⟨rfl, rfl⟩)
      go_region_with (go_at_call 46; refine (unhide HH _).mono ?_; rintro ev w5 ⟨f5, rfl, hf5, hb5⟩; have HF5 := hide hf5; have HB5 := hide hb5; clear hf5 hb5)
      all_goals
        go_wp2
        go_ret2
        exact ⟨_, by rw [unhide HR]; rfl, by rw [unhide HR]; exact unhide HF5, unhide HB5⟩
  have k2a : ¬ k = 2 := fun h => k2 (.inl h)
  have k3 : ¬ k = 3 := fun h => k2 (.inr h)
  rw [if_neg k2] at HR
  clear k2
  by_cases k4 : k = 4
  · subst k4
    rw [if_pos rfl] at HR
    go_enter Tryd.func31, Tryd.ntmps31
    go_wp2_with (go_at_call 45; refine (unhide HFT).mono ?_; rintro ev w1 ⟨rfl, rfl⟩)
    go_ret2
    exact ⟨_, by rw [unhide HR]; exact ret_err (by first | rfl | (simp only [Res.ok]; unfold wrap64; omega)), by rw [unhide HR]; exact says_none _ _ _ _, unhide HB⟩
  rw [if_neg k4] at HR
  by_cases k5 : k = 5
  · subst k5
    rw [if_pos rfl] at HR
    go_enter Tryd.func31, Tryd.ntmps31
    go_wp2_with (go_at_call 45; refine (unhide HFT).mono ?_; rintro ev w1 ⟨rfl, rfl⟩)
    go_ret2
    exact ⟨_, by rw [unhide HR]; exact ret_err (by first | rfl | (simp only [Res.ok]; unfold wrap64; omega)), by rw [unhide HR]; exact says_none _ _ _ _, unhide HB⟩
  rw [if_neg k5] at HR
  by_cases k6 : k = 6
  · subst k6
    rw [if_pos rfl] at HR
    go_enter Tryd.func31, Tryd.ntmps31
    go_wp2_with (go_at_call 45; refine (unhide HFT).mono ?_; rintro ev w1 ⟨rfl, rfl⟩)
    go_ret2
    exact ⟨_, by rw [unhide HR]; exact ret_err (by first | rfl | (simp only [Res.ok]; unfold wrap64; omega)), by rw [unhide HR]; exact says_none _ _ _ _, unhide HB⟩
  rw [if_neg k6] at HR
  by_cases k7 : k = 7
  · subst k7
    rw [if_pos rfl] at HR
    go_enter Tryd.func31, Tryd.ntmps31
    go_wp2_with (go_at_call 45; refine (unhide HFT).mono ?_; rintro ev w1 ⟨rfl, rfl⟩)
    go_ret2
    exact ⟨_, by rw [unhide HR]; exact ret_err (by first | rfl | (simp only [Res.ok]; unfold wrap64; omega)), by rw [unhide HR]; exact says_none _ _ _ _, unhide HB⟩
  rw [if_neg k7] at HR
  by_cases k8 : k = 8
  · subst k8
    rw [if_pos rfl] at HR
    have HQ2 := hide (unhide HQ _ (unhide HB))
    go_enter Tryd.func31, Tryd.ntmps31
    go_wp2_with (first | (go_at_call 45; refine (unhide HFT).mono ?_; rintro ev w1 ⟨rfl, rfl⟩) | (go_at_call 47; refine (unhide HQ2).mono ?_; rintro ev w5 ⟨f5, rfl, hf5, hb5⟩; have HF5 := hide hf5; have HB5 := hide hb5; clear hf5 hb5))
    go_ret2
    exact ⟨_, by rw [unhide HR]; rfl, by rw [unhide HR]; exact unhide HF5, unhide HB5⟩
  rw [if_neg k8] at HR
  go_enter Tryd.func31, Tryd.ntmps31
  go_wp2_with (go_at_call 45; refine (unhide HFT).mono ?_; rintro ev w1 ⟨rfl, rfl⟩)
  go_ret2
  exact ⟨_, by rw [unhide HR]; exact ret_err (by first | rfl | (simp only [Res.ok]; unfold wrap64; omega)), by rw [unhide HR]; exact says_none _ _ _ _, unhide HB⟩
end Go.Proofs.YtomnbidppkpfiaaDoor.Line
