/- The contract of the law's store. -/
import Derived.Test.YtomnbidppkpfiaaDoorEvSto
namespace Go.Proofs.YtomnbidppkpfiaaDoor.Line
open Go.ChangeShapes Go.WideShapes Go.ChangeAt Go.RowKit
open Ex (E)
open Ev (Sy Res)
set_option linter.unusedVariables false

/-- the first i numbers are there -/
def mixP (N : Nat) (l : List Int) (i : Nat) : List Int := (List.range N).map fun k => if k < i then l.getD k 0 else 0
theorem mixP_len (N : Nat) (l : List Int) (i : Nat) : (mixP N l i).length = N := by simp [mixP]
theorem mixP_zero (N : Nat) (l : List Int) : mixP N l 0 = List.replicate N 0 := by
  apply List.ext_getElem
  · simp [mixP]
  · intro i h1 h2; simp [mixP]
theorem mixP_set (N : Nat) (l : List Int) (i : Nat) (h : i < l.length) : (mixP N l i).set i l[i] = mixP N l (i + 1) := by
  apply List.ext_getElem
  · simp [mixP]
  · intro k h1 h2
    rw [List.getElem_set]
    simp only [mixP, List.getElem_map, List.getElem_range]
    by_cases e : i = k
    · subst e; simp [h]
    · rw [if_neg e]
      by_cases e2 : k < i
      · rw [if_pos e2, if_pos (by omega)]
      · rw [if_neg e2, if_neg (by omega)]
theorem mixP_end (N : Nat) (l : List Int) (i : Nat) (h : N ≤ i ∨ l.length ≤ i) : mixP N l i = stoP N l := by
  apply List.ext_getElem
  · simp [mixP, stoP]
  · intro k h1 h2
    simp only [mixP, stoP, List.getElem_map, List.getElem_range]
    rw [mixP_len] at h1
    by_cases e : k < i
    · rw [if_pos e]
    · rw [if_neg e, List.getD_eq_getElem?_getD, List.getElem?_eq_none (by omega)]; rfl
set_option maxHeartbeats 8000000 in
set_option maxRecDepth 100000 in
theorem store_any (w : World) (sv : Value) (N : Nat) (lv : Value) (l : List Int) (hN : N ≤ 100000) (hl : Ints w lv l) (hsv : ∃ a n c, sv = .slice a n c) :
    Calls Tryd.prog 10 #[.agg #[sv, .int .i64 N], lv] w fun e w' => ∃ q, e = .returned (.slice (some ⟨q, 0, none⟩) N N) ∧ Ints w' (.slice (some ⟨q, 0, none⟩) N N) (stoP N l) ∧ Below w.heap.size w w' := by
  have al := alloc_below w (.cells #[sv, .int .i64 N] RTb)
  obtain ⟨Z, hr, hI, hfz⟩ := make_store (w.alloc (.cells #[sv, .int .i64 N] RTb)) N hN
  have al2 := alloc_below (w.alloc (.cells #[sv, .int .i64 N] RTb)) (.cells Z INT)
  have hz : (w.alloc (.cells #[sv, .int .i64 N] RTb)).heap.size = w.heap.size + 1 := by simp
  rw [hz] at hr hI hfz
  have HOL := hide hl
  have HL := hide (hl.below (bthen al al2))
  have HB := hide (bthen al al2)
  obtain ⟨sa, sn, sc, rfl⟩ := hsv
  obtain ⟨la, lc, rfl⟩ := hl.shape
  have hln : l.length ≤ 9223372036854775807 := by obtain ⟨_, cap, _, h2, h3, _⟩ := hl; unfold maxLen at h3; omega
  generalize hlen : l.length = n at *
  have HLEN := hide hlen
  clear hl al al2 hz hlen
  rw [← mixP_zero N l] at hI
  generalize (w.alloc (.cells #[.slice sa sn sc, .int .i64 N] RTb)).alloc (.cells Z INT) = W0 at *
  have HI := hide hI
  have HFZ := hide hfz
  clear hI hfz
  go_enter Tryd.func10, Tryd.ntmps10
  go_wp2_with fail
  clear hr
  go_loopw [6] (fun q wr => ∃ i : Nat, i ≤ N ∧ i ≤ n ∧ q = .int .i64 i ∧ Hid (Ints wr (.slice (some ⟨w.heap.size + 1, 0, none⟩) N N) (mixP N l i)) ∧ Hid (∀ o, wr.frozen? ⟨w.heap.size + 1, o, none⟩ = false) ∧ Hid (Below w.heap.size w wr) ∧ Hid (∀ b o, b ≠ w.heap.size + 1 → wr.cell? ⟨b, o, none⟩ = W0.cell? ⟨b, o, none⟩)) (fun q _ => N - (intOf q).toNat)
  case atStart => exact ⟨0, by omega, by omega, rfl, HI, HFZ, HB, hide (fun _ _ _ => rfl)⟩
  case round =>
    obtain ⟨i, hi1, hi2, rfl, HIM, HFM, HBM, HCM⟩ := hrel
    by_cases hlt : i < N
    · have q1 : decide ((i : Int) < N) = true := decide_eq_true (by omega)
      have hlt' : (i : Int) < N := by omega
      by_cases hlt2 : i < n
      · have q2 : decide ((i : Int) < n) = true := decide_eq_true (by omega)
        have hlt2' : (i : Int) < n := by omega
        have hil : i < l.length := by rw [unhide HLEN]; exact hlt2
        obtain ⟨b, off, cap, hv, hc, hm, hcl⟩ := (unhide HL).at (by omega)
        injection hv with e1 e2 e3
        subst e1
        subst e3
        have hne : b ≠ w.heap.size + 1 := by
          obtain ⟨b2, off2, cap2, hv2, _, _, hcl2⟩ := (unhide HOL).at (by omega)
          injection hv2 with f1 _ _
          injection f1 with f1
          injection f1 with f1 _
          have := cell_lt (hcl2 i hil)
          omega
        have c1 := (unhide HCM b (off + i) hne).trans (hcl i hil)
        obtain ⟨hset, hcell⟩ := ints_set (unhide HIM) i hlt l[i]
        rw [mixP_set N l i hil] at hset
        have hf := unhide HFM i
        have HSET := hide hset
        clear hset hcl e2 hc hm
        generalize l[i] = y at *
        go_wp2_with fail
        go_roundw
        case rel => exact ⟨i + 1, by omega, by omega, by go_num, HSET, hide (fun o => (World.frozen?_setCell _ _ _ _).trans (unhide HFM o)), hide ((unhide HBM).setCell (p := ⟨w.heap.size + 1, i, none⟩) (Nat.le_succ _) _), hide (fun b o h => (World.cell?_of_block (a := ⟨b, o, none⟩) (Below.heap_setCell _ _ _ _ (show b ≠ w.heap.size + 1 from h))).trans (unhide HCM b o h))⟩
        case measure => simp [intOf]; omega
      · have q2 : decide ((i : Int) < n) = false := decide_eq_false (by omega)
        have hend := mixP_end N l i (.inr (by rw [unhide HLEN]; omega))
        have HE := hide (hend ▸ unhide HIM)
        clear hend
        go_wp2_with fail
        go_ret
        exact ⟨_, rfl, unhide HE, unhide HBM⟩
    · have q1 : decide ((i : Int) < N) = false := decide_eq_false (by omega)
      have hend := mixP_end N l i (.inl (by omega))
      have HE := hide (hend ▸ unhide HIM)
      clear hend
      go_wp2_with fail
      go_ret
      exact ⟨_, rfl, unhide HE, unhide HBM⟩
end Go.Proofs.YtomnbidppkpfiaaDoor.Line
