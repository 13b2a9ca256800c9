/- The contract of the project's Diff. -/
import Derived.Test.YtcfbigkmhboepaaDoorBeginD
import Derived.Test.YtcfbigkmhboepaaDoorFinishD
import Derived.Test.YtcfbigkmhboepaaDoorCopyD
import Derived.Test.YtcfbigkmhboepaaDoorBacks
import Derived.Test.YtcfbigkmhboepaaDoorSliceW
namespace Go.Proofs.YtcfbigkmhboepaaDoor.Line
open Go.ChangeShapes Go.WideShapes Go.ChangeAt Go.RowKit
set_option linter.unusedVariables false

/-- the edits between two rows -/
def IsDiff (A B : List (List UInt8)) (D : List RawE) : Prop :=
  (A = B ∧ D = []) ∨ (A ≠ B ∧ ∃ p q, Edits.IsHead A B p ∧ Edits.IsTail A B p q ∧ D = [raw ⟨p, A.length - q, (B.drop p).take (B.length - q - p)⟩])
theorem IsDiff.unique {A B : List (List UInt8)} {D D' : List RawE} (h : IsDiff A B D) (h' : IsDiff A B D') : D = D' := by
  rcases h with ⟨h1, rfl⟩ | ⟨h1, p, q, h2, h3, rfl⟩
  · rcases h' with ⟨_, rfl⟩ | ⟨k1, _⟩
    · rfl
    · exact absurd h1 k1
  · rcases h' with ⟨k1, _⟩ | ⟨k1, p', q', k2, k3, rfl⟩
    · exact absurd k1 h1
    · obtain rfl := h2.unique k2
      obtain rfl := h3.unique k3
      rfl

theorem ownE_one {B : Nat} {w : World} {f t : Int} {A : Option Addr} {n C : Nat} {ls : List (List UInt8)} (hb : B ≤ w.heap.size) (h : Row w (.slice A n C) ls) : OwnE 50 B (w.alloc (.cells #[.int .i64 f, .int .i64 t, .slice A n C] 50)) (.slice (some ⟨w.heap.size, 0, none⟩) 1 1) [⟨f, t, ls⟩] :=
  ⟨[(⟨f, t, ls⟩, .slice A n C)], rfl, World.ownsRow_lit w #[.int .i64 f, .int .i64 t, .slice A n C] 1 hb (by decide) rfl, fun c hc => by rw [List.mem_singleton.1 hc]; exact h.below (alloc_below w _)⟩

set_option maxHeartbeats 4000000 in
set_option maxRecDepth 100000 in
theorem diff_any (u v : Value) (A B : List (List UInt8)) (w : World) (hu : Row w u A) (hv : Row w v B) (hA : A.length ≤ 1000000) (hB : B.length ≤ 1000000) : Calls Tryd.prog 21 #[u, v] w fun e w' =>
    ∃ x D, e = .returned x ∧ OwnE 50 w.heap.size w' x D ∧ IsDiff A B D ∧ Below w.heap.size w w' := by
  have HBG := hide (begin_any u v A B w hu hv hA hB)
  have HU := hide hu
  have HV := hide hv
  obtain ⟨o, c, rfl⟩ : ∃ a cap, u = .slice a A.length cap := by
    rcases hu with ⟨a, cap, rfl, rfl⟩ | ⟨b, off, cap, rfl, _⟩
    · exact ⟨_, _, rfl⟩
    · exact ⟨_, _, rfl⟩
  obtain ⟨o', c', rfl⟩ : ∃ a cap, v = .slice a B.length cap := by
    rcases hv with ⟨a, cap, rfl, rfl⟩ | ⟨b, off, cap, rfl, _⟩
    · exact ⟨_, _, rfl⟩
    · exact ⟨_, _, rfl⟩
  clear hu hv
  go_enter Tryd.func21, Tryd.ntmps21
  go_wp2_with fail
  refine (unhide HBG).mono ?_
  rintro e w1 ⟨p, rfl, hH, n, rfl⟩
  have hpA := hH.1
  have hpB := hH.2.1
  have HH := hide hH
  clear hH
  by_cases g : p = A.length ∧ p = B.length
  · obtain ⟨g1, g2⟩ := g
    have HQ : Hid (A = B) := hide (Edits.head_full (unhide HH) g1 g2)
    have q1 : ((p : Int) == (A.length : Int)) = true := by rw [beq_iff_eq]; omega
    have q2 : ((p : Int) == (B.length : Int)) = true := by rw [beq_iff_eq]; omega
    clear g1 g2
    go_wp2
    go_ret
    exact ⟨_, [], rfl, OwnE.nil _ _ _, .inl ⟨unhide HQ, rfl⟩, below_drewN (Below.refl _ _) n⟩
  · have HNE : Hid (A ≠ B) := hide (fun e => g (by subst e; have := Edits.head_same (unhide HH); exact ⟨this, this⟩))
    have key : (((p : Int) == (A.length : Int)) = true ∧ ((p : Int) == (B.length : Int)) = false) ∨ ((p : Int) == (A.length : Int)) = false := by
      simp only [beq_iff_eq, beq_eq_false_iff_ne]; omega
    clear g
    obtain ⟨sa, sc, hsa, hra⟩ := slice_restW (unhide HU) p hpA
    obtain ⟨sa', sc', hsb, hrb⟩ := slice_restW (unhide HV) p hpB
    obtain ⟨q, hq⟩ := tail_ex (A.drop p) (B.drop p)
    have HFI := hide (fun (W : World) (hW : ∃ m, W = w.drewN m) => show Calls Tryd.prog 30 #[.slice sa (A.length - p) sc, .slice sa' (B.length - p) sc'] W fun e w' => e = .returned (.int .i64 q) ∧ ∃ n, w' = W.drewN n from by
      obtain ⟨m, rfl⟩ := hW
      refine (finish_any _ _ (A.drop p) (B.drop p) (w.drewN m) (hra.drewN m) (hrb.drewN m) (by simp; omega) (by simp; omega)).mono ?_
      rintro e w' ⟨q', rfl, hq', k, rfl⟩
      obtain rfl := hq.unique hq'
      exact ⟨rfl, k, rfl⟩)
    have HT := hide (tail_from hpA hpB hq)
    have hqA := (unhide HT).1
    have hqB := (unhide HT).2.1
    clear hra hrb hq
    rcases key with ⟨q1, q2⟩ | q1
    all_goals (
      go_wp2_with fail
      generalize hlu : Value.slice o A.length c = lu at *
      generalize hlv : Value.slice o' B.length c' = lv at *
      have HLU := hide hlu
      have HLV := hide hlv
      clear hlu hlv
      generalize hW0 : w.drewN n = W0 at *
      have HW0 := hide hW0
      clear hW0
      go_quiet ((go_at_call 30; refine Calls.quiet_of (unhide HFI _ ⟨_, by rw [← unhide HW0, World.drewN_drewN]⟩)))
      obtain rfl := unhide HLU
      obtain rfl := unhide HLV
      clear HLU HLV hsa hsb
      obtain ⟨ax, cx, hlx, hcx, hrx⟩ := (unhide HV).cut p (B.length - q) (by omega) (by omega)
      injection hlx with hx1 hx2 hx3
      subst hx1
      subst hx3
      obtain ⟨r, hr⟩ : ∃ r, B.length - q = r := ⟨_, rfl⟩
      have er : (B.length : Int) - q = r := by omega
      have er2 : p ≤ r := by omega
      have er3 : r ≤ c' := by omega
      rw [hr] at hrx
      obtain ⟨t, ht⟩ : ∃ t, A.length - q = t := ⟨_, rfl⟩
      have et : (A.length : Int) - q = t := by omega
      have HRT := hide (And.intro hr ht)
      have HBW := hide (show Below w.heap.size w W0 from by rw [← unhide HW0]; exact below_drewN (Below.refl _ _) n)
      rcases Decidable.em (c' = p) with hcp | hcp
      all_goals first | rw [if_pos hcp, show c' - p = 0 by omega] at hrx | rw [if_neg hcp] at hrx
      all_goals (
        have HCP := hide (fun (W : World) (h : Below w.heap.size w W) => copied_any _ _ W (hrx.below h) (by simp; omega))
        clear hrx hr ht hx2
        go_wp2_with (go_at_call 26; refine (unhide HCP _ (below_drewN (unhide HBW) nq)).mono ?_; rintro e w3 ⟨cu, rfl, hco, hcB⟩; obtain ⟨A1, C1, rfl⟩ := hco.shape; generalize hn1 : ((B.drop p).take (r - p)).length = n1 at hco; clear hn1; have H3 := hide (And.intro hco hcB); clear hco hcB)
        go_ret
        obtain ⟨hco, hcB⟩ := unhide H3
        have y3 : Below w.heap.size w w3 := (below_drewN (unhide HBW) nq).trans (hcB.mono (by exact (unhide HBW).size))
        exact ⟨_, _, rfl, ownE_one y3.size hco.row, .inr ⟨unhide HNE, p, q, unhide HH, unhide HT, by rw [(unhide HRT).1, (unhide HRT).2]; rfl⟩, y3.alloc y3.size _⟩))
end Go.Proofs.YtcfbigkmhboepaaDoor.Line
