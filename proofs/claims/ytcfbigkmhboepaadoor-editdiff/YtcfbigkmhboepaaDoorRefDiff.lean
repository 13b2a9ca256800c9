/- The contract of the reference's Diff. -/
import Derived.Test.YtcfbigkmhboepaaDoorDiffD
import Derived.Deep.CutBlock
namespace Go.Proofs.YtcfbigkmhboepaaDoor.Line
open Go.ChangeShapes Go.WideShapes Go.ChangeAt Go.RowKit
set_option linter.unusedVariables false

theorem ownR_one {B : Nat} {w : World} {f t : Int} {A : Option Addr} {n C : Nat} {ls : List (List UInt8)} (hb : B ≤ w.heap.size) (h : Row w (.slice A n C) ls) : OwnE 54 B (w.alloc (.cells #[.int .i64 f, .int .i64 t, .slice A n C] 54)) (.slice (some ⟨w.heap.size, 0, none⟩) 1 1) [⟨f, t, ls⟩] :=
  ⟨[(⟨f, t, ls⟩, .slice A n C)], rfl, World.ownsRow_lit w #[.int .i64 f, .int .i64 t, .slice A n C] 1 hb (by decide) rfl, fun c hc => by rw [List.mem_singleton.1 hc]; exact h.below (alloc_below w _)⟩

set_option maxHeartbeats 8000000 in
set_option maxRecDepth 100000 in
theorem refDiff_ne (u v : Value) (A B : List (List UInt8)) (w : World) (hu : Row w u A) (hv : Row w v B) (hA : A.length ≤ 1000000) (hB : B.length ≤ 1000000) (hne : A ≠ B) : Calls Tryd.prog 22 #[u, v] w fun e w' =>
    ∃ x D, e = .returned x ∧ OwnE 54 w.heap.size w' x D ∧ IsDiff A B D ∧ Below w.heap.size w w' := by
  obtain ⟨p, hp⟩ := head_ex A B
  obtain ⟨q, hq0⟩ := tail_ex (A.drop p) (B.drop p)
  have hq := tail_from hp.1 hp.2.1 hq0
  clear hq0
  have HD : Hid (IsDiff A B [raw ⟨p, A.length - q, (B.drop p).take (B.length - q - p)⟩]) := hide (.inr ⟨hne, p, q, hp, hq, rfl⟩)
  have HS := hide (sameLines_ne u v A B w hu hv (by omega) (by omega) hne)
  have hpA := hp.1
  have hpB := hp.2.1
  have hqA := hq.1
  have hqB := hq.2.1
  have HP := hide hp
  have HQ := hide hq
  clear hp hq hne
  have HV := hide hv
  obtain ⟨o, c, rfl, h1⟩ := hu.arg
  obtain ⟨o', c', rfl, h2⟩ := hv.arg
  have H1 := hide h1
  have H2 := hide h2
  clear h1 h2 hu hv
  obtain ⟨nA, hnA⟩ : ∃ k, A.length - p = k := ⟨_, rfl⟩
  obtain ⟨nB, hnB⟩ : ∃ k, B.length - p = k := ⟨_, rfl⟩
  have enA : (A.length : Int) - p = nA := by omega
  have enB : (B.length : Int) - p = nB := by omega
  have fA : nA + p = A.length := by omega
  have fB : nB + p = B.length := by omega
  have HN := hide (And.intro fA fB)
  clear hnA hnB fA fB
  go_enter Tryd.func22, Tryd.ntmps22
  go_upto_block 0 with (go_at_call 19; refine (unhide HS).mono ?_; rintro e w2 ⟨rfl, n0, rfl⟩)
  go_cut [5] from 10 to 32 (fun x wx => x = .int .i64 p ∧ ∃ n, wx = w.drewN n)
  case first =>
    go_wp2_with fail
    go_loopw [5] (fun x wr => ∃ i : Nat, i ≤ p ∧ x = .int .i64 i ∧ ∃ n, wr = w.drewN n) (fun x _ => p - (intOf x).toNat)
    case atStart => exact ⟨0, Nat.zero_le _, rfl, n0, rfl⟩
    case round =>
      obtain ⟨i, hi, rfl, n, rfl⟩ := hrel
      by_cases hip : i < p
      · have g1 : i < A.length := by omega
        have g2 : i < B.length := by omega
        have q1 : decide (i < A.length) = true := decide_eq_true g1
        have q2 : decide (i < B.length) = true := decide_eq_true g2
        obtain ⟨b, off, rfl, c1⟩ := unhide H1 i g1
        obtain ⟨b', off', rfl, c2⟩ := unhide H2 i g2
        have g1' : (i : Int) < A.length := by omega
        have g2' : (i : Int) < B.length := by omega
        have hx : A[i] = B[i] := by
          have := (unhide HP).2.2.1 i hip
          rw [List.getElem?_eq_getElem g1, List.getElem?_eq_getElem g2] at this
          exact Option.some.inj this
        rw [← hx] at c2
        clear hx
        generalize A[i] = x at *
        go_wp2_with fail
        go_quiet (fail)
        go_wp2
        go_roundw
        case rel => exact ⟨i + 1, by omega, by go_num, _, rfl⟩
        case measure => simp [intOf]; omega
      · obtain rfl : i = p := by omega
        by_cases g1 : i < A.length
        · have q1 : decide (i < A.length) = true := decide_eq_true g1
          by_cases g2 : i < B.length
          · have q2 : decide (i < B.length) = true := decide_eq_true g2
            obtain ⟨b, off, rfl, c1⟩ := unhide H1 i g1
            obtain ⟨b', off', rfl, c2⟩ := unhide H2 i g2
            have g1' : (i : Int) < A.length := by omega
            have g2' : (i : Int) < B.length := by omega
            have hx : (A[i] == B[i]) = false := beq_eq_false_iff_ne.2 (fun h => (unhide HP).2.2.2 g1 g2 (by rw [List.getElem?_eq_getElem g1, List.getElem?_eq_getElem g2, h]))
            generalize A[i] = x at *
            generalize B[i] = y at *
            go_wp2_with fail
            go_quiet (fail)
            go_wp2
            go_meet
            case rel => exact ⟨rfl, _, World.drewN_drewN _ _ _⟩
          · have q2 : decide (i < B.length) = false := decide_eq_false g2
            go_wp2_with fail
            go_quiet (fail)
            go_wp2
            go_meet
            case rel => exact ⟨rfl, _, World.drewN_drewN _ _ _⟩
        · have q1 : decide (i < A.length) = false := decide_eq_false g1
          go_wp2_with fail
          go_quiet (fail)
          go_wp2
          go_meet
          case rel => exact ⟨rfl, _, World.drewN_drewN _ _ _⟩
  case rest =>
    obtain ⟨rfl, n1, rfl⟩ := hcut
    go_upto_block 2 with fail
    go_cut [6] from 33 to 67 (fun x wx => x = .int .i64 q ∧ ∃ n, wx = w.drewN n)
    case first =>
      go_wp2_with fail
      go_loopw [6] (fun x wr => ∃ j : Nat, j ≤ q ∧ x = .int .i64 j ∧ ∃ n, wr = w.drewN n) (fun x _ => q - (intOf x).toNat)
      case atStart => exact ⟨0, Nat.zero_le _, rfl, n1, rfl⟩
      case round =>
        obtain ⟨j, hj, rfl, n2, rfl⟩ := hrel
        have fAB := unhide HN
        by_cases hjq : j < q
        · have q1 : decide (j < nA) = true := decide_eq_true (by omega)
          have q2 : decide (j < nB) = true := decide_eq_true (by omega)
          obtain ⟨k1, hk1⟩ : ∃ k, A.length - 1 - j = k := ⟨_, rfl⟩
          obtain ⟨k2, hk2⟩ : ∃ k, B.length - 1 - j = k := ⟨_, rfl⟩
          have l1 : k1 < A.length := by omega
          have l2 : k2 < B.length := by omega
          obtain ⟨b, off, rfl, c1⟩ := unhide H1 k1 l1
          obtain ⟨b', off', rfl, c2⟩ := unhide H2 k2 l2
          have hx : A[k1] = B[k2] := by
            have := (unhide HQ).2.2.1 j hjq
            rw [hk1, hk2, List.getElem?_eq_getElem l1, List.getElem?_eq_getElem l2] at this
            exact Option.some.inj this
          rw [← hx] at c2
          clear hx
          generalize A[k1] = x at *
          have e1 : (A.length : Int) - 1 - j = k1 := by omega
          have e2 : (B.length : Int) - 1 - j = k2 := by omega
          have z1 : (k1 : Int) < A.length := by omega
          have z2 : (k2 : Int) < B.length := by omega
          clear hk1 hk2 l1 l2 fAB
          go_wp2_with fail
          go_quiet (fail)
          go_wp2
          go_roundw
          case rel => exact ⟨j + 1, by omega, by go_num, _, rfl⟩
          case measure => simp [intOf]; omega
        · obtain rfl : j = q := by omega
          by_cases g1 : j < nA
          · have q1 : decide (j < nA) = true := decide_eq_true g1
            by_cases g2 : j < nB
            · have q2 : decide (j < nB) = true := decide_eq_true g2
              obtain ⟨k1, hk1⟩ : ∃ k, A.length - 1 - j = k := ⟨_, rfl⟩
              obtain ⟨k2, hk2⟩ : ∃ k, B.length - 1 - j = k := ⟨_, rfl⟩
              have l1 : k1 < A.length := by omega
              have l2 : k2 < B.length := by omega
              obtain ⟨b, off, rfl, c1⟩ := unhide H1 k1 l1
              obtain ⟨b', off', rfl, c2⟩ := unhide H2 k2 l2
              have hx : (A[k1] == B[k2]) = false := beq_eq_false_iff_ne.2 (fun h => (unhide HQ).2.2.2 (by omega) (by omega) (by rw [hk1, hk2, List.getElem?_eq_getElem l1, List.getElem?_eq_getElem l2, h]))
              generalize A[k1] = x at *
              generalize B[k2] = y at *
              have e1 : (A.length : Int) - 1 - j = k1 := by omega
              have e2 : (B.length : Int) - 1 - j = k2 := by omega
              have z1 : (k1 : Int) < A.length := by omega
              have z2 : (k2 : Int) < B.length := by omega
              clear hk1 hk2 l1 l2 fAB
              go_wp2_with fail
              go_quiet (fail)
              go_wp2
              go_meet
              case rel => exact ⟨rfl, _, World.drewN_drewN _ _ _⟩
            · have q2 : decide (j < nB) = false := decide_eq_false g2
              clear fAB
              go_wp2_with fail
              go_quiet (fail)
              go_wp2
              go_meet
              case rel => exact ⟨rfl, _, World.drewN_drewN _ _ _⟩
          · have q1 : decide (j < nA) = false := decide_eq_false g1
            clear fAB
            go_wp2_with fail
            go_quiet (fail)
            go_wp2
            go_meet
            case rel => exact ⟨rfl, _, World.drewN_drewN _ _ _⟩
    case rest =>
      obtain ⟨rfl, n2, rfl⟩ := hcut
      obtain ⟨ax, cx, hlx, hcx, hrx⟩ := (unhide HV).cut p (B.length - q) (by omega) (by omega)
      injection hlx with hx1 hx2 hx3
      subst hx1
      subst hx3
      obtain ⟨r, hr⟩ : ∃ r, B.length - q = r := ⟨_, rfl⟩
      have er : (B.length : Int) - q = r := by omega
      have er2 : p ≤ r := by omega
      have er3 : r ≤ c' := by omega
      rw [hr] at hrx
      obtain ⟨t, ht⟩ : ∃ t, A.length - q = t := ⟨_, rfl⟩
      have et : (A.length : Int) - q = t := by omega
      have HDD := hide (show IsDiff A B [⟨p, t, (B.drop p).take (r - p)⟩] from by have := unhide HD; rw [hr, ht] at this; exact this)
      have hW1 : Below w.heap.size w (w.drewN n2) := below_drewN (Below.refl _ _) n2
      generalize w.drewN n2 = W1 at *
      rcases Decidable.em (c' = p) with hcp | hcp
      all_goals first | rw [if_pos hcp, show c' - p = 0 by omega] at hrx | rw [if_neg hcp] at hrx
      all_goals (
        have oa : Own w.heap.size (W1.alloc (.cells #[] 9)) (.slice (some ⟨W1.heap.size, 0, none⟩) 0 0) [] := World.ownsRow_lit W1 #[] 0 hW1.size (by decide) rfl
        have ya : Below w.heap.size w (W1.alloc (.cells #[] 9)) := hW1.alloc hW1.size _
        obtain ⟨v1, w1, hr1, ho1, hg1⟩ := append_row oa (hrx.below ya) ya.size (by simp; omega)
        rw [List.nil_append] at ho1
        have y1 := ya.grown hg1 ya.size (fun j hj => (World.ownsRow.lt oa j hj).1)
        obtain ⟨A1, C1, rfl⟩ := ho1.shape
        generalize hn1 : ((B.drop p).take (r - p)).length = n1 at *
        have H3 := hide (And.intro ho1 y1)
        clear hrx hr ht hx2 hn1 oa ya ho1 hg1 y1 hW1
        go_wp2_with (at_builtin; refine wpList_append_run rfl _ _ rfl rfl _ _ rfl rfl (.slice A1 n1 C1) w1 hr1 ?_)
        go_ret
        obtain ⟨ho1, y1⟩ := unhide H3
        exact ⟨_, _, rfl, ownR_one y1.size ho1.row, unhide HDD, y1.alloc y1.size _⟩)
theorem refDiff_any (u v : Value) (A B : List (List UInt8)) (w : World) (hu : Row w u A) (hv : Row w v B) (hA : A.length ≤ 1000000) (hB : B.length ≤ 1000000) : Calls Tryd.prog 22 #[u, v] w fun e w' =>
    ∃ x D, e = .returned x ∧ OwnE 54 w.heap.size w' x D ∧ IsDiff A B D ∧ Below w.heap.size w w' := by
  by_cases h : A = B
  · subst h
    refine (refDiff_same u v A w hu hv hA).mono ?_
    rintro e w' ⟨rfl, n, rfl⟩
    exact ⟨_, [], rfl, OwnE.nil _ _ _, .inl ⟨rfl, rfl⟩, below_drewN (Below.refl _ _) n⟩
  · exact refDiff_ne u v A B w hu hv hA hB h
end Go.Proofs.YtcfbigkmhboepaaDoor.Line
