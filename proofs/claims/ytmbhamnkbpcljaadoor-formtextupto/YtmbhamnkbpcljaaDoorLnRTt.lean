/- The contract of the reference's Text. -/
import Derived.Test.YtmbhamnkbpcljaaDoorLnRTx
namespace Go.Proofs.YtmbhamnkbpcljaaDoor.Line
open Go.ChangeShapes Go.WideShapes Go.ChangeAt Go.RowKit
set_option linter.unusedVariables false

theorem nameT_in {names : List (List UInt8)} {i : Nat} (h : i < names.length) (h2 : names[i] ≠ []) : nameT names i = names[i] := by
  have hg : names.getD i [] = names[i] := by simp [h]
  unfold nameT
  rw [if_pos ⟨h, fun e => h2 (hg.symm.trans e)⟩]
  exact hg
theorem nameT_empty {names : List (List UInt8)} {i : Nat} (h : i < names.length) (h2 : names[i] = []) : nameT names i = 120 :: Lib.decDigits i := by
  have hg : names.getD i [] = names[i] := by simp [h]
  unfold nameT
  rw [if_neg (fun e => e.2 (hg.trans h2))]
theorem nameT_out {names : List (List UInt8)} {i : Nat} (h : ¬ i < names.length) : nameT names i = 120 :: Lib.decDigits i := by
  unfold nameT
  rw [if_neg (fun e => h e.1)]
theorem isEmpty_no {l : List UInt8} (h : l ≠ []) : l.isEmpty = false := by
  cases l with
  | nil => exact absurd rfl h
  | cons => rfl

set_option maxHeartbeats 16000000 in
set_option maxRecDepth 100000 in
theorem refTextF_any (w : World) (av nv : Value) (a : List Int) (ka : Int) (names : List (List UInt8)) (NB : Nat) (ha : Ints w av a) (hr : Row w nv names) (ra : Rng a) (ia : In64 ka) (hn : a.length ≤ 90) (hm : names.length ≤ 1000) (hNB : ∀ x ∈ names, x.length ≤ NB) (hNN : NB ≤ 1000000000000) :
    Calls Tryd.prog 28 #[formV av ka, nv] w fun e w' => e = .returned (.string ⟨(textF a ka names).toArray⟩) ∧ Below w.heap.size w w' := by
  obtain ⟨aa, ac, rfl⟩ := ha.shape
  have HX0 := hide (Bx.new w (.slice aa a.length ac) (.int .i64 ka) RfT)
  have HW0 := hide (alloc_below w (.cells #[.slice aa a.length ac, .int .i64 ka] RfT))
  have HO := hide (And.intro ha hr)
  have HR := hide ra
  have HNB := hide hNB
  clear ha hr ra hNB
  generalize hna : a.length = n at *
  have HLS := hide hna
  clear hna
  obtain ⟨na, nc, rfl⟩ : ∃ x z, nv = .slice x names.length z := by
    rcases (unhide HO).2 with ⟨x, y, rfl, e⟩ | ⟨x, y, z, rfl, _⟩
    · exact ⟨_, _, by rw [e]; rfl⟩
    · exact ⟨_, _, rfl⟩
  generalize hnm : names.length = m at *
  have HLM := hide hnm
  clear hnm
  go_enter Tryd.func28, Tryd.ntmps28
  go_wp2_with fail
  generalize w.alloc (.cells #[.slice aa n ac, .int .i64 ka] RfT) = W0 at *
  go_loopw [5, 6] (fun s q wr => ∃ (i : Nat) (l : List UInt8), s = .string ⟨l.toArray⟩ ∧ q = .int .i64 i ∧ i ≤ n ∧ Hid (Below w.heap.size w wr ∧ Bx wr w.heap.size (.slice aa n ac) (.int .i64 ka)) ∧ Hid (textGo names 0 [] a = textGo names i l (a.drop i)) ∧ Hid (l.length ≤ i * (NB + 60))) (fun _ q _ => n - (intOf q).toNat)
  case atStart => exact ⟨0, [], rfl, rfl, Nat.zero_le _, hide ⟨unhide HW0, unhide HX0⟩, hide rfl, hide (by simp)⟩
  case round =>
    obtain ⟨i, l, rfl, rfl, hi, HA, HI, HLL⟩ := hrel
    clear HX0 HW0
    by_cases hlt : i < n
    · have hlt' : (i : Int) < (n : Int) := by omega
      have hn9 : n ≤ 9223372036854775807 := by omega
      have hi9 : i < 9223372036854775807 := by omega
      have hal := unhide HLS
      have ja : i < a.length := by omega
      have hbl := (unhide HA).1
      have ha2 := (unhide HO).1.below hbl
      have hx64 := (unhide HR).at ja
      have hstep := textGo_step (names := names) (i := i) (s := l) ja
      rw [← hal] at ha2
      obtain ⟨lb, lo, lcap, hv, _, _, hcl⟩ := ha2.at (by omega)
      injection hv with hv1 hv2 hv3
      subst hv1
      have cl := hcl i ja
      have HI2 := hide ((unhide HI).trans hstep)
      have HRW := hide ((unhide HO).2.below hbl)
      clear hcl hv2 hv3 ha2 hstep HI hbl
      generalize a[i]'ja = c at *
      have HC := hide hx64
      clear hx64 hal ja
      have HLN := hide (nameT_le names NB i (by omega) (unhide HNB))
      obtain ⟨z0, z1, z2, z3, z4⟩ := (unhide HA).2
      by_cases hc0 : c = 0
      · have HI3 := hide (by have := unhide HI2; rw [if_pos hc0] at this; exact this)
        have hcz : (c == 0) = true := by simp [hc0]
        clear HI2
        go_wp2_with fail
        go_roundw
        case rel => exact ⟨i + 1, l, rfl, by go_num, by omega, HA, HI3, hide (by have := unhide HLL; rw [Nat.add_mul]; omega)⟩
        case measure => simp [intOf]; omega
      · have HI3 := hide (by have := unhide HI2; rw [if_neg hc0] at this; exact this)
        have hcz : (c == 0) = false := by simpa using hc0
        clear HI2 hc0
        have HD := hide (fun W => decimalT_any (i : Int) (show In64 (i : Int) from ⟨by omega, by omega⟩) W)
        rw [show decT (i : Int) = Lib.decDigits i from if_neg (by omega)] at HD
        have hdl : (Lib.decDigits i).length ≤ 20 := decDigits_le i (by omega)
        have hc1 : (⟨#[120]⟩ : ByteArray) ++ ⟨(Lib.decDigits i).toArray⟩ = ⟨(120 :: Lib.decDigits i).toArray⟩ := cat2 [120] _
        have HCLr := hide cl
        by_cases h1 : i < names.length
        · by_cases h2 : names[i] = []
          · have HNE := hide (nameT_empty h1 h2)
            rcases unhide HRW with ⟨x, y, hv, e⟩ | ⟨b, off, cap, hv, hcap, hcl⟩
            · rw [e] at h1; simp at h1
            have k1 := hcl i h1
            rw [h2] at k1
            injection hv with hv1 hv2 hv3
            subst hv1
            have h1' : (i : Int) < (m : Int) := by rw [← unhide HLM]; omega
            clear hcl h2 hv2 hv3 HRW
            generalize 120 :: Lib.decDigits i = nm at *
            generalize Lib.decDigits i = D at *
            go_wp2_with fail
            refine (unhide HD wr).mono ?_
            rintro ev w1 ⟨rfl, hb⟩
            have k2 := (hb.cell (p := ⟨b, off + i, none⟩) (cell_lt k1)).trans k1
            have HB := hide hb
            clear hb k1 cl HD z0 z1 z2 z3 z4
            go_upto_region 9 with fail
            clear k2 hc1 h1'
            have HA2 : Hid (Below w.heap.size w w1 ∧ Bx w1 w.heap.size (.slice (some ⟨lb, lo, none⟩) n ac) (.int .i64 ka)) := hide ⟨bthen (unhide HA).1 (unhide HB), (unhide HA).2.keep (unhide HB)⟩
            have HCL : Hid (w1.cell? ⟨lb, lo + i, none⟩ = some (.int .i64 c)) := hide (((unhide HB).cell (p := ⟨lb, lo + i, none⟩) (cell_lt (unhide HCLr))).trans (unhide HCLr))
            clear HA HB HCLr
            have HI4 := hide (unhide HI3)
            rw [unhide HNE] at HLN HI4
            clear HI3 HNE
            have hnl := unhide HLN
            have HTM := hide (show termT l c nm = l ++ signT l.isEmpty (decide (c < 0)) ++ oneT c nm from rfl)
            have HT2 := hide (termT_le l c nm (by have := unhide HC; unfold In64 at this; omega))
            have HT3 := hide (oneT_le c nm (by have := unhide HC; unfold In64 at this; omega))
            generalize termT l c nm = l2 at *
            obtain ⟨z0, z1, z2, z3, z4⟩ := (unhide HA2).2
            have cl := unhide HCL
            by_cases g1 : c = 1
            · have e1 : (c != 1) = false := by simp [g1]
              have e2 : oneT c nm = nm := if_pos (.inl g1)
              rw [e2] at HTM HT3
              clear g1 e2
              go_upto_region 11 with fail
              have cl := unhide HCL
              obtain ⟨z0, z1, z2, z3, z4⟩ := (unhide HA2).2
              have hl140 : l.length ≤ 90 * (NB + 60) := Nat.le_trans (unhide HLL) (Nat.mul_le_mul_right _ (by omega))
              have HPT := hide (rput_any l nm (decide (c < 0)) w1 (by omega) (by have := unhide HT3; omega))
              rw [← unhide HTM] at HPT
              have HLL2 : Hid (l2.length ≤ (i + 1) * (NB + 60)) := hide (by have h1 := unhide HT2; have h2 := unhide HLL; rw [Nat.add_mul]; omega)
              clear hl140 HTM HT2 HT3 hnl
              generalize hdc : decide (c < 0) = neg at *
              go_wp2_with fail
              refine (unhide HPT).mono ?_
              rintro ev w2 ⟨rfl, hw⟩
              have hw := hw.symm
              subst hw
              go_wp2_with fail
              go_roundw
              case rel => exact ⟨i + 1, l2, rfl, by go_num, by omega, HA2, HI4, HLL2⟩
              case measure => simp [intOf]; omega
            · have e1 : (c != 1) = true := by simpa using g1
              by_cases g2 : c = -1
              · have e3 : (c != -1) = false := by simp [g2]
                have e2 : oneT c nm = nm := if_pos (.inr g2)
                rw [e2] at HTM HT3
                clear g1 g2 e2
                go_upto_region 11 with fail
                have cl := unhide HCL
                obtain ⟨z0, z1, z2, z3, z4⟩ := (unhide HA2).2
                have hl140 : l.length ≤ 90 * (NB + 60) := Nat.le_trans (unhide HLL) (Nat.mul_le_mul_right _ (by omega))
                have HPT := hide (rput_any l nm (decide (c < 0)) w1 (by omega) (by have := unhide HT3; omega))
                rw [← unhide HTM] at HPT
                have HLL2 : Hid (l2.length ≤ (i + 1) * (NB + 60)) := hide (by have h1 := unhide HT2; have h2 := unhide HLL; rw [Nat.add_mul]; omega)
                clear hl140 HTM HT2 HT3 hnl
                generalize hdc : decide (c < 0) = neg at *
                go_wp2_with fail
                refine (unhide HPT).mono ?_
                rintro ev w2 ⟨rfl, hw⟩
                have hw := hw.symm
                subst hw
                go_wp2_with fail
                go_roundw
                case rel => exact ⟨i + 1, l2, rfl, by go_num, by omega, HA2, HI4, HLL2⟩
                case measure => simp [intOf]; omega
              · have e3 : (c != -1) = true := by simpa using g2
                have e2 : oneT c nm = (Lib.decDigits c.natAbs ++ [42]) ++ nm := by
                  rw [show oneT c nm = Lib.decDigits c.natAbs ++ 42 :: nm from if_neg (fun h => h.elim g1 g2), List.append_assoc]
                  rfl
                rw [e2] at HTM HT3
                have hdd : (Lib.decDigits c.natAbs).length ≤ 20 := decDigits_le _ (by have := unhide HC; unfold In64 at this; omega)
                have c1 : (⟨(Lib.decDigits c.natAbs).toArray⟩ : ByteArray) ++ ⟨#[42]⟩ = ⟨(Lib.decDigits c.natAbs ++ [42]).toArray⟩ := cat2 _ [42]
                have c2 : (⟨(Lib.decDigits c.natAbs ++ [42]).toArray⟩ : ByteArray) ++ ⟨nm.toArray⟩ = ⟨(Lib.decDigits c.natAbs ++ [42] ++ nm).toArray⟩ := cat2 _ _
                have hl1 : (Lib.decDigits c.natAbs ++ [42]).length = (Lib.decDigits c.natAbs).length + 1 := by rw [List.length_append]; rfl
                have HSZ := hide (fun W => rsize_any c (unhide HC) W)
                clear g1 g2 e2
                generalize Lib.decDigits c.natAbs ++ [42] ++ nm = r at *
                generalize Lib.decDigits c.natAbs ++ [42] = q at *
                generalize Lib.decDigits c.natAbs = D2 at *
                have hq : q.length ≤ 21 := by omega
                have hnm : nm.length ≤ 1000000000021 := by omega
                clear hl1 hnl
                go_wp2_with fail
                refine (unhide HSZ w1).mono ?_
                rintro ev w3 ⟨rfl, hb⟩
                have HA5 : Hid (Below w.heap.size w w3 ∧ Bx w3 w.heap.size (.slice (some ⟨lb, lo, none⟩) n ac) (.int .i64 ka)) := hide ⟨bthen (unhide HA2).1 hb, (unhide HA2).2.keep hb⟩
                have HCL2 : Hid (w3.cell? ⟨lb, lo + i, none⟩ = some (.int .i64 c)) := hide ((hb.cell (p := ⟨lb, lo + i, none⟩) (cell_lt (unhide HCL))).trans (unhide HCL))
                clear hb z0 z1 z2 z3 z4 cl HA2 HCL HSZ
                have HA2 := HA5
                have HCL := HCL2
                clear HA5 HCL2
                have hnl := unhide HLN
                go_upto_region 11 with fail
                clear hq hnm c1 c2 hdd
                have cl := unhide HCL
                obtain ⟨z0, z1, z2, z3, z4⟩ := (unhide HA2).2
                have hl140 : l.length ≤ 90 * (NB + 60) := Nat.le_trans (unhide HLL) (Nat.mul_le_mul_right _ (by omega))
                have HPT := hide (rput_any l r (decide (c < 0)) w3 (by omega) (by have := unhide HT3; omega))
                rw [← unhide HTM] at HPT
                have HLL2 : Hid (l2.length ≤ (i + 1) * (NB + 60)) := hide (by have h1 := unhide HT2; have h2 := unhide HLL; rw [Nat.add_mul]; omega)
                clear hl140 HTM HT2 HT3 hnl
                generalize hdc : decide (c < 0) = neg at *
                go_wp2_with fail
                refine (unhide HPT).mono ?_
                rintro ev w2 ⟨rfl, hw⟩
                have hw := hw.symm
                subst hw
                go_wp2_with fail
                go_roundw
                case rel => exact ⟨i + 1, l2, rfl, by go_num, by omega, HA2, HI4, HLL2⟩
                case measure => simp [intOf]; omega
          · have HNE := hide (nameT_in h1 h2)
            rcases unhide HRW with ⟨x, y, hv, e⟩ | ⟨b, off, cap, hv, hcap, hcl⟩
            · rw [e] at h1; simp at h1
            have k1 := hcl i h1
            injection hv with hv1 hv2 hv3
            subst hv1
            have h1' : (i : Int) < (m : Int) := by rw [← unhide HLM]; omega
            have hne := isEmpty_no h2
            clear hcl h2 hv2 hv3 HRW
            generalize names[i] = nm at *
            generalize Lib.decDigits i = D at *
            go_wp2_with fail
            refine (unhide HD wr).mono ?_
            rintro ev w1 ⟨rfl, hb⟩
            have k2 := (hb.cell (p := ⟨b, off + i, none⟩) (cell_lt k1)).trans k1
            have HB := hide hb
            clear hb k1 cl HD z0 z1 z2 z3 z4
            go_upto_region 9 with fail
            clear k2 hc1 h1' hne
            have HA2 : Hid (Below w.heap.size w w1 ∧ Bx w1 w.heap.size (.slice (some ⟨lb, lo, none⟩) n ac) (.int .i64 ka)) := hide ⟨bthen (unhide HA).1 (unhide HB), (unhide HA).2.keep (unhide HB)⟩
            have HCL : Hid (w1.cell? ⟨lb, lo + i, none⟩ = some (.int .i64 c)) := hide (((unhide HB).cell (p := ⟨lb, lo + i, none⟩) (cell_lt (unhide HCLr))).trans (unhide HCLr))
            clear HA HB HCLr
            have HI4 := hide (unhide HI3)
            rw [unhide HNE] at HLN HI4
            clear HI3 HNE
            have hnl := unhide HLN
            have HTM := hide (show termT l c nm = l ++ signT l.isEmpty (decide (c < 0)) ++ oneT c nm from rfl)
            have HT2 := hide (termT_le l c nm (by have := unhide HC; unfold In64 at this; omega))
            have HT3 := hide (oneT_le c nm (by have := unhide HC; unfold In64 at this; omega))
            generalize termT l c nm = l2 at *
            obtain ⟨z0, z1, z2, z3, z4⟩ := (unhide HA2).2
            have cl := unhide HCL
            by_cases g1 : c = 1
            · have e1 : (c != 1) = false := by simp [g1]
              have e2 : oneT c nm = nm := if_pos (.inl g1)
              rw [e2] at HTM HT3
              clear g1 e2
              go_upto_region 11 with fail
              have cl := unhide HCL
              obtain ⟨z0, z1, z2, z3, z4⟩ := (unhide HA2).2
              have hl140 : l.length ≤ 90 * (NB + 60) := Nat.le_trans (unhide HLL) (Nat.mul_le_mul_right _ (by omega))
              have HPT := hide (rput_any l nm (decide (c < 0)) w1 (by omega) (by have := unhide HT3; omega))
              rw [← unhide HTM] at HPT
              have HLL2 : Hid (l2.length ≤ (i + 1) * (NB + 60)) := hide (by have h1 := unhide HT2; have h2 := unhide HLL; rw [Nat.add_mul]; omega)
              clear hl140 HTM HT2 HT3 hnl
              generalize hdc : decide (c < 0) = neg at *
              go_wp2_with fail
              refine (unhide HPT).mono ?_
              rintro ev w2 ⟨rfl, hw⟩
              have hw := hw.symm
              subst hw
              go_wp2_with fail
              go_roundw
              case rel => exact ⟨i + 1, l2, rfl, by go_num, by omega, HA2, HI4, HLL2⟩
              case measure => simp [intOf]; omega
            · have e1 : (c != 1) = true := by simpa using g1
              by_cases g2 : c = -1
              · have e3 : (c != -1) = false := by simp [g2]
                have e2 : oneT c nm = nm := if_pos (.inr g2)
                rw [e2] at HTM HT3
                clear g1 g2 e2
                go_upto_region 11 with fail
                have cl := unhide HCL
                obtain ⟨z0, z1, z2, z3, z4⟩ := (unhide HA2).2
                have hl140 : l.length ≤ 90 * (NB + 60) := Nat.le_trans (unhide HLL) (Nat.mul_le_mul_right _ (by omega))
                have HPT := hide (rput_any l nm (decide (c < 0)) w1 (by omega) (by have := unhide HT3; omega))
                rw [← unhide HTM] at HPT
                have HLL2 : Hid (l2.length ≤ (i + 1) * (NB + 60)) := hide (by have h1 := unhide HT2; have h2 := unhide HLL; rw [Nat.add_mul]; omega)
                clear hl140 HTM HT2 HT3 hnl
                generalize hdc : decide (c < 0) = neg at *
                go_wp2_with fail
                refine (unhide HPT).mono ?_
                rintro ev w2 ⟨rfl, hw⟩
                have hw := hw.symm
                subst hw
                go_wp2_with fail
                go_roundw
                case rel => exact ⟨i + 1, l2, rfl, by go_num, by omega, HA2, HI4, HLL2⟩
                case measure => simp [intOf]; omega
              · have e3 : (c != -1) = true := by simpa using g2
                have e2 : oneT c nm = (Lib.decDigits c.natAbs ++ [42]) ++ nm := by
                  rw [show oneT c nm = Lib.decDigits c.natAbs ++ 42 :: nm from if_neg (fun h => h.elim g1 g2), List.append_assoc]
                  rfl
                rw [e2] at HTM HT3
                have hdd : (Lib.decDigits c.natAbs).length ≤ 20 := decDigits_le _ (by have := unhide HC; unfold In64 at this; omega)
                have c1 : (⟨(Lib.decDigits c.natAbs).toArray⟩ : ByteArray) ++ ⟨#[42]⟩ = ⟨(Lib.decDigits c.natAbs ++ [42]).toArray⟩ := cat2 _ [42]
                have c2 : (⟨(Lib.decDigits c.natAbs ++ [42]).toArray⟩ : ByteArray) ++ ⟨nm.toArray⟩ = ⟨(Lib.decDigits c.natAbs ++ [42] ++ nm).toArray⟩ := cat2 _ _
                have hl1 : (Lib.decDigits c.natAbs ++ [42]).length = (Lib.decDigits c.natAbs).length + 1 := by rw [List.length_append]; rfl
                have HSZ := hide (fun W => rsize_any c (unhide HC) W)
                clear g1 g2 e2
                generalize Lib.decDigits c.natAbs ++ [42] ++ nm = r at *
                generalize Lib.decDigits c.natAbs ++ [42] = q at *
                generalize Lib.decDigits c.natAbs = D2 at *
                have hq : q.length ≤ 21 := by omega
                have hnm : nm.length ≤ 1000000000021 := by omega
                clear hl1 hnl
                go_wp2_with fail
                refine (unhide HSZ w1).mono ?_
                rintro ev w3 ⟨rfl, hb⟩
                have HA5 : Hid (Below w.heap.size w w3 ∧ Bx w3 w.heap.size (.slice (some ⟨lb, lo, none⟩) n ac) (.int .i64 ka)) := hide ⟨bthen (unhide HA2).1 hb, (unhide HA2).2.keep hb⟩
                have HCL2 : Hid (w3.cell? ⟨lb, lo + i, none⟩ = some (.int .i64 c)) := hide ((hb.cell (p := ⟨lb, lo + i, none⟩) (cell_lt (unhide HCL))).trans (unhide HCL))
                clear hb z0 z1 z2 z3 z4 cl HA2 HCL HSZ
                have HA2 := HA5
                have HCL := HCL2
                clear HA5 HCL2
                have hnl := unhide HLN
                go_upto_region 11 with fail
                clear hq hnm c1 c2 hdd
                have cl := unhide HCL
                obtain ⟨z0, z1, z2, z3, z4⟩ := (unhide HA2).2
                have hl140 : l.length ≤ 90 * (NB + 60) := Nat.le_trans (unhide HLL) (Nat.mul_le_mul_right _ (by omega))
                have HPT := hide (rput_any l r (decide (c < 0)) w3 (by omega) (by have := unhide HT3; omega))
                rw [← unhide HTM] at HPT
                have HLL2 : Hid (l2.length ≤ (i + 1) * (NB + 60)) := hide (by have h1 := unhide HT2; have h2 := unhide HLL; rw [Nat.add_mul]; omega)
                clear hl140 HTM HT2 HT3 hnl
                generalize hdc : decide (c < 0) = neg at *
                go_wp2_with fail
                refine (unhide HPT).mono ?_
                rintro ev w2 ⟨rfl, hw⟩
                have hw := hw.symm
                subst hw
                go_wp2_with fail
                go_roundw
                case rel => exact ⟨i + 1, l2, rfl, by go_num, by omega, HA2, HI4, HLL2⟩
                case measure => simp [intOf]; omega
        · have HNE := hide (nameT_out h1)
          have h1' : ¬ (i : Int) < (m : Int) := by rw [← unhide HLM]; omega
          clear HRW
          generalize 120 :: Lib.decDigits i = nm at *
          generalize Lib.decDigits i = D at *
          go_wp2_with fail
          refine (unhide HD wr).mono ?_
          rintro ev w1 ⟨rfl, hb⟩
          have HB := hide hb
          clear hb cl HD z0 z1 z2 z3 z4
          go_upto_region 9 with fail
          clear hc1 h1'
          have HA2 : Hid (Below w.heap.size w w1 ∧ Bx w1 w.heap.size (.slice (some ⟨lb, lo, none⟩) n ac) (.int .i64 ka)) := hide ⟨bthen (unhide HA).1 (unhide HB), (unhide HA).2.keep (unhide HB)⟩
          have HCL : Hid (w1.cell? ⟨lb, lo + i, none⟩ = some (.int .i64 c)) := hide (((unhide HB).cell (p := ⟨lb, lo + i, none⟩) (cell_lt (unhide HCLr))).trans (unhide HCLr))
          clear HA HB HCLr
          have HI4 := hide (unhide HI3)
          rw [unhide HNE] at HLN HI4
          clear HI3 HNE
          have hnl := unhide HLN
          have HTM := hide (show termT l c nm = l ++ signT l.isEmpty (decide (c < 0)) ++ oneT c nm from rfl)
          have HT2 := hide (termT_le l c nm (by have := unhide HC; unfold In64 at this; omega))
          have HT3 := hide (oneT_le c nm (by have := unhide HC; unfold In64 at this; omega))
          generalize termT l c nm = l2 at *
          obtain ⟨z0, z1, z2, z3, z4⟩ := (unhide HA2).2
          have cl := unhide HCL
          by_cases g1 : c = 1
          · have e1 : (c != 1) = false := by simp [g1]
            have e2 : oneT c nm = nm := if_pos (.inl g1)
            rw [e2] at HTM HT3
            clear g1 e2
            go_upto_region 11 with fail
            have cl := unhide HCL
            obtain ⟨z0, z1, z2, z3, z4⟩ := (unhide HA2).2
            have hl140 : l.length ≤ 90 * (NB + 60) := Nat.le_trans (unhide HLL) (Nat.mul_le_mul_right _ (by omega))
            have HPT := hide (rput_any l nm (decide (c < 0)) w1 (by omega) (by have := unhide HT3; omega))
            rw [← unhide HTM] at HPT
            have HLL2 : Hid (l2.length ≤ (i + 1) * (NB + 60)) := hide (by have h1 := unhide HT2; have h2 := unhide HLL; rw [Nat.add_mul]; omega)
            clear hl140 HTM HT2 HT3 hnl
            generalize hdc : decide (c < 0) = neg at *
            go_wp2_with fail
            refine (unhide HPT).mono ?_
            rintro ev w2 ⟨rfl, hw⟩
            have hw := hw.symm
            subst hw
            go_wp2_with fail
            go_roundw
            case rel => exact ⟨i + 1, l2, rfl, by go_num, by omega, HA2, HI4, HLL2⟩
            case measure => simp [intOf]; omega
          · have e1 : (c != 1) = true := by simpa using g1
            by_cases g2 : c = -1
            · have e3 : (c != -1) = false := by simp [g2]
              have e2 : oneT c nm = nm := if_pos (.inr g2)
              rw [e2] at HTM HT3
              clear g1 g2 e2
              go_upto_region 11 with fail
              have cl := unhide HCL
              obtain ⟨z0, z1, z2, z3, z4⟩ := (unhide HA2).2
              have hl140 : l.length ≤ 90 * (NB + 60) := Nat.le_trans (unhide HLL) (Nat.mul_le_mul_right _ (by omega))
              have HPT := hide (rput_any l nm (decide (c < 0)) w1 (by omega) (by have := unhide HT3; omega))
              rw [← unhide HTM] at HPT
              have HLL2 : Hid (l2.length ≤ (i + 1) * (NB + 60)) := hide (by have h1 := unhide HT2; have h2 := unhide HLL; rw [Nat.add_mul]; omega)
              clear hl140 HTM HT2 HT3 hnl
              generalize hdc : decide (c < 0) = neg at *
              go_wp2_with fail
              refine (unhide HPT).mono ?_
              rintro ev w2 ⟨rfl, hw⟩
              have hw := hw.symm
              subst hw
              go_wp2_with fail
              go_roundw
              case rel => exact ⟨i + 1, l2, rfl, by go_num, by omega, HA2, HI4, HLL2⟩
              case measure => simp [intOf]; omega
            · have e3 : (c != -1) = true := by simpa using g2
              have e2 : oneT c nm = (Lib.decDigits c.natAbs ++ [42]) ++ nm := by
                rw [show oneT c nm = Lib.decDigits c.natAbs ++ 42 :: nm from if_neg (fun h => h.elim g1 g2), List.append_assoc]
                rfl
              rw [e2] at HTM HT3
              have hdd : (Lib.decDigits c.natAbs).length ≤ 20 := decDigits_le _ (by have := unhide HC; unfold In64 at this; omega)
              have c1 : (⟨(Lib.decDigits c.natAbs).toArray⟩ : ByteArray) ++ ⟨#[42]⟩ = ⟨(Lib.decDigits c.natAbs ++ [42]).toArray⟩ := cat2 _ [42]
              have c2 : (⟨(Lib.decDigits c.natAbs ++ [42]).toArray⟩ : ByteArray) ++ ⟨nm.toArray⟩ = ⟨(Lib.decDigits c.natAbs ++ [42] ++ nm).toArray⟩ := cat2 _ _
              have hl1 : (Lib.decDigits c.natAbs ++ [42]).length = (Lib.decDigits c.natAbs).length + 1 := by rw [List.length_append]; rfl
              have HSZ := hide (fun W => rsize_any c (unhide HC) W)
              clear g1 g2 e2
              generalize Lib.decDigits c.natAbs ++ [42] ++ nm = r at *
              generalize Lib.decDigits c.natAbs ++ [42] = q at *
              generalize Lib.decDigits c.natAbs = D2 at *
              have hq : q.length ≤ 21 := by omega
              have hnm : nm.length ≤ 1000000000021 := by omega
              clear hl1 hnl
              go_wp2_with fail
              refine (unhide HSZ w1).mono ?_
              rintro ev w3 ⟨rfl, hb⟩
              have HA5 : Hid (Below w.heap.size w w3 ∧ Bx w3 w.heap.size (.slice (some ⟨lb, lo, none⟩) n ac) (.int .i64 ka)) := hide ⟨bthen (unhide HA2).1 hb, (unhide HA2).2.keep hb⟩
              have HCL2 : Hid (w3.cell? ⟨lb, lo + i, none⟩ = some (.int .i64 c)) := hide ((hb.cell (p := ⟨lb, lo + i, none⟩) (cell_lt (unhide HCL))).trans (unhide HCL))
              clear hb z0 z1 z2 z3 z4 cl HA2 HCL HSZ
              have HA2 := HA5
              have HCL := HCL2
              clear HA5 HCL2
              have hnl := unhide HLN
              go_upto_region 11 with fail
              clear hq hnm c1 c2 hdd
              have cl := unhide HCL
              obtain ⟨z0, z1, z2, z3, z4⟩ := (unhide HA2).2
              have hl140 : l.length ≤ 90 * (NB + 60) := Nat.le_trans (unhide HLL) (Nat.mul_le_mul_right _ (by omega))
              have HPT := hide (rput_any l r (decide (c < 0)) w3 (by omega) (by have := unhide HT3; omega))
              rw [← unhide HTM] at HPT
              have HLL2 : Hid (l2.length ≤ (i + 1) * (NB + 60)) := hide (by have h1 := unhide HT2; have h2 := unhide HLL; rw [Nat.add_mul]; omega)
              clear hl140 HTM HT2 HT3 hnl
              generalize hdc : decide (c < 0) = neg at *
              go_wp2_with fail
              refine (unhide HPT).mono ?_
              rintro ev w2 ⟨rfl, hw⟩
              have hw := hw.symm
              subst hw
              go_wp2_with fail
              go_roundw
              case rel => exact ⟨i + 1, l2, rfl, by go_num, by omega, HA2, HI4, HLL2⟩
              case measure => simp [intOf]; omega
    · have hin : i = n := by omega
      subst hin
      have hlt' : ¬ (i : Int) < (i : Int) := by omega
      have HF : Hid (textF a ka names = finT l ka) := hide (by
        unfold textF
        rw [unhide HI, List.drop_of_length_le (by rw [unhide HLS]; exact Nat.le_refl _)]
        rfl)
      obtain ⟨z0, z1, z2, z3, z4⟩ := (unhide HA).2
      clear HI
      have hl140 : l.length ≤ 90 * (NB + 60) := Nat.le_trans (unhide HLL) (Nat.mul_le_mul_right _ (by omega))
      by_cases hfin : ka ≠ 0 ∨ l = []
      · have HQ : Hid (finT l ka = l ++ signT l.isEmpty (decide (ka < 0)) ++ Lib.decDigits ka.natAbs) := hide (by unfold finT; rw [if_pos hfin])
        have HCND : Hid ((ka != 0) = true ∨ (ka != 0) = false ∧ l.isEmpty = true) := hide (by
          by_cases h : ka = 0
          · rcases hfin with h2 | h2
            · exact absurd h h2
            · exact .inr ⟨by simp [h], by rw [h2]; rfl⟩
          · exact .inl (by simpa using h))
        have hdl : (Lib.decDigits ka.natAbs).length ≤ 20 := decDigits_le _ (by unfold In64 at ia; omega)
        have HSZ := hide (fun W => rsize_any ka ia W)
        have HPT := hide (fun W => rput_any l (Lib.decDigits ka.natAbs) (decide (ka < 0)) W (by omega) (by omega))
        rw [← unhide HQ] at HPT
        clear hfin hl140 hdl
        generalize Lib.decDigits ka.natAbs = D at *
        generalize hdc : decide (ka < 0) = neg at *
        rcases unhide HCND with hk | ⟨hk, hz⟩
        · clear HCND
          go_wp2_with fail
          have HD : Hid (Below wr.heap.size wr wr.drew) := hide (below_drewN (Below.refl wr.heap.size wr) 1)
          have HBW : Hid (Below w.heap.size w wr.drew) := hide ((unhide HA).1.trans ((unhide HD).mono (unhide HA).1.size))
          refine wp_regionE (fun W => W.cell? ⟨w.heap.size, 1, none⟩ = some (.int .i64 ka)) (fun j => decide (j < 8)) (by kernel_rfl) z1 (fun hS => ?_)
          clear z0 z1 z2 z3 z4
          have HWD : Hid (w.heap.size < wr.drew.heap.size) := hide (by have := (unhide HA).2.lt; exact Nat.lt_of_lt_of_le this (unhide HD).size)
          clear HA HD
          generalize wr.drew = wd at *
          refine anyE_take 0 (v := ?_) rfl (by kernel_rfl) (by kernel_rfl) (by kernel_rfl) (by kernel_rfl) (fun _ _ _ h => h) hS (Or.inl ⟨by rfl, ?_⟩) ?_
          rotate_left
          · intro w' hS'
            have d0 := hS'
            go_simp
            try with_reducible rfl
          try simp only [List.getElem_toArray, List.getElem_cons_zero, Act.put, List.setIfInBounds_toArray, List.set_cons_zero, List.set_cons_succ]
          refine anyE_take 1 (v := ?_) rfl (by kernel_rfl) (by kernel_rfl) (by kernel_rfl) (by kernel_rfl) (fun _ _ _ h => h) hS (Or.inl ⟨by rfl, ?_⟩) ?_
          rotate_left
          · intro w' hS'
            have d0 := hS'
            go_simp
            try with_reducible rfl
          try simp only [List.getElem_toArray, List.getElem_cons_succ, List.getElem_cons_zero, Act.put, List.setIfInBounds_toArray, List.set_cons_zero, List.set_cons_succ]
          refine anyE_take 2 (v := ?_) rfl (by kernel_rfl) (by kernel_rfl) (by kernel_rfl) (by kernel_rfl) (fun _ _ _ h => h) hS (Or.inl ⟨by rfl, ?_⟩) ?_
          rotate_left
          · intro w' hS'
            have d0 := hS'
            go_simp
            try with_reducible rfl
          try simp only [List.getElem_toArray, List.getElem_cons_succ, List.getElem_cons_zero, Act.put, List.setIfInBounds_toArray, List.set_cons_zero, List.set_cons_succ]
          refine anyE_take 3 (v := ?_) rfl (by kernel_rfl) (by kernel_rfl) (by kernel_rfl) (by kernel_rfl) (fun _ _ _ h => h) hS (Or.inl ⟨by rfl, ?_⟩) ?_
          rotate_left
          · intro w' hS'
            have d0 := hS'
            go_simp
            try with_reducible rfl
          try simp only [List.getElem_toArray, List.getElem_cons_succ, List.getElem_cons_zero, Act.put, List.setIfInBounds_toArray, List.set_cons_zero, List.set_cons_succ]
          refine anyE_take 4 (v := ?_) rfl (by kernel_rfl) (by kernel_rfl) (by kernel_rfl) (by kernel_rfl) (fun _ _ _ h => h) hS (Or.inl ⟨by rfl, ?_⟩) ?_
          rotate_left
          · intro w' hS'
            have d0 := hS'
            go_simp
            try with_reducible rfl
          try simp only [List.getElem_toArray, List.getElem_cons_succ, List.getElem_cons_zero, Act.put, List.setIfInBounds_toArray, List.set_cons_zero, List.set_cons_succ]
          refine anyE_take 5 (v := ?_) rfl (by kernel_rfl) (by kernel_rfl) (by kernel_rfl) (by kernel_rfl) (fun _ _ _ h => h) hS (Or.inl ⟨by rfl, ?_⟩) ?_
          rotate_left
          · intro w' hS'
            have d0 := hS'
            go_simp
            try with_reducible rfl
          try simp only [List.getElem_toArray, List.getElem_cons_succ, List.getElem_cons_zero, Act.put, List.setIfInBounds_toArray, List.set_cons_zero, List.set_cons_succ]
          refine anyE_ready [6] (by kernel_rfl) (by simp) (ReadyE.cons rfl (fun K' hK => ?_) ReadyE.nil)
          go_simp
          go_at_call 48
          refine (unhide HSZ wd).mono ?_
          rintro ev w2 ⟨rfl, b2⟩
          dsimp only
          try go_simp
          have hS2 : w2.cell? ⟨w.heap.size, 1, none⟩ = some (.int .i64 ka) := (b2.cell (p := ⟨w.heap.size, 1, none⟩) (unhide HWD)).trans hS
          have HB2 := hide ((unhide HBW).trans (b2.mono (by exact (unhide HBW).size)))
          refine hK _ _ (fun _ => hS2) ?_
          clear hK K' hS b2 HBW
          try simp only [List.getElem_toArray, List.getElem_cons_succ, List.getElem_cons_zero, Act.put, List.setIfInBounds_toArray, List.set_cons_zero, List.set_cons_succ]
          refine anyE_ready [7] (by kernel_rfl) (by simp) (ReadyE.cons rfl (fun K' hK => ?_) ReadyE.nil)
          go_simp
          go_at_call 49
          refine (unhide HPT w2).mono ?_
          rintro ev w3 ⟨rfl, hw⟩
          have hw := hw.symm
          subst hw
          dsimp only
          try go_simp
          refine hK _ _ (fun _ => hS2) ?_
          clear hK K'
          try simp only [List.getElem_toArray, List.getElem_cons_succ, List.getElem_cons_zero, Act.put, List.setIfInBounds_toArray, List.set_cons_zero, List.set_cons_succ]
          refine any_to_E (by kernel_rfl) ?_
          refine wpAny_ready (rs := [8]) (by kernel_rfl) (by simp) ?_
          refine AllReady.cons rfl (fun K' hK => ?_) AllReady.nil
          go_simp
          refine hK _ _ ?_
          clear hK K'
          try simp only [List.getElem_toArray, List.getElem_cons_succ, List.getElem_cons_zero, Act.put, List.setIfInBounds_toArray, List.set_cons_zero, List.set_cons_succ]
          refine wpAny_done (by kernel_rfl) ?_ _
          clear hS2
          go_wp2_with fail
          go_ret
          exact ⟨by rw [unhide HF]; rfl, unhide HB2⟩
        · clear HCND
          go_wp2_with fail
          have HD : Hid (Below wr.heap.size wr wr.drew) := hide (below_drewN (Below.refl wr.heap.size wr) 1)
          have HBW : Hid (Below w.heap.size w wr.drew) := hide ((unhide HA).1.trans ((unhide HD).mono (unhide HA).1.size))
          refine wp_regionE (fun W => W.cell? ⟨w.heap.size, 1, none⟩ = some (.int .i64 ka)) (fun j => decide (j < 8)) (by kernel_rfl) z1 (fun hS => ?_)
          clear z0 z1 z2 z3 z4
          have HWD : Hid (w.heap.size < wr.drew.heap.size) := hide (by have := (unhide HA).2.lt; exact Nat.lt_of_lt_of_le this (unhide HD).size)
          clear HA HD
          generalize wr.drew = wd at *
          refine anyE_take 0 (v := ?_) rfl (by kernel_rfl) (by kernel_rfl) (by kernel_rfl) (by kernel_rfl) (fun _ _ _ h => h) hS (Or.inl ⟨by rfl, ?_⟩) ?_
          rotate_left
          · intro w' hS'
            have d0 := hS'
            go_simp
            try with_reducible rfl
          try simp only [List.getElem_toArray, List.getElem_cons_zero, Act.put, List.setIfInBounds_toArray, List.set_cons_zero, List.set_cons_succ]
          refine anyE_take 1 (v := ?_) rfl (by kernel_rfl) (by kernel_rfl) (by kernel_rfl) (by kernel_rfl) (fun _ _ _ h => h) hS (Or.inl ⟨by rfl, ?_⟩) ?_
          rotate_left
          · intro w' hS'
            have d0 := hS'
            go_simp
            try with_reducible rfl
          try simp only [List.getElem_toArray, List.getElem_cons_succ, List.getElem_cons_zero, Act.put, List.setIfInBounds_toArray, List.set_cons_zero, List.set_cons_succ]
          refine anyE_take 2 (v := ?_) rfl (by kernel_rfl) (by kernel_rfl) (by kernel_rfl) (by kernel_rfl) (fun _ _ _ h => h) hS (Or.inl ⟨by rfl, ?_⟩) ?_
          rotate_left
          · intro w' hS'
            have d0 := hS'
            go_simp
            try with_reducible rfl
          try simp only [List.getElem_toArray, List.getElem_cons_succ, List.getElem_cons_zero, Act.put, List.setIfInBounds_toArray, List.set_cons_zero, List.set_cons_succ]
          refine anyE_take 3 (v := ?_) rfl (by kernel_rfl) (by kernel_rfl) (by kernel_rfl) (by kernel_rfl) (fun _ _ _ h => h) hS (Or.inl ⟨by rfl, ?_⟩) ?_
          rotate_left
          · intro w' hS'
            have d0 := hS'
            go_simp
            try with_reducible rfl
          try simp only [List.getElem_toArray, List.getElem_cons_succ, List.getElem_cons_zero, Act.put, List.setIfInBounds_toArray, List.set_cons_zero, List.set_cons_succ]
          refine anyE_take 4 (v := ?_) rfl (by kernel_rfl) (by kernel_rfl) (by kernel_rfl) (by kernel_rfl) (fun _ _ _ h => h) hS (Or.inl ⟨by rfl, ?_⟩) ?_
          rotate_left
          · intro w' hS'
            have d0 := hS'
            go_simp
            try with_reducible rfl
          try simp only [List.getElem_toArray, List.getElem_cons_succ, List.getElem_cons_zero, Act.put, List.setIfInBounds_toArray, List.set_cons_zero, List.set_cons_succ]
          refine anyE_take 5 (v := ?_) rfl (by kernel_rfl) (by kernel_rfl) (by kernel_rfl) (by kernel_rfl) (fun _ _ _ h => h) hS (Or.inl ⟨by rfl, ?_⟩) ?_
          rotate_left
          · intro w' hS'
            have d0 := hS'
            go_simp
            try with_reducible rfl
          try simp only [List.getElem_toArray, List.getElem_cons_succ, List.getElem_cons_zero, Act.put, List.setIfInBounds_toArray, List.set_cons_zero, List.set_cons_succ]
          refine anyE_ready [6] (by kernel_rfl) (by simp) (ReadyE.cons rfl (fun K' hK => ?_) ReadyE.nil)
          go_simp
          go_at_call 48
          refine (unhide HSZ wd).mono ?_
          rintro ev w2 ⟨rfl, b2⟩
          dsimp only
          try go_simp
          have hS2 : w2.cell? ⟨w.heap.size, 1, none⟩ = some (.int .i64 ka) := (b2.cell (p := ⟨w.heap.size, 1, none⟩) (unhide HWD)).trans hS
          have HB2 := hide ((unhide HBW).trans (b2.mono (by exact (unhide HBW).size)))
          refine hK _ _ (fun _ => hS2) ?_
          clear hK K' hS b2 HBW
          try simp only [List.getElem_toArray, List.getElem_cons_succ, List.getElem_cons_zero, Act.put, List.setIfInBounds_toArray, List.set_cons_zero, List.set_cons_succ]
          refine anyE_ready [7] (by kernel_rfl) (by simp) (ReadyE.cons rfl (fun K' hK => ?_) ReadyE.nil)
          go_simp
          go_at_call 49
          refine (unhide HPT w2).mono ?_
          rintro ev w3 ⟨rfl, hw⟩
          have hw := hw.symm
          subst hw
          dsimp only
          try go_simp
          refine hK _ _ (fun _ => hS2) ?_
          clear hK K'
          try simp only [List.getElem_toArray, List.getElem_cons_succ, List.getElem_cons_zero, Act.put, List.setIfInBounds_toArray, List.set_cons_zero, List.set_cons_succ]
          refine any_to_E (by kernel_rfl) ?_
          refine wpAny_ready (rs := [8]) (by kernel_rfl) (by simp) ?_
          refine AllReady.cons rfl (fun K' hK => ?_) AllReady.nil
          go_simp
          refine hK _ _ ?_
          clear hK K'
          try simp only [List.getElem_toArray, List.getElem_cons_succ, List.getElem_cons_zero, Act.put, List.setIfInBounds_toArray, List.set_cons_zero, List.set_cons_succ]
          refine wpAny_done (by kernel_rfl) ?_ _
          clear hS2
          go_wp2_with fail
          go_ret
          exact ⟨by rw [unhide HF]; rfl, unhide HB2⟩
      · have hkl : ka = 0 ∧ l ≠ [] := by
          constructor
          · exact Decidable.byContradiction fun h => hfin (.inl h)
          · exact fun h => hfin (.inr h)
        have HQ : Hid (finT l ka = l) := hide (by unfold finT; rw [if_neg hfin])
        have hk : (ka != 0) = false := by simp [hkl.1]
        have hz := isEmpty_no hkl.2
        clear hfin hkl hl140
        go_wp2_with fail
        go_ret
        exact ⟨by rw [unhide HF, unhide HQ]; rfl, (unhide HA).1⟩
end Go.Proofs.YtmbhamnkbpcljaaDoor.Line
