/- The contract of the reference's Toks. -/
import Derived.Test.YtepnafnljfjeoaaGreatDoorTokA
import Derived.Test.YtepnafnljfjeoaaGreatDoorBaseAll
import Derived.Deep.CutBlock
namespace Go.Proofs.YtepnafnljfjeoaaGreatDoor.Line
open Go.ChangeShapes Go.WideShapes Go.ChangeAt Go.RowKit
set_option linter.unusedVariables false

theorem headIs_at (p : UInt8 → Bool) (l : List UInt8) (i : Nat) (h : i < l.length) : Words.headIs p (l.drop i) = p l[i] := by rw [List.drop_eq_getElem_cons h]; rfl
/-- where a run of such bytes ends -/
theorem run_spec (p : UInt8 → Bool) (l : List UInt8) (i : Nat) (h : i ≤ l.length) : ∃ e, i + ((l.drop i).takeWhile p).length = e ∧ e ≤ l.length ∧ (∀ j (hj : j < l.length), i ≤ j → j < e → p l[j] = true) ∧ (∀ he : e < l.length, p l[e] = false) ∧ (l.drop i).takeWhile p = (l.drop i).take (e - i) := by
  have h1 : ((l.drop i).takeWhile p).length ≤ (l.drop i).length := (List.takeWhile_prefix p).length_le
  have h2 : (l.drop i).takeWhile p = (l.drop i).take ((l.drop i).takeWhile p).length := List.prefix_iff_eq_take.1 (List.takeWhile_prefix p)
  refine ⟨_, rfl, by rw [List.length_drop] at h1; omega, fun j hj h3 h4 => ?_, fun he => ?_, by rw [Nat.add_sub_cancel_left]; exact h2⟩
  · have h5 : j - i < ((l.drop i).takeWhile p).length := by omega
    have h6 : ((l.drop i).takeWhile p)[j - i] = l[j] := by
      have h7 : ((l.drop i).takeWhile p)[j - i]? = l[j]? := by
        rw [h2, List.getElem?_take_of_lt h5, List.getElem?_drop]
        congr 1
        omega
      rw [List.getElem?_eq_getElem h5, List.getElem?_eq_getElem hj] at h7
      exact Option.some.inj h7
    rw [← h6]
    have := List.all_takeWhile (p := p) (l := l.drop i)
    exact List.all_eq_true.1 this _ (List.getElem_mem h5)
  · have h3 : (l.drop i).drop ((l.drop i).takeWhile p).length = (l.drop i).dropWhile p := by
      conv => lhs; rhs; rw [← List.takeWhile_append_dropWhile (p := p) (l := l.drop i)]
      rw [List.drop_left]
    rw [List.drop_drop] at h3
    rw [List.drop_eq_getElem_cons he] at h3
    have hne : (l.drop i).dropWhile p ≠ [] := by rw [← h3]; exact List.cons_ne_nil _ _
    have h4 := List.head_dropWhile_not p hne
    simp only [← h3, List.head_cons] at h4
    exact h4

theorem step_blankAt (l : List UInt8) (i : Nat) (h : i < l.length) (hb : Words.blankB l[i] = true) : Words.step (l.drop i) = .blank := by
  unfold Words.step
  rw [headIs_at _ l i h, if_pos hb]
theorem step_nameAt (l : List UInt8) (i e : Nat) (h : i < l.length) (hb : Words.blankB l[i] = false) (hl : Words.letterB l[i] = true) (he : i + ((l.drop i).takeWhile Words.behindB).length = e) (ht : (l.drop i).takeWhile Words.behindB = (l.drop i).take (e - i)) :
    Words.step (l.drop i) = if 31 < e - i then .bad 4 0 else .tok (if Words.isKey ((l.drop i).take (e - i)) then 4 else 1) 0 (e - i) := by
  unfold Words.step
  rw [headIs_at _ l i h, headIs_at _ l i h, if_neg (by rw [hb]; decide), if_pos hl]
  have : ((l.drop i).takeWhile Words.behindB).length = e - i := by omega
  rw [this, ht]
theorem step_numAt (l : List UInt8) (i e : Nat) (h : i < l.length) (hb : Words.blankB l[i] = false) (hl : Words.letterB l[i] = false) (hd : Words.digitB l[i] = true) (he : i + ((l.drop i).takeWhile Words.digitB).length = e) (ht : (l.drop i).takeWhile Words.digitB = (l.drop i).take (e - i)) :
    Words.step (l.drop i) = if Words.big < Words.num ((l.drop i).take (e - i)) then .bad 5 0 else if Words.headIs Words.letterB (l.drop e) then .bad 3 (e - i) else .tok 2 (Words.num ((l.drop i).take (e - i))) (e - i) := by
  unfold Words.step
  rw [headIs_at _ l i h, headIs_at _ l i h, headIs_at _ l i h, if_neg (by rw [hb]; decide), if_neg (by rw [hl]; decide), if_pos hd]
  have h1 : ((l.drop i).takeWhile Words.digitB).length = e - i := by omega
  rw [h1, ht, List.drop_drop, show i + (e - i) = e by omega]
theorem step_signAt (l : List UInt8) (i : Nat) (h : i < l.length) (hb : Words.blankB l[i] = false) (hl : Words.letterB l[i] = false) (hd : Words.digitB l[i] = false) :
    Words.step (l.drop i) = if Words.signLen (l.drop i) = 0 then .bad 3 0 else .tok 3 0 (Words.signLen (l.drop i)) := by
  unfold Words.step
  rw [headIs_at _ l i h, headIs_at _ l i h, headIs_at _ l i h, if_neg (by rw [hb]; decide), if_neg (by rw [hl]; decide), if_neg (by rw [hd]; decide)]
theorem blank_no (c : UInt8) (h : Words.blankB c = false) : ((c.toNat : Int) == 32) = false ∧ ((c.toNat : Int) == 9) = false := by
  unfold Words.blankB at h
  simp only [Bool.or_eq_false_iff, decide_eq_false_iff_not] at h
  simp only [beq_eq_false_iff_ne]
  omega

theorem ownT_fin {T : TypeId} {w w1 : World} {v u u' : Value} {l : List Words.T} (h : OwnT T (w.heap.size + 1) w1 v l) : OwnT T w.heap.size ((w1.setCell ⟨w.heap.size, 0, none⟩ u).setCell ⟨w.heap.size, 1, none⟩ u') v l := by
  have h2 : OwnT T (w.heap.size + 1) ((w1.setCell ⟨w.heap.size, 0, none⟩ u).setCell ⟨w.heap.size, 1, none⟩ u') v l := ownsRow_setCell_below (ownsRow_setCell_below h (by simp) u) (by simp) u'
  obtain ⟨h3, h4⟩ := h2
  refine ⟨h3, ?_⟩
  rcases h4 with h4 | ⟨g, cap, cur, hv, hg, r⟩
  · exact .inl h4
  · exact .inr ⟨g, cap, cur, hv, by omega, r⟩

set_option maxHeartbeats 16000000 in
set_option maxRecDepth 100000 in
theorem refToks_any (l : List UInt8) (hl : l.length ≤ 100000) (w : World) : Calls Tryz.prog 10 #[.string ⟨l.toArray⟩] w fun e w' =>
    ∃ u g, e = .returned (.tuple #[u, g]) ∧ OwnT 81 w.heap.size w' u (Words.toks l).1 ∧ Told w.heap.size w' g wWord (Words.toks l).2.2 (Words.toks l).2.1 ∧ Below w.heap.size w w' := by
  have hsz : ((⟨l.toArray⟩ : ByteArray).size : Int) = l.length := rfl
  obtain ⟨R, hR⟩ : ∃ R, Words.toks l = R := ⟨_, rfl⟩
  rw [hR]
  have HR := hide hR
  clear hR
  go_enter Tryz.func10, Tryz.ntmps10
  go_wp2
  obtain ⟨c0, c1, f0, f1, hs, hB2⟩ := res_cells (w := w) (Below.refl _ _)
  generalize w.alloc (.cells #[.slice none 0 0, .int .i64 0] 37) = W at *
  have HB2 := hide hB2
  have HC := hide (And.intro c0 (And.intro c1 (And.intro f0 f1)))
  clear hB2 c0 c1 f0 f1
  go_loopw [4, 5] (fun x q wr => ∃ (i : Nat) (done : List Words.T), i ≤ l.length ∧ q = .int .i64 i ∧ done.length ≤ i ∧ Hid (Words.also done (Words.scanAt l i) = R) ∧ Hid (OwnT 81 (w.heap.size + 1) wr x done) ∧ Hid (Below (w.heap.size + 1) W wr)) (fun _ q _ => l.length - (intOf q).toNat)
  case atStart => exact ⟨0, [], Nat.zero_le _, rfl, Nat.zero_le _, hide (by rw [Words.also_nil _ (Words.scanAt_form l 0).1 (Words.scanAt_form l 0).2]; exact unhide HR), hide (OwnT.nil _ _ _), hide (Below.refl _ _)⟩
  case round =>
    obtain ⟨i, done, hi, rfl, hdl, HEQ, HOWN, HBW⟩ := hrel
    by_cases hlt : i < l.length
    · have hs1 : i < (⟨l.toArray⟩ : ByteArray).size := hlt
      have hbv : (((⟨l.toArray⟩ : ByteArray)[i]'hs1).toNat : Int) = (l[i].toNat : Int) := rfl
      have hlt2 : (i : Int) < l.length := by omega
      have HSB := hide (step_blankAt l i hlt)
      have HSN := hide (fun e => step_nameAt l i e hlt)
      have HSD := hide (fun e => step_numAt l i e hlt)
      have HSS := hide (step_signAt l i hlt)
      generalize l[i] = c at *
      have HL := hide (fun W => letter_any c W)
      have HDG := hide (fun W => digit_any c W)
      by_cases hb : Words.blankB c = true
      · have HQ : Hid (Words.also done (Words.scanAt l (i + 1)) = R) := hide (by rw [← unhide HEQ, Words.scanAt_blank hlt (unhide HSB hb)])
        have hcc : c.toNat = 32 ∨ (((c.toNat : Int) == 32) = false ∧ c.toNat = 9) := by
          unfold Words.blankB at hb
          simp only [Bool.or_eq_true, decide_eq_true_eq] at hb
          simp only [beq_eq_false_iff_ne]
          omega
        clear hb
        generalize c.toNat = cn at *
        rcases hcc with rfl | ⟨k1, rfl⟩
        · go_wp2
          go_roundw
          case rel => exact ⟨i + 1, done, by omega, by go_num, by omega, HQ, HOWN, HBW⟩
          case measure => simp [intOf]; omega
        · go_wp2
          go_roundw
          case rel => exact ⟨i + 1, done, by omega, by go_num, by omega, HQ, HOWN, HBW⟩
          case measure => simp [intOf]; omega
      replace hb : Words.blankB c = false := by simpa using hb
      obtain ⟨k32, k9⟩ := blank_no c hb
      by_cases hlet : Words.letterB c = true
      · rw [hlet] at HL
        obtain ⟨e, he1, he2, he3, he4, he5⟩ := run_spec Words.behindB l i hi
        have HST := hide (unhide HSN e hb hlet he1 he5)
        have HE3 := hide he3
        have HE4 := hide he4
        have hie : i ≤ e := by omega
        clear hb he1 he3 he4 he5 HSB HSN HSD HSS HDG hlet
        generalize c.toNat = cn at *
        go_upto_block 3 with (go_at_call 33; refine (unhide HL _).mono ?_; rintro ev w1 ⟨rfl, hw⟩; have hw := hw.symm; subst hw)
        go_cut [5] from 11 to 136 (fun x wx => x = .int .i64 e ∧ wx = wr)
        case first =>
          go_wp2_with fail
          go_loopw [5] (fun x wx => ∃ j : Nat, i ≤ j ∧ j ≤ e ∧ x = .int .i64 j ∧ wx = wr) (fun x _ => e - (intOf x).toNat)
          case atStart => exact ⟨i, Nat.le_refl _, hie, rfl, rfl⟩
          case round =>
            obtain ⟨j, hij, hje, rfl, rfl⟩ := hrel
            by_cases hj : j < e
            · have hjl : j < l.length := by omega
              have q1 : decide (j < l.length) = true := decide_eq_true hjl
              have hs2 : j < (⟨l.toArray⟩ : ByteArray).size := hjl
              have hbv2 : (((⟨l.toArray⟩ : ByteArray)[j]'hs2).toNat : Int) = (l[j].toNat : Int) := rfl
              have hj2 : (j : Int) < l.length := by omega
              have HBH := hide (fun W => behind_any l[j] W)
              rw [unhide HE3 j hjl hij hj] at HBH
              generalize l[j].toNat = m at *
              go_wp2_with (go_at_call 34; refine (unhide HBH _).mono ?_; rintro ev w1 ⟨rfl, hw⟩; have hw := hw.symm; subst hw)
              go_roundw
              case rel => exact ⟨j + 1, by omega, by omega, by go_num, trivial⟩
              case measure => simp [intOf]; omega
            · obtain rfl : j = e := by omega
              by_cases hjl : j < l.length
              · have q1 : decide (j < l.length) = true := decide_eq_true hjl
                have hs2 : j < (⟨l.toArray⟩ : ByteArray).size := hjl
                have hbv2 : (((⟨l.toArray⟩ : ByteArray)[j]'hs2).toNat : Int) = (l[j].toNat : Int) := rfl
                have hj2 : (j : Int) < l.length := by omega
                have HBH := hide (fun W => behind_any l[j] W)
                rw [unhide HE4 hjl] at HBH
                generalize l[j].toNat = m at *
                go_wp2_with (go_at_call 34; refine (unhide HBH _).mono ?_; rintro ev w1 ⟨rfl, hw⟩; have hw := hw.symm; subst hw)
                go_meet
                case rel => exact ⟨rfl, rfl⟩
              · have q1 : decide (j < l.length) = false := decide_eq_false hjl
                go_wp2_with fail
                go_meet
                case rel => exact ⟨rfl, rfl⟩
        case rest =>
          obtain ⟨rfl, hwc⟩ := hcut
          have hwc := hwc.symm
          subst hwc
          have hel : (e : Int) ≤ l.length := by omega
          have hie2 : (i : Int) ≤ e := by omega
          go_wp2_with fail
          rw [ext]
          obtain ⟨X, hX⟩ : ∃ X, (l.drop i).take (e - i) = X := ⟨_, rfl⟩
          rw [hX] at HST ⊢
          have HX := hide hX
          have hXe : (⟨l.toArray⟩ : ByteArray).extract i e = ⟨X.toArray⟩ := by rw [ext, hX]
          clear hX
          refine (refIsKey_any X _).mono ?_
          rintro ev w5 ⟨rfl, hb5⟩
          have HB5 : Hid (Below (w.heap.size + 1) W w5) := hide ((unhide HBW).trans (hb5.mono (Nat.le_trans hs (unhide HBW).size)))
          have HOWN5 := hide ((unhide HOWN).below hb5)
          clear hb5
          generalize Words.isKey X = ky at *
          by_cases h31 : 31 < e - i
          · have HRR : Hid (R = ([], 4, i)) := hide (by
              have h1 := unhide HST
              rw [if_pos h31] at h1
              rw [← unhide HEQ, Words.scanAt_bad hlt h1]
              rfl)
            have q31 : (31 : Int) < (e : Int) - i := by omega
            have q32 : decide ((31 : Int) < (e : Int) - i) = true := decide_eq_true q31
            cases ky
            all_goals (
              have HAT := hide (fun W => at_any wWord i 4 W)
              have HKK := hide (And.intro (((unhide HB5).cell (p := ⟨w.heap.size, 0, none⟩) (Nat.lt_succ_self _)).trans (unhide HC).1) (And.intro (((unhide HB5).cell (p := ⟨w.heap.size, 1, none⟩) (Nat.lt_succ_self _)).trans (unhide HC).2.1) (And.intro (((unhide HB5).frozen (p := ⟨w.heap.size, 0, none⟩) (Nat.lt_succ_self _)).trans (unhide HC).2.2.1) (((unhide HB5).frozen (p := ⟨w.heap.size, 1, none⟩) (Nat.lt_succ_self _)).trans (unhide HC).2.2.2))))
              have hs5 : w.heap.size < (w5).heap.size := Nat.lt_of_lt_of_le (Nat.lt_of_lt_of_le (Nat.lt_succ_self _) hs) (unhide HB5).size
              go_wp2_with (go_at_call 20; refine (unhide HAT _).mono ?_; rintro ev w8 ⟨b8, rfl, hb8, h0, h1, hB8⟩; have k0 := (hB8.cell (p := ⟨w.heap.size, 0, none⟩) hs5).trans (unhide HKK).1; have k1 := (hB8.cell (p := ⟨w.heap.size, 1, none⟩) hs5).trans (unhide HKK).2.1; have l0 := (hB8.frozen (p := ⟨w.heap.size, 0, none⟩) hs5).trans (unhide HKK).2.2.1; have l1 := (hB8.frozen (p := ⟨w.heap.size, 1, none⟩) hs5).trans (unhide HKK).2.2.2)
              rw [unhide HRR]
              have y8 : Below (w.heap.size + 1) W w8 := (unhide HB5).trans (hB8.mono hs5)
              exact bodyPost_ret (v := .tuple #[.slice none 0 0, .agg #[.slice (some ⟨b8, 0, none⟩) 1 1, .int .i64 4]]) (by simp [results, Tryz.results10, go_sem, k0, k1]) rfl ⟨_, _, rfl, OwnT.nil _ _ _, told_mk (err := 4) (by decide) (Nat.le_trans hs5 hb8) h0 h1, (((unhide HB2).trans (y8.mono (by omega))).setCell (Nat.le_refl _) _).setCell (Nat.le_refl _) _⟩)
          · have q31 : ¬ (31 : Int) < (e : Int) - i := by omega
            have q32 : decide ((31 : Int) < (e : Int) - i) = false := decide_eq_false q31
            have HST2 := unhide HST
            rw [if_neg h31] at HST2
            have hlen := (Words.step_len HST2).1
            have hie3 : i < e := by omega
            have HQ0 : Hid (Words.also (done ++ [⟨if ky then 4 else 1, X, i, 0⟩]) (Words.scanAt l e) = R) := hide (by
              rw [← unhide HEQ, Words.scanAt_tok hlt HST2, Words.also_also, unhide HX, show i + (e - i) = e by omega])
            clear HST2 hlen
            cases ky
            · have HQ : Hid (Words.also (done ++ [⟨1, X, i, 0⟩]) (Words.scanAt l e) = R) := HQ0
              have hown5 := (unhide HOWN5)
              obtain ⟨v9, w9, hr9, ho9, hg9⟩ := append_rtok hown5 ⟨1, X, i, 0⟩ (Nat.le_trans hs (unhide HB5).size) (by omega)
              have y9 : Below (w.heap.size + 1) W w9 := ((unhide HB5).alloc (Nat.le_trans hs (unhide HB5).size) _).grown hg9 (by have := (unhide HB5).size; simp; omega) (fun j hj => (World.ownsRow.lt hown5 j hj).1)
              have H9 := hide (And.intro ho9 y9)
              clear hown5 ho9 hg9 y9
              go_wp2_with (at_builtin; refine wpList_append_runT rfl _ _ rfl rfl _ _ rfl rfl v9 w9 hr9 ?_)
              go_roundw
              case rel => exact ⟨e, done ++ [⟨1, X, i, 0⟩], by omega, by first | rfl | go_num, by rw [List.length_append, List.length_singleton]; omega, HQ, hide (unhide H9).1, hide (unhide H9).2⟩
              case measure => simp [intOf]; omega
            · have HQ : Hid (Words.also (done ++ [⟨4, X, i, 0⟩]) (Words.scanAt l e) = R) := HQ0
              have hown5 := (unhide HOWN5)
              obtain ⟨v9, w9, hr9, ho9, hg9⟩ := append_rtok hown5 ⟨4, X, i, 0⟩ (Nat.le_trans hs (unhide HB5).size) (by omega)
              have y9 : Below (w.heap.size + 1) W w9 := ((unhide HB5).alloc (Nat.le_trans hs (unhide HB5).size) _).grown hg9 (by have := (unhide HB5).size; simp; omega) (fun j hj => (World.ownsRow.lt hown5 j hj).1)
              have H9 := hide (And.intro ho9 y9)
              clear hown5 ho9 hg9 y9
              go_wp2_with (at_builtin; refine wpList_append_runT rfl _ _ rfl rfl _ _ rfl rfl v9 w9 hr9 ?_)
              go_roundw
              case rel => exact ⟨e, done ++ [⟨4, X, i, 0⟩], by omega, by first | rfl | go_num, by rw [List.length_append, List.length_singleton]; omega, HQ, hide (unhide H9).1, hide (unhide H9).2⟩
              case measure => simp [intOf]; omega
      replace hlet : Words.letterB c = false := by simpa using hlet
      rw [hlet] at HL
      by_cases hdig : Words.digitB c = true
      · rw [hdig] at HDG
        obtain ⟨e, he1, he2, he3, he4, he5⟩ := run_spec Words.digitB l i hi
        have HST := hide (unhide HSD e hb hlet hdig he1 he5)
        have HXD : Hid (∀ k (h : k < ((l.drop i).take (e - i)).length), Words.digitB ((l.drop i).take (e - i))[k] = true) := hide (fun k h => by
          have h1 : k < e - i := by rw [List.length_take] at h; omega
          have h2 : i + k < l.length := by omega
          rw [List.getElem_take, List.getElem_drop]
          exact he3 (i + k) h2 (by omega) (by omega))
        have HE3 := hide he3
        have HE4 := hide he4
        have hie : i ≤ e := by omega
        clear hb he1 he3 he4 he5 HSB HSN HSD HSS hdig hlet
        generalize c.toNat = cn at *
        go_upto_block 5 with (first | (go_at_call 33; refine (unhide HL _).mono ?_; rintro ev w1 ⟨rfl, hw⟩; have hw := hw.symm; subst hw) | (go_at_call 36; refine (unhide HDG _).mono ?_; rintro ev w1 ⟨rfl, hw⟩; have hw := hw.symm; subst hw))
        go_cut [5] from 11 to 136 (fun x wx => x = .int .i64 e ∧ wx = wr)
        case first =>
          go_wp2_with fail
          go_loopw [5] (fun x wx => ∃ j : Nat, i ≤ j ∧ j ≤ e ∧ x = .int .i64 j ∧ wx = wr) (fun x _ => e - (intOf x).toNat)
          case atStart => exact ⟨i, Nat.le_refl _, hie, rfl, rfl⟩
          case round =>
            obtain ⟨j, hij, hje, rfl, rfl⟩ := hrel
            by_cases hj : j < e
            · have hjl : j < l.length := by omega
              have q1 : decide (j < l.length) = true := decide_eq_true hjl
              have hs2 : j < (⟨l.toArray⟩ : ByteArray).size := hjl
              have hbv2 : (((⟨l.toArray⟩ : ByteArray)[j]'hs2).toNat : Int) = (l[j].toNat : Int) := rfl
              have hj2 : (j : Int) < l.length := by omega
              have HBH := hide (fun W => digit_any l[j] W)
              rw [unhide HE3 j hjl hij hj] at HBH
              generalize l[j].toNat = m at *
              go_wp2_with (go_at_call 36; refine (unhide HBH _).mono ?_; rintro ev w1 ⟨rfl, hw⟩; have hw := hw.symm; subst hw)
              go_roundw
              case rel => exact ⟨j + 1, by omega, by omega, by go_num, trivial⟩
              case measure => simp [intOf]; omega
            · obtain rfl : j = e := by omega
              by_cases hjl : j < l.length
              · have q1 : decide (j < l.length) = true := decide_eq_true hjl
                have hs2 : j < (⟨l.toArray⟩ : ByteArray).size := hjl
                have hbv2 : (((⟨l.toArray⟩ : ByteArray)[j]'hs2).toNat : Int) = (l[j].toNat : Int) := rfl
                have hj2 : (j : Int) < l.length := by omega
                have HBH := hide (fun W => digit_any l[j] W)
                rw [unhide HE4 hjl] at HBH
                generalize l[j].toNat = m at *
                go_wp2_with (go_at_call 36; refine (unhide HBH _).mono ?_; rintro ev w1 ⟨rfl, hw⟩; have hw := hw.symm; subst hw)
                go_meet
                case rel => exact ⟨rfl, rfl⟩
              · have q1 : decide (j < l.length) = false := decide_eq_false hjl
                go_wp2_with fail
                go_meet
                case rel => exact ⟨rfl, rfl⟩
        case rest =>
          obtain ⟨rfl, hwc⟩ := hcut
          have hwc := hwc.symm
          subst hwc
          have hel : (e : Int) ≤ l.length := by omega
          have hie2 : (i : Int) ≤ e := by omega
          have HHE : Hid (∀ h : e < l.length, Words.headIs Words.letterB (l.drop e) = Words.letterB l[e]) := hide (fun h => headIs_at _ l e h)
          have HHN : Hid (¬ e < l.length → Words.headIs Words.letterB (l.drop e) = false) := hide (fun h => by rw [List.drop_of_length_le (by omega)]; rfl)
          go_wp2_with fail
          rw [ext]
          obtain ⟨X, hX⟩ : ∃ X, (l.drop i).take (e - i) = X := ⟨_, rfl⟩
          have hXl : X.length ≤ 1000000 := by rw [← hX, List.length_take, List.length_drop]; omega
          rw [hX] at HST HXD ⊢
          have HX := hide hX
          have hXe : (⟨l.toArray⟩ : ByteArray).extract i e = ⟨X.toArray⟩ := by rw [ext, hX]
          clear hX
          refine (refNumber_any X (unhide HXD) hXl _).mono ?_
          rintro ev w5 ⟨rfl, hw⟩
          have hw := hw.symm
          subst hw
          by_cases hov : Words.num X ≤ Words.big
          · rw [if_pos hov, decide_eq_true hov]
            have HST2 := unhide HST
            rw [if_neg (by omega)] at HST2
            have HST3 := hide HST2
            clear HST2
            generalize hnX : Words.num X = nX at *
            have HNX := hide hnX
            clear hnX
            by_cases hel2 : e < l.length
            · have q1 : decide (e < l.length) = true := decide_eq_true hel2
              have hs2 : e < (⟨l.toArray⟩ : ByteArray).size := hel2
              have hbv2 : (((⟨l.toArray⟩ : ByteArray)[e]'hs2).toNat : Int) = (l[e].toNat : Int) := rfl
              have hj2 : (e : Int) < l.length := by omega
              have HL2 := hide (fun W => letter_any l[e] W)
              have HHE2 := unhide HHE hel2
              by_cases hle : Words.letterB l[e] = true
              · rw [hle] at HL2
                have HRR : Hid (R = ([], 3, e)) := hide (by
                  have h1 := unhide HST3
                  rw [HHE2, hle, if_pos rfl] at h1
                  rw [← unhide HEQ, Words.scanAt_bad hlt h1, show i + (e - i) = e by omega]
                  rfl)
                clear hle HHE2
                generalize l[e].toNat = m at *
                have HAT := hide (fun W => at_any wWord e 3 W)
                have HKK := hide (And.intro (((unhide HBW).cell (p := ⟨w.heap.size, 0, none⟩) (Nat.lt_succ_self _)).trans (unhide HC).1) (And.intro (((unhide HBW).cell (p := ⟨w.heap.size, 1, none⟩) (Nat.lt_succ_self _)).trans (unhide HC).2.1) (And.intro (((unhide HBW).frozen (p := ⟨w.heap.size, 0, none⟩) (Nat.lt_succ_self _)).trans (unhide HC).2.2.1) (((unhide HBW).frozen (p := ⟨w.heap.size, 1, none⟩) (Nat.lt_succ_self _)).trans (unhide HC).2.2.2))))
                have hs5 : w.heap.size < (wr).heap.size := Nat.lt_of_lt_of_le (Nat.lt_of_lt_of_le (Nat.lt_succ_self _) hs) (unhide HBW).size
                go_wp2_with (first | (go_at_call 20; refine (unhide HAT _).mono ?_; rintro ev w8 ⟨b8, rfl, hb8, h0, h1, hB8⟩; have k0 := (hB8.cell (p := ⟨w.heap.size, 0, none⟩) hs5).trans (unhide HKK).1; have k1 := (hB8.cell (p := ⟨w.heap.size, 1, none⟩) hs5).trans (unhide HKK).2.1; have l0 := (hB8.frozen (p := ⟨w.heap.size, 0, none⟩) hs5).trans (unhide HKK).2.2.1; have l1 := (hB8.frozen (p := ⟨w.heap.size, 1, none⟩) hs5).trans (unhide HKK).2.2.2) | (go_at_call 33; refine (unhide HL2 _).mono ?_; rintro ev w1 ⟨rfl, hw⟩; have hw := hw.symm; subst hw))
                rw [unhide HRR]
                have y8 : Below (w.heap.size + 1) W w8 := (unhide HBW).trans (hB8.mono hs5)
                exact bodyPost_ret (v := .tuple #[.slice none 0 0, .agg #[.slice (some ⟨b8, 0, none⟩) 1 1, .int .i64 3]]) (by simp [results, Tryz.results10, go_sem, k0, k1]) rfl ⟨_, _, rfl, OwnT.nil _ _ _, told_mk (err := 3) (by decide) (Nat.le_trans hs5 hb8) h0 h1, (((unhide HB2).trans (y8.mono (by omega))).setCell (Nat.le_refl _) _).setCell (Nat.le_refl _) _⟩
              · replace hle : Words.letterB l[e] = false := by simpa using hle
                rw [hle] at HL2
                have h1 := unhide HST3
                rw [HHE2, hle, if_neg (by decide)] at h1
                have hlen := (Words.step_len h1).1
                have hie3 : i < e := by omega
                have HQ : Hid (Words.also (done ++ [⟨2, X, i, nX⟩]) (Words.scanAt l e) = R) := hide (by
                  rw [← unhide HEQ, Words.scanAt_tok hlt h1, Words.also_also, unhide HX, show i + (e - i) = e by omega])
                clear h1 hlen hle HHE2
                generalize l[e].toNat = m at *
                have hown5 := (unhide HOWN)
                obtain ⟨v9, w9, hr9, ho9, hg9⟩ := append_rtok hown5 ⟨2, X, i, nX⟩ (Nat.le_trans hs (unhide HBW).size) (by omega)
                have y9 : Below (w.heap.size + 1) W w9 := ((unhide HBW).alloc (Nat.le_trans hs (unhide HBW).size) _).grown hg9 (by have := (unhide HBW).size; simp; omega) (fun j hj => (World.ownsRow.lt hown5 j hj).1)
                have H9 := hide (And.intro ho9 y9)
                clear hown5 ho9 hg9 y9
                go_wp2_with (first | (at_builtin; refine wpList_append_runT rfl _ _ rfl rfl _ _ rfl rfl v9 w9 hr9 ?_) | (go_at_call 33; refine (unhide HL2 _).mono ?_; rintro ev w1 ⟨rfl, hw⟩; have hw := hw.symm; subst hw))
                go_roundw
                case rel => exact ⟨e, done ++ [⟨2, X, i, nX⟩], by omega, by first | rfl | go_num, by rw [List.length_append, List.length_singleton]; omega, HQ, hide (unhide H9).1, hide (unhide H9).2⟩
                case measure => simp [intOf]; omega
            · have q1 : decide (e < l.length) = false := decide_eq_false hel2
              have h1 := unhide HST3
              rw [unhide HHN hel2, if_neg (by decide)] at h1
              have hlen := (Words.step_len h1).1
              have hie3 : i < e := by omega
              have HQ : Hid (Words.also (done ++ [⟨2, X, i, nX⟩]) (Words.scanAt l e) = R) := hide (by
                rw [← unhide HEQ, Words.scanAt_tok hlt h1, Words.also_also, unhide HX, show i + (e - i) = e by omega])
              clear h1 hlen
              have hown5 := (unhide HOWN)
              obtain ⟨v9, w9, hr9, ho9, hg9⟩ := append_rtok hown5 ⟨2, X, i, nX⟩ (Nat.le_trans hs (unhide HBW).size) (by omega)
              have y9 : Below (w.heap.size + 1) W w9 := ((unhide HBW).alloc (Nat.le_trans hs (unhide HBW).size) _).grown hg9 (by have := (unhide HBW).size; simp; omega) (fun j hj => (World.ownsRow.lt hown5 j hj).1)
              have H9 := hide (And.intro ho9 y9)
              clear hown5 ho9 hg9 y9
              go_wp2_with (first | (at_builtin; refine wpList_append_runT rfl _ _ rfl rfl _ _ rfl rfl v9 w9 hr9 ?_))
              go_roundw
              case rel => exact ⟨e, done ++ [⟨2, X, i, nX⟩], by omega, by first | rfl | go_num, by rw [List.length_append, List.length_singleton]; omega, HQ, hide (unhide H9).1, hide (unhide H9).2⟩
              case measure => simp [intOf]; omega
          · rw [if_neg hov, decide_eq_false hov]
            have HRR : Hid (R = ([], 5, i)) := hide (by
              have h1 := unhide HST
              rw [if_pos (by omega)] at h1
              rw [← unhide HEQ, Words.scanAt_bad hlt h1]
              rfl)
            clear hov
            have HAT := hide (fun W => at_any wWord i 5 W)
            have HKK := hide (And.intro (((unhide HBW).cell (p := ⟨w.heap.size, 0, none⟩) (Nat.lt_succ_self _)).trans (unhide HC).1) (And.intro (((unhide HBW).cell (p := ⟨w.heap.size, 1, none⟩) (Nat.lt_succ_self _)).trans (unhide HC).2.1) (And.intro (((unhide HBW).frozen (p := ⟨w.heap.size, 0, none⟩) (Nat.lt_succ_self _)).trans (unhide HC).2.2.1) (((unhide HBW).frozen (p := ⟨w.heap.size, 1, none⟩) (Nat.lt_succ_self _)).trans (unhide HC).2.2.2))))
            have hs5 : w.heap.size < (wr).heap.size := Nat.lt_of_lt_of_le (Nat.lt_of_lt_of_le (Nat.lt_succ_self _) hs) (unhide HBW).size
            go_wp2_with ((go_at_call 20; refine (unhide HAT _).mono ?_; rintro ev w8 ⟨b8, rfl, hb8, h0, h1, hB8⟩; have k0 := (hB8.cell (p := ⟨w.heap.size, 0, none⟩) hs5).trans (unhide HKK).1; have k1 := (hB8.cell (p := ⟨w.heap.size, 1, none⟩) hs5).trans (unhide HKK).2.1; have l0 := (hB8.frozen (p := ⟨w.heap.size, 0, none⟩) hs5).trans (unhide HKK).2.2.1; have l1 := (hB8.frozen (p := ⟨w.heap.size, 1, none⟩) hs5).trans (unhide HKK).2.2.2))
            rw [unhide HRR]
            have y8 : Below (w.heap.size + 1) W w8 := (unhide HBW).trans (hB8.mono hs5)
            exact bodyPost_ret (v := .tuple #[.slice none 0 0, .agg #[.slice (some ⟨b8, 0, none⟩) 1 1, .int .i64 5]]) (by simp [results, Tryz.results10, go_sem, k0, k1]) rfl ⟨_, _, rfl, OwnT.nil _ _ _, told_mk (err := 5) (by decide) (Nat.le_trans hs5 hb8) h0 h1, (((unhide HB2).trans (y8.mono (by omega))).setCell (Nat.le_refl _) _).setCell (Nat.le_refl _) _⟩
      replace hdig : Words.digitB c = false := by simpa using hdig
      rw [hdig] at HDG
      have HST := hide (unhide HSS hb hlet hdig)
      have HSG := hide (fun W => refSign_any l i hlt (by omega) W)
      have HKL : Hid (Words.signLen (l.drop i) ≤ 2) := hide (by
        cases l.drop i with
        | nil => simp [Words.signLen]
        | cons a b => simp only [Words.signLen]; split <;> (try split) <;> omega)
      clear hb hlet hdig HSB HSN HSD HSS
      generalize Words.signLen (l.drop i) = k at *
      generalize c.toNat = cn at *
      by_cases hk0 : k = 0
      · subst hk0
        have HRR : Hid (R = ([], 3, i)) := hide (by
          have h1 := unhide HST
          rw [if_pos rfl] at h1
          rw [← unhide HEQ, Words.scanAt_bad hlt h1]
          rfl)
        have HAT := hide (fun W => at_any wWord i 3 W)
        have HKK := hide (And.intro (((unhide HBW).cell (p := ⟨w.heap.size, 0, none⟩) (Nat.lt_succ_self _)).trans (unhide HC).1) (And.intro (((unhide HBW).cell (p := ⟨w.heap.size, 1, none⟩) (Nat.lt_succ_self _)).trans (unhide HC).2.1) (And.intro (((unhide HBW).frozen (p := ⟨w.heap.size, 0, none⟩) (Nat.lt_succ_self _)).trans (unhide HC).2.2.1) (((unhide HBW).frozen (p := ⟨w.heap.size, 1, none⟩) (Nat.lt_succ_self _)).trans (unhide HC).2.2.2))))
        have hs5 : w.heap.size < (wr).heap.size := Nat.lt_of_lt_of_le (Nat.lt_of_lt_of_le (Nat.lt_succ_self _) hs) (unhide HBW).size
        go_wp2_with (first | (go_at_call 33; refine (unhide HL _).mono ?_; rintro ev w1 ⟨rfl, hw⟩; have hw := hw.symm; subst hw) | (go_at_call 36; refine (unhide HDG _).mono ?_; rintro ev w1 ⟨rfl, hw⟩; have hw := hw.symm; subst hw) | (go_at_call 38; refine (unhide HSG _).mono ?_; rintro ev w1 ⟨rfl, hw⟩; have hw := hw.symm; subst hw) | (go_at_call 20; refine (unhide HAT _).mono ?_; rintro ev w8 ⟨b8, rfl, hb8, h0, h1, hB8⟩; have k0 := (hB8.cell (p := ⟨w.heap.size, 0, none⟩) hs5).trans (unhide HKK).1; have k1 := (hB8.cell (p := ⟨w.heap.size, 1, none⟩) hs5).trans (unhide HKK).2.1; have l0 := (hB8.frozen (p := ⟨w.heap.size, 0, none⟩) hs5).trans (unhide HKK).2.2.1; have l1 := (hB8.frozen (p := ⟨w.heap.size, 1, none⟩) hs5).trans (unhide HKK).2.2.2))
        rw [unhide HRR]
        have y8 : Below (w.heap.size + 1) W w8 := (unhide HBW).trans (hB8.mono hs5)
        exact bodyPost_ret (v := .tuple #[.slice none 0 0, .agg #[.slice (some ⟨b8, 0, none⟩) 1 1, .int .i64 3]]) (by simp [results, Tryz.results10, go_sem, k0, k1]) rfl ⟨_, _, rfl, OwnT.nil _ _ _, told_mk (err := 3) (by decide) (Nat.le_trans hs5 hb8) h0 h1, (((unhide HB2).trans (y8.mono (by omega))).setCell (Nat.le_refl _) _).setCell (Nat.le_refl _) _⟩
      · have h1 := unhide HST
        rw [if_neg hk0] at h1
        have hlen := (Words.step_len h1).2
        rw [List.length_drop] at hlen
        have hk2 := unhide HKL
        obtain ⟨X, hX⟩ : ∃ X, (l.drop i).take k = X := ⟨_, rfl⟩
        obtain ⟨e, he⟩ : ∃ e, i + k = e := ⟨_, rfl⟩
        have hXe : (⟨l.toArray⟩ : ByteArray).extract i e = ⟨X.toArray⟩ := by rw [ext, ← he, Nat.add_sub_cancel_left, hX]
        have HQ : Hid (Words.also (done ++ [⟨3, X, i, 0⟩]) (Words.scanAt l e) = R) := hide (by
          rw [← unhide HEQ, Words.scanAt_tok hlt h1, Words.also_also, hX, he])
        clear h1 hX
        have hk0' : ((k : Int) == 0) = false := by rw [beq_eq_false_iff_ne]; omega
        have hk0'' : ¬ (k : Int) = 0 := by omega
        have hee : (i : Int) + k = e := by omega
        have hel : (e : Int) ≤ l.length := by omega
        have hie2 : (i : Int) ≤ e := by omega
        have hown5 := (unhide HOWN)
        obtain ⟨v9, w9, hr9, ho9, hg9⟩ := append_rtok hown5 ⟨3, X, i, 0⟩ (Nat.le_trans hs (unhide HBW).size) (by omega)
        have y9 : Below (w.heap.size + 1) W w9 := ((unhide HBW).alloc (Nat.le_trans hs (unhide HBW).size) _).grown hg9 (by have := (unhide HBW).size; simp; omega) (fun j hj => (World.ownsRow.lt hown5 j hj).1)
        have H9 := hide (And.intro ho9 y9)
        clear hown5 ho9 hg9 y9
        go_wp2_with (first | (go_at_call 33; refine (unhide HL _).mono ?_; rintro ev w1 ⟨rfl, hw⟩; have hw := hw.symm; subst hw) | (go_at_call 36; refine (unhide HDG _).mono ?_; rintro ev w1 ⟨rfl, hw⟩; have hw := hw.symm; subst hw) | (go_at_call 38; refine (unhide HSG _).mono ?_; rintro ev w1 ⟨rfl, hw⟩; have hw := hw.symm; subst hw) | (at_builtin; refine wpList_append_runT rfl _ _ rfl rfl _ _ rfl rfl v9 w9 hr9 ?_))
        go_roundw
        case rel => exact ⟨e, done ++ [⟨3, X, i, 0⟩], by omega, by first | rfl | go_num, by rw [List.length_append, List.length_singleton]; omega, HQ, hide (unhide H9).1, hide (unhide H9).2⟩
        case measure => simp [intOf]; omega
    · have HRR : Hid (R = (done, 0, 0)) := hide (by rw [← unhide HEQ, Words.scanAt_end l i (by omega)]; unfold Words.also; simp)
      have k0 := ((unhide HBW).cell (p := ⟨w.heap.size, 0, none⟩) (Nat.lt_succ_self _)).trans (unhide HC).1
      have k1 := ((unhide HBW).cell (p := ⟨w.heap.size, 1, none⟩) (Nat.lt_succ_self _)).trans (unhide HC).2.1
      have l0 := ((unhide HBW).frozen (p := ⟨w.heap.size, 0, none⟩) (Nat.lt_succ_self _)).trans (unhide HC).2.2.1
      have l1 := ((unhide HBW).frozen (p := ⟨w.heap.size, 1, none⟩) (Nat.lt_succ_self _)).trans (unhide HC).2.2.2
      go_wp2
      rw [unhide HRR]
      exact bodyPost_ret (v := .tuple #[u4, .agg #[.slice none 0 0, .int .i64 0]]) (by simp [results, Tryz.results10, go_sem, k0, k1]) rfl ⟨_, _, rfl, ownT_fin (unhide HOWN), .inl ⟨rfl, rfl⟩, (((unhide HB2).trans ((unhide HBW).mono (by omega))).setCell (Nat.le_refl _) _).setCell (Nat.le_refl _) _⟩
end Go.Proofs.YtepnafnljfjeoaaGreatDoor.Line
