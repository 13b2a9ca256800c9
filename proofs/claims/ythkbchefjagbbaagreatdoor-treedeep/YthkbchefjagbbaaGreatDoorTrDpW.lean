/- TreeDeep, walked. -/
import Derived.Test.YthkbchefjagbbaaGreatDoorTrDpQ
namespace Go.Proofs.YthkbchefjagbbaaGreatDoor.Line
open Go.ChangeShapes Go.WideShapes Go.ChangeAt Go.RowKit
open Ex (E St)
set_option linter.unusedVariables false

theorem dp_bit (v i : Nat) : dpBit v i = 0 ∨ dpBit v i = 1 := by
  unfold dpBit
  rw [Nat.and_one_is_mod]
  omega
theorem bits_one : ∀ n : Fin 256, bits BinOp.and IntKind.u8 ((n.val : Nat) : Int) 1 = ((n.val &&& 1 : Nat) : Int) := by decide +kernel
theorem dp_bits (v i : Nat) (hv : v ≤ 255) : bits BinOp.and IntKind.u8 ((v : Int) / 2 ^ (i % 8)) 1 = ((dpBit v i : Nat) : Int) := by
  have h : ((v : Int) / 2 ^ (i % 8)) = ((v / 2 ^ (i % 8) : Nat) : Int) := by simp
  rw [h]
  unfold dpBit
  rw [Nat.shiftRight_eq_div_pow]
  exact bits_one ⟨v / 2 ^ (i % 8), by have := Nat.div_le_self v (2 ^ (i % 8)); omega⟩
theorem dp_op0 {v j : Nat} (h : dpBit v j = 0) : (dpOp v j).1 = lA := by simp [dpOp, h]
theorem dp_op1 {v j : Nat} (h : dpBit v j = 1) : (dpOp v j).1 = chF := by simp [dpOp, h]
theorem dp_cl0 {v j : Nat} (h : dpBit v j = 0) : (dpCl v j).1 = lC := by simp [dpCl, h]
theorem dp_cl1 {v j : Nat} (h : dpBit v j = 1) : (dpCl v j).1 = chI := by simp [dpCl, h]
set_option maxHeartbeats 16000000 in
set_option maxRecDepth 100000 in
theorem treeDeep_walk (u v : Nat) (hu : u ≤ 255) (hv : v ≤ 255) (w : World) (hG : Glob w) : Calls Tryz.prog 6 #[.int .u8 u, .int .u8 v] w fun e w' => e = .returned (.bool true) ∧ Below w.heap.size w w' := by
  have HKN := hide (known7_any w hG)
  have HG := hide hG
  clear hG
  go_enter Tryz.func6, Tryz.ntmps6
  go_wp2_with fail
  refine (unhide HKN).mono ?_
  rintro e w1 ⟨rfl, hb1⟩
  have HB1 := hide hb1
  clear hb1
  go_wp2_with fail
  have e1 : ((u : Int) % 12) = ((u % 12 : Nat) : Int) := by omega
  rw [e1]
  have hk : u % 12 < 12 := by omega
  generalize u % 12 = k at *
  clear e1
  go_loopw [6, 7] (fun l i wr => ∃ (j : Nat) (lv : Value), l = lv ∧ i = .int .i64 j ∧ j ≤ k ∧ Hid (Own w1.heap.size wr lv (dpL j v 0) ∧ Below w1.heap.size w1 wr)) (fun _ i _ => k - (intOf i).toNat)
  case atStart => exact ⟨0, _, rfl, rfl, Nat.zero_le _, hide ⟨Own.nil _ _, Below.refl _ _⟩⟩
  case round =>
    obtain ⟨j, lv, hlv, rfl, hj, HI⟩ := hrel
    subst hlv
    by_cases hlt : j < k
    · have i1 : (j : Int) < k := by omega
      have i2 : (j : Int) ≤ 12 := by omega
      have i3 : 0 ≤ (j : Int) % 8 := by omega
      have i4 : (j : Int) % 8 ≤ 7 := by omega
      have hbit := dp_bits v j hv
      have ba := alloc_below wr (.cells #[.string ⟨#[100, 111, 32, 105, 32, 61, 32, 49, 44, 32, 50, 10]⟩, .string ⟨#[105, 102, 32, 40, 120, 32, 60, 32, 49, 41, 32, 116, 104, 101, 110, 10]⟩] SGT)
      have hsz : (wr.alloc (.cells #[.string ⟨#[100, 111, 32, 105, 32, 61, 32, 49, 44, 32, 50, 10]⟩, .string ⟨#[105, 102, 32, 40, 120, 32, 60, 32, 49, 41, 32, 116, 104, 101, 110, 10]⟩] SGT)).heap.size = wr.heap.size + 1 := by simp
      have hbs : w1.heap.size ≤ (wr.alloc (.cells #[.string ⟨#[100, 111, 32, 105, 32, 61, 32, 49, 44, 32, 50, 10]⟩, .string ⟨#[105, 102, 32, 40, 120, 32, 60, 32, 49, 41, 32, 116, 104, 101, 110, 10]⟩] SGT)).heap.size := by have := (unhide HI).2.size; omega
      rcases dp_bit v j with hb | hb
      · obtain ⟨v', w2, hr2, ho2, hb2⟩ := push1 ((unhide HI).1.below ba) hbs lA (by rw [dp_len]; omega)
        have HN : Hid (Own w1.heap.size w2 v' (dpL (j + 1) v 0) ∧ Below w1.heap.size w1 w2) := hide ⟨by rw [dp_open, dp_op0 hb]; exact ho2, (bthen (unhide HI).2 ba).trans hb2⟩
        rw [hsz] at hr2
        have HR2 := hide hr2
        rw [hb] at hbit
        clear hr2 ho2 hb2 HI ba hsz hbs hb
        go_wp2_with (at_builtin; refine wpList_append_runG SGS rfl _ _ rfl rfl _ _ rfl rfl _ _ (unhide HR2) ?_)
        go_roundw
        case rel => exact ⟨j + 1, v', rfl, by go_num, by omega, HN⟩
        case measure => simp [intOf]; omega
      · obtain ⟨v', w2, hr2, ho2, hb2⟩ := push1 ((unhide HI).1.below ba) hbs chF (by rw [dp_len]; omega)
        have HN : Hid (Own w1.heap.size w2 v' (dpL (j + 1) v 0) ∧ Below w1.heap.size w1 w2) := hide ⟨by rw [dp_open, dp_op1 hb]; exact ho2, (bthen (unhide HI).2 ba).trans hb2⟩
        rw [hsz] at hr2
        have HR2 := hide hr2
        rw [hb] at hbit
        clear hr2 ho2 hb2 HI ba hsz hbs hb
        go_wp2_with (at_builtin; refine wpList_append_runG SGS rfl _ _ rfl rfl _ _ rfl rfl _ _ (unhide HR2) ?_)
        go_roundw
        case rel => exact ⟨j + 1, v', rfl, by go_num, by omega, HN⟩
        case measure => simp [intOf]; omega
    · have hjk : j = k := by omega
      subst hjk
      have hlt2 : ¬ (j : Int) < j := by omega
      have i1 : (j : Int) ≤ 11 := by omega
      go_wp2
      go_loopw [6, 8] (fun l i wr => ∃ (t : Nat) (lv : Value), l = lv ∧ i = .int .i64 ((j : Int) - 1 - t) ∧ t ≤ j ∧ Hid (Own w1.heap.size wr lv (dpL j v t) ∧ Below w1.heap.size w1 wr)) (fun _ i _ => (intOf i + 1).toNat)
      case atStart => exact ⟨0, _, rfl, by simp, Nat.zero_le _, hide ⟨(unhide HI).1, (unhide HI).2⟩⟩
      case round =>
        clear HI
        obtain ⟨t, lv, hlv, rfl, ht, HI⟩ := hrel
        subst hlv
        by_cases hlt : t < j
        · obtain ⟨c, hc⟩ : ∃ c, c = j - 1 - t := ⟨_, rfl⟩
          have hci : (j : Int) - 1 - t = c := by omega
          rw [hci]
          have i2 : (0 : Int) ≤ c := by omega
          have i5 : (c : Int) ≤ 11 := by omega
          have i3 : 0 ≤ (c : Int) % 8 := by omega
          have i4 : (c : Int) % 8 ≤ 7 := by omega
          have hbit := dp_bits v c hv
          have hdl := dp_close j v t
          rw [← hc] at hdl
          have ba := alloc_below wr (.cells #[.string ⟨#[101, 110, 100, 32, 100, 111, 10]⟩, .string ⟨#[101, 110, 100, 32, 105, 102, 10]⟩] SGT)
          have hsz : (wr.alloc (.cells #[.string ⟨#[101, 110, 100, 32, 100, 111, 10]⟩, .string ⟨#[101, 110, 100, 32, 105, 102, 10]⟩] SGT)).heap.size = wr.heap.size + 1 := by simp
          have hbs : w1.heap.size ≤ (wr.alloc (.cells #[.string ⟨#[101, 110, 100, 32, 100, 111, 10]⟩, .string ⟨#[101, 110, 100, 32, 105, 102, 10]⟩] SGT)).heap.size := by have := (unhide HI).2.size; omega
          rcases dp_bit v c with hb | hb
          · obtain ⟨v', w2, hr2, ho2, hb2⟩ := push1 ((unhide HI).1.below ba) hbs lC (by rw [dp_len]; omega)
            have HN : Hid (Own w1.heap.size w2 v' (dpL j v (t + 1)) ∧ Below w1.heap.size w1 w2 ∧ (c : Int) - 1 = (j : Int) - 1 - ((t + 1 : Nat) : Int)) := hide ⟨by rw [hdl, dp_cl0 hb]; exact ho2, (bthen (unhide HI).2 ba).trans hb2, by omega⟩
            rw [hsz] at hr2
            have HR2 := hide hr2
            rw [hb] at hbit
            clear hr2 ho2 hb2 HI ba hsz hbs hb hdl hc hci
            go_wp2_with (at_builtin; refine wpList_append_runG SGS rfl _ _ rfl rfl _ _ rfl rfl _ _ (unhide HR2) ?_)
            go_roundw
            case rel => exact ⟨t + 1, v', rfl, by rw [(unhide HN).2.2], by omega, hide ⟨(unhide HN).1, (unhide HN).2.1⟩⟩
            case measure => simp [intOf]
          · obtain ⟨v', w2, hr2, ho2, hb2⟩ := push1 ((unhide HI).1.below ba) hbs chI (by rw [dp_len]; omega)
            have HN : Hid (Own w1.heap.size w2 v' (dpL j v (t + 1)) ∧ Below w1.heap.size w1 w2 ∧ (c : Int) - 1 = (j : Int) - 1 - ((t + 1 : Nat) : Int)) := hide ⟨by rw [hdl, dp_cl1 hb]; exact ho2, (bthen (unhide HI).2 ba).trans hb2, by omega⟩
            rw [hsz] at hr2
            have HR2 := hide hr2
            rw [hb] at hbit
            clear hr2 ho2 hb2 HI ba hsz hbs hb hdl hc hci
            go_wp2_with (at_builtin; refine wpList_append_runG SGS rfl _ _ rfl rfl _ _ rfl rfl _ _ (unhide HR2) ?_)
            go_roundw
            case rel => exact ⟨t + 1, v', rfl, by rw [(unhide HN).2.2], by omega, hide ⟨(unhide HN).1, (unhide HN).2.1⟩⟩
            case measure => simp [intOf]
        · have htm : t = j := by omega
          subst htm
          have hlt3 : ¬ (0 : Int) ≤ (t : Int) - 1 - t := by omega
          have HB2 : Hid (Below w.heap.size w wr) := hide (bthen (unhide HB1) (unhide HI).2)
          have HOF := hide (of_tree _ _ wr (unhide HI).1.row (dp_short t v t) (by rw [dp_len]; omega) ((unhide HG).below (unhide HB2)))
          clear HI
          go_wp2_with fail
          refine (unhide HOF).mono ?_
          rintro e w3 ⟨hb3, hp3⟩
          have HB3 : Hid (Below w.heap.size w w3) := hide (bthen (unhide HB2) hb3)
          clear hb3
          rcases dp_post hk (by omega) hp3 with ⟨h8, g, rfl, hs⟩ | ⟨h8, D, nv, rfl, hn, hpre, hfit⟩
          · have HS := hide hs
            clear hs hp3
            have i3 : (8 : Int) < t := by omega
            have HA := hide (at_any [108, 105, 110, 101] 8 4 w3)
            go_wp2_with fail
            refine (unhide HA).mono ?_
            rintro e w4 ⟨tb, rfl, htb, ht0, ht1, hb4⟩
            have HB4 : Hid (Below w.heap.size w w4) := hide (bthen (unhide HB3) hb4)
            have HT := hide (tells_any (B' := 0) w4 g _ _ _ _ ((unhide HG).below (unhide HB4)) ((unhide HS).below hb4) (.inr ⟨by decide, tb, Nat.zero_le _, rfl, ht0, ht1⟩))
            clear hb4 ht0 ht1
            go_wp2_with fail
            refine (unhide HT).mono ?_
            rintro e w5 ⟨rfl, hb5⟩
            have HB5 : Hid (Below w.heap.size w w5) := hide (bthen (unhide HB4) hb5)
            clear hb5
            go_wp2
            go_ret
            exact ⟨rfl, unhide HB5⟩
          · clear hp3
            have i3 : ¬ (8 : Int) < t := by omega
            have hcnt := dp_count hpre
            have hsz : szP.szPs D ≤ 900000 := by have := pre_len D 0; omega
            obtain ⟨na, nc, rfl⟩ := hn.shape
            have HCT := hide (count_any w3 _ D _ hn (by omega))
            rw [hcnt] at HCT
            have HD := hide (And.intro hn (And.intro hpre (And.intro hfit (And.intro hsz hcnt))))
            clear hn hpre hfit hsz hcnt
            go_wp2_with fail
            refine (unhide HCT).mono ?_
            rintro e w4 ⟨rfl, hb4⟩
            have HB4 := hide hb4
            clear hb4
            go_wp2_with fail
            go_loopw [11] (fun i wr => ∃ (q : Nat), i = .int .i64 q ∧ q ≤ t ∧ Hid (Below w3.heap.size w3 wr)) (fun i _ => t - (intOf i).toNat)
            case atStart => exact ⟨0, rfl, Nat.zero_le _, HB4⟩
            case round =>
              clear HB4
              obtain ⟨q, rfl, hq, HQ⟩ := hrel
              obtain ⟨hn, hpre, hfit, hsz, hcnt⟩ := unhide HD
              have HFI := hide (find_any wr _ D _ (q : Int) (hn.old (unhide HQ)) (by omega) hfit hsz)
              by_cases hlt : q < t
              · have i5 : (q : Int) < t := by omega
                have HPR := hide hpre
                clear hn hpre hfit hsz hcnt
                go_wp2_with fail
                refine (unhide HFI).mono ?_
                rintro e w5 ⟨hfp, hb5⟩
                have HB5 : Hid (Below w3.heap.size w3 w5) := hide (bthen (unhide HQ) hb5)
                rcases dp_find (unhide HPR) hq hfp with ⟨_, n, c, rfl, hn1, hnl, hne⟩ | ⟨h, _⟩
                · have hcl := NC.len hn1.st.size.1
                  have hone := all_oneCell_toArray hn1.one
                  obtain ⟨a1, c1, a2, c2, _, _, k1, k0, k31, k32, k33⟩ := box_says hn1 NDT
                  rw [hnl] at k0
                  rw [show ((n.en : Nat) : Int) = 2 * (t : Int) - 1 - q by omega] at k1
                  have HB6 : Hid (Below w3.heap.size w3 (w5.alloc (.cells c.cells.toArray NDT))) := hide ((unhide HB5).alloc (unhide HB5).size _)
                  have i6 : IntKind.i64.wrap ((2 : Int) * t) = 2 * t := by rw [IntKind.wrap_i64]; omega
                  have i7 : (t : Int) ≤ 8 := by omega
                  clear hb5 hfp hn1 hnl hne HFI k31 k32 k33
                  go_wp2_with (first | (refine wpListN_storeNew rfl _ _ rfl _ _ w5.heap.size rfl rfl rfl rfl (by simpa using hcl) hone ?_))
                  go_roundw
                  case rel => exact ⟨q + 1, by go_num, by omega, HB6⟩
                  case measure => simp [intOf]; omega
                · omega
              · have hqt : q = t := by omega
                subst hqt
                have i5 : ¬ (q : Int) < q := by omega
                have HPR := hide hpre
                clear hn hpre hfit hsz hcnt
                go_wp2_with fail
                refine (unhide HFI).mono ?_
                rintro e w5 ⟨hfp, hb5⟩
                have HB5 : Hid (Below w3.heap.size w3 w5) := hide (bthen (unhide HQ) hb5)
                rcases dp_find (unhide HPR) hq hfp with ⟨h, _⟩ | ⟨_, rfl⟩
                · omega
                · have HB6 : Hid (Below w.heap.size w (w5.alloc (.cells zeroND NDT))) := hide (bthen (unhide HB3) ((unhide HB5).alloc (unhide HB5).size _))
                  clear hb5 hfp HFI
                  go_wp2_with (first | (refine wpListN_storeNew rfl _ _ rfl _ _ w5.heap.size rfl rfl rfl rfl rfl (by kernel_rfl) ?_))
                  go_ret
                  exact ⟨rfl, unhide HB6⟩
end Go.Proofs.YthkbchefjagbbaaGreatDoor.Line
