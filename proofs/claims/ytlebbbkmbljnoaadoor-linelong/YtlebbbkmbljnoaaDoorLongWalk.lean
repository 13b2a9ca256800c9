/- The walk of furrowlaw2.LineLong: true at every length; nothing that was there has turned. -/
import Derived.Test.YtlebbbkmbljnoaaDoorFill
namespace Go.Proofs.YtlebbbkmbljnoaaDoor.Line
open Go.ChangeShapes Go.WideShapes Go.ChangeAt Go.RowKit Plain Err
set_option linter.unusedVariables false

set_option maxRecDepth 100000 in
set_option maxHeartbeats 4000000 in
theorem long_small (n m M : Nat) (w : World) (hn : n ≤ 255) (hm : m ≤ 65535) (hM : M = 65532 + m % 8) (hG : Glob w) (hbig : n + 1 ≤ 200) : Calls Tryd.prog 5 #[.int .u8 (n : Int), .int .u16 (m : Int)] w fun e w' => e = .returned (.bool true) ∧ Below w.heap.size w w' := by
  have hMM : (65536 + (m : Int) % 8 - 4) = (M : Int) := by omega
  have hM2 : M ≤ 65539 := by omega
  have HM := hide hM
  have HGL := hide hG
  clear hM hG
  go_enter Tryd.func5, Tryd.ntmps5
  go_wp2_with (go_at_call 8; refine (known_any _).mono ?_; rintro e w1 ⟨rfl, b1⟩)
  obtain ⟨Z, hmk, F0⟩ := make_bytes n w1 (by omega) 32
  have G0 := hide F0
  clear F0
  rw [hmk]
  simp only [Result.andThen]
  rw [Oper.upon_value]
  go_wp2_with fail
  clear hmk
  go_loopw [6] (fun q wr => ∃ i : Nat, i ≤ n ∧ q = .int .i64 i ∧ Fill w1 wr w1.heap.size n i 32) (fun q _ => n - (intOf q).toNat)
  case atStart => exact ⟨0, Nat.zero_le _, rfl, unhide G0⟩
  case round =>
    obtain ⟨i, hi, rfl, F⟩ := hrel
    by_cases hlt : i < n
    · obtain ⟨x, hx⟩ := F.some_ i hlt
      have hf := F.free i hlt
      have G := hide (F.step hlt)
      clear F
      go_wp2
      go_roundw
      case rel => exact ⟨i + 1, by omega, by go_num, unhide G⟩
      case measure => simp [intOf]; omega
    · obtain rfl : n = i := by omega
      have hcv := bytes_string 32 F
      have hB := hide F.below
      clear F G0
      obtain ⟨tt, ht⟩ : ∃ tt : List UInt8, tt = List.replicate n 32 := ⟨_, rfl⟩
      have htl : tt.length ≤ 255 := by rw [ht]; simpa using hn
      rw [← ht] at hcv
      have HT := hide ht
      have hs := cat2 tt [10]
      clear ht
      go_wp2_with fail
      rw [unhide HT]
      refine (split_ok (List.replicate n 32 ++ [10]) _ (by simp; omega) ((blanks_err n hn).1 hbig)).mono ?_
      rintro e w2 ⟨v, rfl, _, b2w⟩
      have hBw := hide (bthen (bthen b1 (unhide hB)) b2w)
      have HG := hide ((unhide HGL).below (unhide hBw))
      clear hcv hs
      go_wp2_with fail
      have hBW : Below w2.heap.size w2 (w2.alloc (.cells #[.slice none 0 0, .int .i64 0] 30)) := alloc_below _ _
      have q0 : (w2.alloc (.cells #[.slice none 0 0, .int .i64 0] 30)).cell? ⟨w2.heap.size, 0, none⟩ = some (.slice none 0 0) := by simp
      have q1 : (w2.alloc (.cells #[.slice none 0 0, .int .i64 0] 30)).cell? ⟨w2.heap.size, 1, none⟩ = some (.int .i64 0) := by simp
      have HSW : Hid (Says 0 (w2.alloc (.cells #[.slice none 0 0, .int .i64 0] 30)) .nilIface [] 0 0) := hide (.inl ⟨rfl, rfl⟩)
      have TO : Hid (Told 0 (w2.alloc (.cells #[.slice none 0 0, .int .i64 0] 30)) (.agg #[.slice none 0 0, .int .i64 0]) [] 0 0) := hide (.inl ⟨rfl, rfl⟩)
      have HGW := hide ((unhide HG).below hBW)
      have HBW := hide (bthen (unhide hBw) hBW)
      clear hBW
      generalize (w2.alloc (.cells #[.slice none 0 0, .int .i64 0] 30)) = W at *
      generalize w2.heap.size = g at *
      obtain ⟨Z2, hmk2, F2⟩ := make_bytes M W (by omega) 10
      have G2 := hide F2
      clear F2
      have hg0 := cell_lt q0
      rw [hmk2]
      simp only [Result.andThen]
      rw [Oper.upon_value]
      go_wp2_with fail
      clear hmk2
      go_loopw [12] (fun q wr => ∃ i : Nat, i ≤ M ∧ q = .int .i64 i ∧ Fill W wr W.heap.size M i 10) (fun q _ => M - (intOf q).toNat)
      case atStart => exact ⟨0, Nat.zero_le _, rfl, unhide G2⟩
      case round =>
        obtain ⟨i, hi2, rfl, F⟩ := hrel
        by_cases hlt2 : i < M
        · obtain ⟨x, hx⟩ := F.some_ i hlt2
          have hf := F.free i hlt2
          have G := hide (F.step hlt2)
          clear F
          go_wp2
          go_roundw
          case rel => exact ⟨i + 1, by omega, by go_num, unhide G⟩
          case measure => simp [intOf]; omega
        · obtain rfl : M = i := by omega
          have hcv := bytes_string 10 F
          have hBM := hide F.below
          clear F G2
          obtain ⟨t2, ht2⟩ : ∃ t2 : List UInt8, t2 = List.replicate M 10 := ⟨_, rfl⟩
          rw [← ht2] at hcv
          have HT2 := hide ht2
          clear ht2
          by_cases hover : 65536 < M
          · go_wp2_with fail
            rw [unhide HT2]
            obtain ⟨e1, e2, e3, e4⟩ := (nl_err M).2 hover
            refine (split_bad (List.replicate M 10) _ (by simp; omega) (by rw [e1]; decide)).mono ?_
            rintro e w5 ⟨v2, p5, rfl, o5, hsay5, b5⟩
            rw [e1, e2, e3] at hsay5
            obtain ⟨a5, cap5, rfl⟩ := o5.shape
            have HS5 := hide hsay5
            clear hsay5 o5 hcv e1 e2 e3 e4
            have hBz := hide (bthen (unhide hBM) b5)
            have z0 := ((unhide hBz).cell (p := ⟨g, 0, none⟩) hg0).trans q0
            have z1 := ((unhide hBz).cell (p := ⟨g, 1, none⟩) hg0).trans q1
            have HA2 := hide (fun w => at_any [116, 101, 120, 116] 0 4 w)
            have hk : (4 : Int) < (m : Int) % 8 := by have := unhide HM; omega
            go_wp2_with fail
            refine (tells_any w5 _ _ _ _ _ ((unhide HGW).below (unhide hBz)) ((unhide HSW).below (unhide hBz)) ((unhide TO).below (unhide hBz))).mono ?_
            rintro e w6 ⟨rfl, b6⟩
            go_wp2_with fail
            refine (unhide HA2 _).mono ?_
            rintro e w7 ⟨b7, rfl, hb7, d70, d71, bb7⟩
            go_wp2_with fail
            refine (tells_any w7 _ _ [116, 101, 120, 116] 0 4 ((((unhide HGW).below (unhide hBz)).below b6).below bb7) (((unhide HS5).below b6).below bb7) (.inr ⟨by decide, b7, hb7, rfl, d70, d71⟩)).mono ?_
            rintro e w8 ⟨rfl, b8⟩
            go_wp2
            go_ret
            exact ⟨rfl, bthen (bthen (bthen (bthen (unhide HBW) (unhide hBz)) b6) bb7) b8⟩
          · go_wp2_with fail
            rw [unhide HT2]
            obtain ⟨e1, e4⟩ := (nl_err M).1 (by omega)
            have e5 : lines (List.replicate M 10) = List.replicate M [10] := lines_nl M
            refine (split_ok (List.replicate M 10) _ (by simp; omega) e1).mono ?_
            rintro e w5 ⟨v2, rfl, o5, b5⟩
            rw [e5] at o5
            obtain ⟨a5, cap5, hv5⟩ := o5.shape
            rw [List.length_replicate] at hv5
            subst hv5
            clear o5 hcv e1 e4 e5
            have hBz := hide (bthen (unhide hBM) b5)
            have z0 := ((unhide hBz).cell (p := ⟨g, 0, none⟩) hg0).trans q0
            have z1 := ((unhide hBz).cell (p := ⟨g, 1, none⟩) hg0).trans q1
            have hk : ¬ (4 : Int) < (m : Int) % 8 := by have := unhide HM; omega
            go_wp2_with fail
            refine (tells_any w5 _ _ _ _ _ ((unhide HGW).below (unhide hBz)) ((unhide HSW).below (unhide hBz)) ((unhide TO).below (unhide hBz))).mono ?_
            rintro e w6 ⟨rfl, b6⟩
            go_wp2
            go_ret
            exact ⟨rfl, bthen (bthen (unhide HBW) (unhide hBz)) b6⟩

set_option maxRecDepth 100000 in
set_option maxHeartbeats 4000000 in
theorem long_big (n m M : Nat) (w : World) (hn : n ≤ 255) (hm : m ≤ 65535) (hM : M = 65532 + m % 8) (hG : Glob w) (hbig : 200 < n + 1) : Calls Tryd.prog 5 #[.int .u8 (n : Int), .int .u16 (m : Int)] w fun e w' => e = .returned (.bool true) ∧ Below w.heap.size w w' := by
  have hMM : (65536 + (m : Int) % 8 - 4) = (M : Int) := by omega
  have hM2 : M ≤ 65539 := by omega
  have HM := hide hM
  have HGL := hide hG
  clear hM hG
  go_enter Tryd.func5, Tryd.ntmps5
  go_wp2_with (go_at_call 8; refine (known_any _).mono ?_; rintro e w1 ⟨rfl, b1⟩)
  obtain ⟨Z, hmk, F0⟩ := make_bytes n w1 (by omega) 32
  have G0 := hide F0
  clear F0
  rw [hmk]
  simp only [Result.andThen]
  rw [Oper.upon_value]
  go_wp2_with fail
  clear hmk
  go_loopw [6] (fun q wr => ∃ i : Nat, i ≤ n ∧ q = .int .i64 i ∧ Fill w1 wr w1.heap.size n i 32) (fun q _ => n - (intOf q).toNat)
  case atStart => exact ⟨0, Nat.zero_le _, rfl, unhide G0⟩
  case round =>
    obtain ⟨i, hi, rfl, F⟩ := hrel
    by_cases hlt : i < n
    · obtain ⟨x, hx⟩ := F.some_ i hlt
      have hf := F.free i hlt
      have G := hide (F.step hlt)
      clear F
      go_wp2
      go_roundw
      case rel => exact ⟨i + 1, by omega, by go_num, unhide G⟩
      case measure => simp [intOf]; omega
    · obtain rfl : n = i := by omega
      have hcv := bytes_string 32 F
      have hB := hide F.below
      clear F G0
      obtain ⟨tt, ht⟩ : ∃ tt : List UInt8, tt = List.replicate n 32 := ⟨_, rfl⟩
      have htl : tt.length ≤ 255 := by rw [ht]; simpa using hn
      rw [← ht] at hcv
      have HT := hide ht
      have hs := cat2 tt [10]
      clear ht
      go_wp2_with fail
      obtain ⟨e1, e2, e3⟩ := (blanks_err n hn).2 hbig
      rw [unhide HT]
      refine (split_bad (List.replicate n 32 ++ [10]) _ (by simp; omega) (by rw [e1]; decide)).mono ?_
      rintro e w2 ⟨v, p, rfl, _, hsay, b2w⟩
      rw [e1, e2, e3] at hsay
      have HS := hide hsay
      have hBw := hide (bthen (bthen b1 (unhide hB)) b2w)
      have HG := hide ((unhide HGL).below (unhide hBw))
      clear hcv hs hsay e1 e2 e3
      have HA := hide (fun w => at_any [108, 105, 110, 101] 0 4 w)
      go_wp2_with fail
      refine (unhide HA _).mono ?_
      rintro e w3 ⟨b2, rfl, hb2, d0, d1, b3⟩
      obtain ⟨c0, c1, f0, f1, hs3, hB3⟩ := res_cells (by simpa using b3)
      have hb2' : w2.heap.size + 1 ≤ b2 := by simpa using hb2
      have TO := hide (told_mk (w := w2) (w2 := w3) (u := .slice (some ⟨b2, 0, none⟩) 1 1) (u' := .int .i64 4) (err := 4) (k := 0) (word := [108, 105, 110, 101]) (by decide) hb2' d0 d1)
      have q0 : ((w3.setCell ⟨w2.heap.size, 0, none⟩ (.slice (some ⟨b2, 0, none⟩) 1 1)).setCell ⟨w2.heap.size, 1, none⟩ (.int .i64 4)).cell? ⟨w2.heap.size, 0, none⟩ = some (.slice (some ⟨b2, 0, none⟩) 1 1) := by
        rw [World.cell?_setCell_other _ _ _ _ (by intro h9; cases h9), World.cell?_setCell_same _ _ _ c0]
      have q1 : ((w3.setCell ⟨w2.heap.size, 0, none⟩ (.slice (some ⟨b2, 0, none⟩) 1 1)).setCell ⟨w2.heap.size, 1, none⟩ (.int .i64 4)).cell? ⟨w2.heap.size, 1, none⟩ = some (.int .i64 4) := by
        rw [World.cell?_setCell_same _ _ _ ((World.cell?_setCell_other _ _ _ _ (by intro h9; cases h9)).trans c1)]
      have hBW : Below w2.heap.size w2 ((w3.setCell ⟨w2.heap.size, 0, none⟩ (.slice (some ⟨b2, 0, none⟩) 1 1)).setCell ⟨w2.heap.size, 1, none⟩ (.int .i64 4)) := (hB3.setCell (by simp) _).setCell (by simp) _
      go_wp2_with fail
      have HSW := hide ((unhide HS).below hBW)
      have HGW := hide ((unhide HG).below hBW)
      have HBW := hide (bthen (unhide hBw) hBW)
      clear d0 d1 c0 c1 f0 f1 hs3 hB3 hb2 b3 hBW
      generalize ((w3.setCell ⟨w2.heap.size, 0, none⟩ (.slice (some ⟨b2, 0, none⟩) 1 1)).setCell ⟨w2.heap.size, 1, none⟩ (.int .i64 4)) = W at *
      generalize w2.heap.size = g at *
      obtain ⟨Z2, hmk2, F2⟩ := make_bytes M W (by omega) 10
      have G2 := hide F2
      clear F2
      have hg0 := cell_lt q0
      rw [hmk2]
      simp only [Result.andThen]
      rw [Oper.upon_value]
      go_wp2_with fail
      clear hmk2
      go_loopw [12] (fun q wr => ∃ i : Nat, i ≤ M ∧ q = .int .i64 i ∧ Fill W wr W.heap.size M i 10) (fun q _ => M - (intOf q).toNat)
      case atStart => exact ⟨0, Nat.zero_le _, rfl, unhide G2⟩
      case round =>
        obtain ⟨i, hi2, rfl, F⟩ := hrel
        by_cases hlt2 : i < M
        · obtain ⟨x, hx⟩ := F.some_ i hlt2
          have hf := F.free i hlt2
          have G := hide (F.step hlt2)
          clear F
          go_wp2
          go_roundw
          case rel => exact ⟨i + 1, by omega, by go_num, unhide G⟩
          case measure => simp [intOf]; omega
        · obtain rfl : M = i := by omega
          have hcv := bytes_string 10 F
          have hBM := hide F.below
          clear F G2
          obtain ⟨t2, ht2⟩ : ∃ t2 : List UInt8, t2 = List.replicate M 10 := ⟨_, rfl⟩
          rw [← ht2] at hcv
          have HT2 := hide ht2
          clear ht2
          by_cases hover : 65536 < M
          · go_wp2_with fail
            rw [unhide HT2]
            obtain ⟨e1, e2, e3, e4⟩ := (nl_err M).2 hover
            refine (split_bad (List.replicate M 10) _ (by simp; omega) (by rw [e1]; decide)).mono ?_
            rintro e w5 ⟨v2, p5, rfl, o5, hsay5, b5⟩
            rw [e1, e2, e3] at hsay5
            obtain ⟨a5, cap5, rfl⟩ := o5.shape
            have HS5 := hide hsay5
            clear hsay5 o5 hcv e1 e2 e3 e4
            have hBz := hide (bthen (unhide hBM) b5)
            have z0 := ((unhide hBz).cell (p := ⟨g, 0, none⟩) hg0).trans q0
            have z1 := ((unhide hBz).cell (p := ⟨g, 1, none⟩) hg0).trans q1
            have HA2 := hide (fun w => at_any [116, 101, 120, 116] 0 4 w)
            have hk : (4 : Int) < (m : Int) % 8 := by have := unhide HM; omega
            go_wp2_with fail
            refine (tells_any w5 _ _ _ _ _ ((unhide HGW).below (unhide hBz)) ((unhide HSW).below (unhide hBz)) ((unhide TO).below (unhide hBz))).mono ?_
            rintro e w6 ⟨rfl, b6⟩
            go_wp2_with fail
            refine (unhide HA2 _).mono ?_
            rintro e w7 ⟨b7, rfl, hb7, d70, d71, bb7⟩
            go_wp2_with fail
            refine (tells_any w7 _ _ [116, 101, 120, 116] 0 4 ((((unhide HGW).below (unhide hBz)).below b6).below bb7) (((unhide HS5).below b6).below bb7) (.inr ⟨by decide, b7, hb7, rfl, d70, d71⟩)).mono ?_
            rintro e w8 ⟨rfl, b8⟩
            go_wp2
            go_ret
            exact ⟨rfl, bthen (bthen (bthen (bthen (unhide HBW) (unhide hBz)) b6) bb7) b8⟩
          · go_wp2_with fail
            rw [unhide HT2]
            obtain ⟨e1, e4⟩ := (nl_err M).1 (by omega)
            have e5 : lines (List.replicate M 10) = List.replicate M [10] := lines_nl M
            refine (split_ok (List.replicate M 10) _ (by simp; omega) e1).mono ?_
            rintro e w5 ⟨v2, rfl, o5, b5⟩
            rw [e5] at o5
            obtain ⟨a5, cap5, hv5⟩ := o5.shape
            rw [List.length_replicate] at hv5
            subst hv5
            clear o5 hcv e1 e4 e5
            have hBz := hide (bthen (unhide hBM) b5)
            have z0 := ((unhide hBz).cell (p := ⟨g, 0, none⟩) hg0).trans q0
            have z1 := ((unhide hBz).cell (p := ⟨g, 1, none⟩) hg0).trans q1
            have hk : ¬ (4 : Int) < (m : Int) % 8 := by have := unhide HM; omega
            go_wp2_with fail
            refine (tells_any w5 _ _ _ _ _ ((unhide HGW).below (unhide hBz)) ((unhide HSW).below (unhide hBz)) ((unhide TO).below (unhide hBz))).mono ?_
            rintro e w6 ⟨rfl, b6⟩
            go_wp2
            go_ret
            exact ⟨rfl, bthen (bthen (unhide HBW) (unhide hBz)) b6⟩

theorem lineLong_any (n m : Int) (w : World) (hn0 : 0 ≤ n) (hn : n ≤ 255) (hm0 : 0 ≤ m) (hm : m ≤ 65535) (hG : Glob w) : Calls Tryd.prog 5 #[.int .u8 n, .int .u16 m] w fun e w' => e = .returned (.bool true) ∧ Below w.heap.size w w' := by
  obtain ⟨n, rfl⟩ := Int.eq_ofNat_of_zero_le hn0
  obtain ⟨m, rfl⟩ := Int.eq_ofNat_of_zero_le hm0
  by_cases h : 200 < n + 1
  · exact long_big n m _ w (by omega) (by omega) rfl hG h
  · exact long_small n m _ w (by omega) (by omega) rfl hG (by omega)
end Go.Proofs.YtlebbbkmbljnoaaDoor.Line
