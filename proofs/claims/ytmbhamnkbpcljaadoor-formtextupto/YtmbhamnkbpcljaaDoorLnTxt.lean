/- The contract of the program's Text. -/
import Derived.Test.YtmbhamnkbpcljaaDoorLnTx
import Derived.Test.YtmbhamnkbpcljaaDoorRegE
namespace Go.Proofs.YtmbhamnkbpcljaaDoor.Line
open Go.ChangeShapes Go.WideShapes Go.ChangeAt Go.RowKit
set_option linter.unusedVariables false

set_option maxHeartbeats 8000000 in
set_option maxRecDepth 100000 in
theorem term_any (B : Nat) (w : World) (v : Value) (l : List UInt8) (c : Int) (nm : List UInt8) (hs : OwnB B w v l) (hB : B ≤ w.heap.size) (hl : l.length + nm.length + 50 ≤ 140737488355328) (ic : In64 c) (ht : Tab w) (hT : 1 < B) :
    Calls Tryd.prog 42 #[v, .int .i64 c, .string ⟨nm.toArray⟩] w fun e w' => ∃ v', e = .returned v' ∧ OwnB B w' v' (termT l c nm) ∧ Below B w w' := by
  have HS := hide (sign_any B w v l c hs hB (by omega))
  have hsl := signT_le l.isEmpty (decide (c < 0))
  have hca : c.natAbs < 18446744073709551616 := by unfold In64 at ic; omega
  have hdl := decDigits_le c.natAbs hca
  have HT := hide ht
  have HB := hide hB
  clear hs ht hB
  by_cases h1 : c = 1 ∨ c = -1
  · have HQ : Hid (termT l c nm = (l ++ signT l.isEmpty (decide (c < 0))) ++ nm) := hide (by unfold termT oneT; rw [if_pos h1])
    rw [unhide HQ]
    have HL : Hid ((l ++ signT l.isEmpty (decide (c < 0))).length + nm.length ≤ 140737488355328) := hide (by rw [List.length_append]; omega)
    clear HQ hsl
    generalize l ++ signT l.isEmpty (decide (c < 0)) = l1 at *
    have hcc : (c == 1) = true ∨ (c == 1) = false ∧ (c == -1) = true := by
      rcases h1 with rfl | rfl
      · exact .inl rfl
      · exact .inr ⟨rfl, rfl⟩
    go_enter Tryd.func42, Tryd.ntmps42
    go_wp2_with fail
    refine (unhide HS).mono ?_
    rintro e w1 ⟨v1, rfl, o1, b1⟩
    obtain ⟨v2, w2, r2, o2, b2⟩ := append_str nm o1 (Nat.le_trans (unhide HB) b1.size) (unhide HL)
    have R2 := hide r2
    have H2 := hide (And.intro o2 (b1.trans b2))
    clear o1 b1 r2 o2 b2
    rcases hcc with hc | ⟨hc, hd⟩
    · go_wp2_with (at_builtin; refine wpList_append_runT BST STR rfl _ _ rfl rfl _ _ rfl rfl _ _ (unhide R2) ?_)
      go_ret
      exact ⟨v2, rfl, (unhide H2).1, (unhide H2).2⟩
    · go_wp2_with (at_builtin; refine wpList_append_runT BST STR rfl _ _ rfl rfl _ _ rfl rfl _ _ (unhide R2) ?_)
      go_ret
      exact ⟨v2, rfl, (unhide H2).1, (unhide H2).2⟩
  · have HQ : Hid (termT l c nm = (((l ++ signT l.isEmpty (decide (c < 0))) ++ Lib.decDigits c.natAbs) ++ [42]) ++ nm) := hide (by unfold termT oneT; rw [if_neg h1]; simp)
    rw [unhide HQ]
    have HL : Hid ((l ++ signT l.isEmpty (decide (c < 0))).length + 25 + nm.length ≤ 140737488355328) := hide (by rw [List.length_append]; omega)
    clear HQ hsl
    generalize l ++ signT l.isEmpty (decide (c < 0)) = l1 at *
    have hc : (c == 1) = false := by rw [beq_eq_false_iff_ne]; omega
    have hd : (c == -1) = false := by rw [beq_eq_false_iff_ne]; omega
    have HZ := hide (fun w => lsize_any c w ic)
    have HDL := hide hdl
    have HCA := hide hca
    clear h1 hdl hca
    generalize c.natAbs = u at *
    go_enter Tryd.func42, Tryd.ntmps42
    go_wp2_with fail
    refine (unhide HS).mono ?_
    rintro e w1 ⟨v1, rfl, o1, b1⟩
    have H1 := hide (And.intro o1 b1)
    clear o1 b1
    go_wp2_with fail
    refine (unhide HZ _).mono ?_
    rintro e w1' ⟨rfl, hw⟩
    have hw := hw.symm
    subst hw
    have HU := hide (appUint_any B u (unhide HCA) v1 l1 w1 (unhide H1).1 (Nat.le_trans (unhide HB) (unhide H1).2.size) (by have := unhide HL; omega) ((unhide HT).belowB (unhide H1).2 hT))
    go_wp2_with fail
    refine (unhide HU).mono ?_
    rintro e w2 ⟨v2, rfl, o2, b2⟩
    have hb2 := (unhide H1).2.trans b2
    obtain ⟨v3, w3, r3, o3, b3⟩ := append_b (42 : UInt8) 42 rfl o2 (Nat.le_trans (unhide HB) hb2.size) (by have := unhide HL; have := unhide HDL; rw [List.length_append]; omega)
    have hb3 := hb2.trans b3
    obtain ⟨v4, w4, r4, o4, b4⟩ := append_str nm o3 (Nat.le_trans (unhide HB) hb3.size) (by have := unhide HL; have := unhide HDL; rw [List.length_append, List.length_append]; simp only [List.length_cons, List.length_nil]; omega)
    have R3 := hide r3
    have R4 := hide r4
    have H4 := hide (And.intro o4 (hb3.trans b4))
    clear o2 b2 hb2 o3 b3 hb3 r3 r4 o4 b4
    go_wp2_with (first | (at_builtin; refine wpList_append_runT BST BST rfl _ _ rfl rfl _ _ rfl rfl _ _ (unhide R3) ?_) | (at_builtin; refine wpList_append_runT BST STR rfl _ _ rfl rfl _ _ rfl rfl _ _ (unhide R4) ?_))
    go_ret
    exact ⟨v4, rfl, (unhide H4).1, (unhide H4).2⟩
theorem own_text {B : Nat} {w : World} {v : Value} {l : List UInt8} (h : OwnB B w v l) (hl : l ≠ []) : (convert BST STR v).run Tryd.prog w = .ok (.string ⟨l.toArray⟩) w := by
  have h' := h
  rcases h.2 with ⟨rfl, h5⟩ | ⟨g, cap, cur, rfl, hg, hh, hc, hm, r⟩
  · exact absurd (List.length_eq_zero_iff.1 h5) hl
  · exact run_convert_bytes_back (P := Tryd.prog) w BST STR U8 ⟨g, 0, none⟩ cap l Tryd.underlying63 Tryd.underlying5 Tryd.underlying9 (fun j hj => by
      have := World.ownsRow.cellAt h' j (by omega)
      have ha : (⟨g, 0, none⟩ : Addr).add j = ⟨g, j, none⟩ := by
        unfold Addr.add
        by_cases h0 : j = 0
        · simp [h0]
        · simp [h0]
      rw [ha, this]
      simp [Lib.byteCells, hj])
theorem finT_ne (s : List UInt8) (k : Int) : finT s k ≠ [] := by
  unfold finT
  split
  · intro h
    have h2 := (List.append_eq_nil_iff.1 h).2
    have : (Lib.decDigits k.natAbs).length ≠ 0 := by
      unfold Lib.decDigits
      split <;> simp
    rw [h2] at this
    exact this rfl
  · rename_i h
    exact fun e => h (.inr e)

set_option maxHeartbeats 16000000 in
set_option maxRecDepth 100000 in
theorem linText_any (w : World) (av nv : Value) (a : List Int) (ka : Int) (names : List (List UInt8)) (NB : Nat) (ha : Ints w av a) (hr : Row w nv names) (ra : Rng a) (ia : In64 ka) (hn : a.length ≤ 90) (hm : names.length ≤ 1000) (hNB : ∀ x ∈ names, x.length ≤ NB) (hNN : NB ≤ 1000000000000) (ht : Tab w) :
    Calls Tryd.prog 27 #[formV av ka, nv] w fun e w' => e = .returned (.string ⟨(textF a ka names).toArray⟩) ∧ Below w.heap.size w w' := by
  obtain ⟨aa, ac, rfl⟩ := ha.shape
  have HX0 := hide (Bx.new w (.slice aa a.length ac) (.int .i64 ka) FmT)
  have HW0 := hide (alloc_below w (.cells #[.slice aa a.length ac, .int .i64 ka] FmT))
  have hz0 : (w.alloc (.cells #[.slice aa a.length ac, .int .i64 ka] FmT)).heap.size = w.heap.size + 1 := by simp
  have HO := hide (And.intro ha (And.intro hr ht))
  have HR := hide ra
  have HNB := hide hNB
  have HTL := hide ht.lt
  clear ha hr ra ht hNB
  generalize hna : a.length = n at *
  have HLS := hide hna
  clear hna
  obtain ⟨na, nn, nc, rfl⟩ : ∃ x y z, nv = .slice x y z := by
    rcases (unhide HO).2.1 with ⟨x, y, rfl, _⟩ | ⟨x, y, z, rfl, _⟩
    · exact ⟨_, _, _, rfl⟩
    · exact ⟨_, _, _, rfl⟩
  go_enter Tryd.func27, Tryd.ntmps27
  go_wp2_with fail
  generalize w.alloc (.cells #[.slice aa n ac, .int .i64 ka] FmT) = W0 at *
  have HZ0 := hide hz0
  clear hz0
  go_loopw [5, 11] (fun s q wr => ∃ (i : Nat) (l : List UInt8), q = .int .i64 i ∧ i ≤ n ∧ Hid (OwnB W0.heap.size wr s l) ∧ Hid (Below W0.heap.size W0 wr ∧ Below w.heap.size w wr ∧ Bx wr w.heap.size (.slice aa n ac) (.int .i64 ka)) ∧ Hid (textGo names 0 [] a = textGo names i l (a.drop i)) ∧ Hid (l.length ≤ i * (NB + 60))) (fun _ q _ => n - (intOf q).toNat)
  case atStart => exact ⟨0, [], rfl, Nat.zero_le _, hide (OwnB.nil _ _), hide ⟨Below.refl _ _, unhide HW0, unhide HX0⟩, hide rfl, hide (by simp)⟩
  case round =>
    obtain ⟨i, l, rfl, hi, HS, HA, HI, HLL⟩ := hrel
    clear HX0 HW0
    by_cases hlt : i < n
    · have hlt' : (i : Int) < (n : Int) := by omega
      have hn9 : n ≤ 9223372036854775807 := by omega
      have hi9 : i < 9223372036854775807 := by omega
      have hal := unhide HLS
      have ja : i < a.length := by omega
      have hbl := (unhide HA).2.1
      have ha2 := (unhide HO).1.below hbl
      have hx64 := (unhide HR).at ja
      have hstep := textGo_step (names := names) (i := i) (s := l) ja
      rw [← hal] at ha2
      obtain ⟨lb, lo, lcap, hv, _, _, hcl⟩ := ha2.at (by omega)
      injection hv with hv1 hv2 hv3
      subst hv1
      have cl := hcl i ja
      have HI2 := hide ((unhide HI).trans hstep)
      have HRW := hide ((unhide HO).2.1.below hbl)
      have HTB := hide ((unhide HO).2.2.below hbl)
      clear hcl hv2 hv3 ha2 hstep HI hbl
      generalize a[i]'ja = c at *
      have HC := hide hx64
      clear hx64 hal ja
      obtain ⟨sa, sc, rfl⟩ := (unhide HS).shape
      have HLN := hide (nameT_le names NB i (by omega) (unhide HNB))
      by_cases hc0 : c = 0
      · have HI3 := hide (by have := unhide HI2; rw [if_pos hc0] at this; exact this)
        have hcz : (c != 0) = false := by simp [hc0]
        clear HI2
        go_wp2_with fail
        go_roundw
        case rel => exact ⟨i + 1, l, by go_num, by omega, HS, HA, HI3, hide (by have := unhide HLL; rw [Nat.add_mul]; omega)⟩
        case measure => simp [intOf]; omega
      · have HI3 := hide (by have := unhide HI2; rw [if_neg hc0] at this; exact this)
        have hcz : (c != 0) = true := by simpa using hc0
        clear HI2 hc0
        have HNM := hide (lname_any wr (.slice na nn nc) names i (unhide HRW) (by omega) hm)
        generalize hln : l.length = ln at *
        have HLE := hide hln
        clear hln
        go_wp2_with fail
        refine (unhide HNM).mono ?_
        rintro e w1 ⟨rfl, hw⟩
        have hw := hw.symm
        subst hw
        have hB := (unhide HA).1.size
        have hlen : l.length ≤ 90 * (NB + 60) := Nat.le_trans (by rw [unhide HLE]; exact unhide HLL) (Nat.mul_le_mul_right _ (by omega))
        have HTM := hide (term_any W0.heap.size wr (.slice sa ln sc) l c (nameT names i) (unhide HS) hB (by have := unhide HLN; omega) (unhide HC) (unhide HTB) (by rw [unhide HZ0]; exact Nat.lt_succ_of_lt (unhide HTL)))
        have HTL2 := hide (termT_le l c (nameT names i) (by have := unhide HC; unfold In64 at this; omega))
        clear hB hlen cl
        generalize nameT names i = nm at *
        generalize termT l c nm = l2 at *
        go_wp2_with fail
        refine (unhide HTM).mono ?_
        rintro e w2 ⟨v2, rfl, o2, b2⟩
        have HA2 : Hid (Below W0.heap.size W0 w2 ∧ Below w.heap.size w w2 ∧ Bx w2 w.heap.size (.slice (some ⟨lb, lo, none⟩) n ac) (.int .i64 ka)) := hide ⟨(unhide HA).1.trans b2, (unhide HA).2.1.trans (b2.mono (by rw [unhide HZ0]; omega)), by
          have hlt0 : w.heap.size < W0.heap.size := by rw [unhide HZ0]; omega
          obtain ⟨z0, z1, z2, z3, z4⟩ := (unhide HA).2.2
          exact ⟨(b2.cell (p := ⟨w.heap.size, 0, none⟩) hlt0).trans z0, (b2.cell (p := ⟨w.heap.size, 1, none⟩) hlt0).trans z1, (b2.frozen (p := ⟨w.heap.size, 0, none⟩) hlt0).trans z2, (b2.frozen (p := ⟨w.heap.size, 1, none⟩) hlt0).trans z3, Nat.lt_of_lt_of_le z4 b2.size⟩⟩
        have HS2 := hide o2
        have HLL2 : Hid (l2.length ≤ (i + 1) * (NB + 60)) := hide (by have h1 := unhide HTL2; have h2 := unhide HLL; have h3 := unhide HLN; have h4 := unhide HLE; rw [Nat.add_mul]; omega)
        clear o2 b2
        go_wp2_with fail
        go_roundw
        case rel => exact ⟨i + 1, l2, by go_num, by omega, HS2, HA2, HI3, HLL2⟩
        case measure => simp [intOf]; omega
    · have hin : i = n := by omega
      subst hin
      have hlt' : ¬ (i : Int) < (i : Int) := by omega
      have HF : Hid (textF a ka names = finT l ka) := hide (by
        unfold textF
        rw [unhide HI, List.drop_of_length_le (by rw [unhide HLS]; exact Nat.le_refl _)]
        rfl)
      obtain ⟨sa, sc, rfl⟩ := (unhide HS).shape
      obtain ⟨z0, z1, z2, z3, z4⟩ := (unhide HA).2.2
      clear HI
      have hl140 : l.length ≤ 90 * (NB + 60) := Nat.le_trans (unhide HLL) (Nat.mul_le_mul_right _ (by omega))
      by_cases hfin : ka ≠ 0 ∨ l = []
      · have HQ : Hid (finT l ka = (l ++ signT l.isEmpty (decide (ka < 0))) ++ Lib.decDigits ka.natAbs) := hide (by unfold finT; rw [if_pos hfin])
        have HNE := hide (finT_ne l ka)
        rw [unhide HQ] at HNE
        have HCND : Hid ((ka != 0) = true ∨ (ka != 0) = false ∧ ((l.length : Int) == 0) = true) := hide (by
          by_cases h : ka = 0
          · rcases hfin with h2 | h2
            · exact absurd h h2
            · exact .inr ⟨by simp [h], by rw [h2]; rfl⟩
          · exact .inl (by simpa using h))
        have HSG := hide (fun W (hb : Below wr.heap.size wr W) => sign_any W0.heap.size W (.slice sa l.length sc) l ka ((unhide HS).below hb) (Nat.le_trans (unhide HA).1.size hb.size) (by omega))
        have HLS2 := hide (signT_le l.isEmpty (decide (ka < 0)))
        have hl9 : l.length ≤ 9223372036854775807 := by omega
        have HL140 := hide hl140
        clear hfin hl140
        have HNS : Hid ((l ++ signT l.isEmpty (decide (ka < 0))).length ≤ 90 * (NB + 60) + 3) := hide (by rw [List.length_append]; have := unhide HL140; have := unhide HLS2; omega)
        generalize l ++ signT l.isEmpty (decide (ka < 0)) = l1 at *
        generalize hll : l.length = ln at *
        rcases unhide HCND with hk | ⟨hk, hz⟩
        · clear HCND
          go_wp2_with fail
          have hd : Below wr.heap.size wr wr.drew := below_drewN (Below.refl _ _) 1
          have HD := hide hd
          refine wp_regionE (fun W => W.cell? ⟨w.heap.size, 1, none⟩ = some (.int .i64 ka)) (fun j => decide (j < 9)) (by kernel_rfl) z1 (fun hS => ?_)
          clear hd z0 z1 z2 z3 z4
          have HSG2 := hide (unhide HSG wr.drew (unhide HD))
          have HBW := hide (And.intro ((unhide HA).1.trans ((unhide HD).mono (unhide HA).1.size)) ((unhide HA).2.1.trans ((unhide HD).mono (unhide HA).2.1.size)))
          clear HSG HD HA HS
          generalize wr.drew = wd at *
          refine anyE_take 0 (v := ?_) rfl (by kernel_rfl) (by kernel_rfl) (by kernel_rfl) (by kernel_rfl) (fun _ _ _ h => h) hS (Or.inl ⟨by rfl, ?_⟩) ?_
          rotate_left
          · intro w' hS'
            have d0 := hS'
            go_simp
            try with_reducible rfl
          try simp only [List.getElem_toArray, List.getElem_cons_zero, Act.put, List.setIfInBounds_toArray, List.set_cons_zero, List.set_cons_succ]
          refine anyE_take 1 (v := ?_) rfl (by kernel_rfl) (by kernel_rfl) (by kernel_rfl) (by kernel_rfl) (fun _ _ _ h => h) hS (Or.inl ⟨by rfl, ?_⟩) ?_
          rotate_left
          · intro w' hS'
            have d0 := hS'
            go_simp
            try with_reducible rfl
          try simp only [List.getElem_toArray, List.getElem_cons_succ, List.getElem_cons_zero, Act.put, List.setIfInBounds_toArray, List.set_cons_zero, List.set_cons_succ]
          refine anyE_take 2 (v := ?_) rfl (by kernel_rfl) (by kernel_rfl) (by kernel_rfl) (by kernel_rfl) (fun _ _ _ h => h) hS (Or.inl ⟨by rfl, ?_⟩) ?_
          rotate_left
          · intro w' hS'
            have d0 := hS'
            go_simp
            try with_reducible rfl
          try simp only [List.getElem_toArray, List.getElem_cons_succ, List.getElem_cons_zero, Act.put, List.setIfInBounds_toArray, List.set_cons_zero, List.set_cons_succ]
          refine anyE_take 4 (v := ?_) rfl (by kernel_rfl) (by kernel_rfl) (by kernel_rfl) (by kernel_rfl) (fun _ _ _ h => h) hS (Or.inl ⟨by rfl, ?_⟩) ?_
          rotate_left
          · intro w' hS'
            have d0 := hS'
            go_simp
            try with_reducible rfl
          try simp only [List.getElem_toArray, List.getElem_cons_succ, List.getElem_cons_zero, Act.put, List.setIfInBounds_toArray, List.set_cons_zero, List.set_cons_succ]
          refine anyE_take 5 (v := ?_) rfl (by kernel_rfl) (by kernel_rfl) (by kernel_rfl) (by kernel_rfl) (fun _ _ _ h => h) hS (Or.inl ⟨by rfl, ?_⟩) ?_
          rotate_left
          · intro w' hS'
            have d0 := hS'
            go_simp
            try with_reducible rfl
          try simp only [List.getElem_toArray, List.getElem_cons_succ, List.getElem_cons_zero, Act.put, List.setIfInBounds_toArray, List.set_cons_zero, List.set_cons_succ]
          refine anyE_ready [3] (by kernel_rfl) (by simp) (ReadyE.cons rfl (fun K' hK => ?_) ReadyE.nil)
          go_simp
          go_at_call 45
          refine (unhide HSG2).mono ?_
          rintro ev w2 ⟨v2, rfl, o2, b2⟩
          dsimp only
          try go_simp
          have hS2 : w2.cell? ⟨w.heap.size, 1, none⟩ = some (.int .i64 ka) := (b2.cell (p := ⟨w.heap.size, 1, none⟩) (by show w.heap.size < W0.heap.size; rw [unhide HZ0]; omega)).trans hS
          have H2 := hide (And.intro o2 (And.intro ((unhide HBW).1.trans b2) ((unhide HBW).2.trans (b2.mono (by rw [unhide HZ0]; omega)))))
          refine hK _ _ (fun _ => hS2) ?_
          clear hK K' hS o2 b2 HBW HSG2
          try simp only [List.getElem_toArray, List.getElem_cons_succ, List.getElem_cons_zero, Act.put, List.setIfInBounds_toArray, List.set_cons_zero, List.set_cons_succ]
          refine anyE_ready [6] (by kernel_rfl) (by simp) (ReadyE.cons rfl (fun K' hK => ?_) ReadyE.nil)
          go_simp
          go_at_call 46
          refine (lsize_any ka w2 ia).mono ?_
          rintro ev w2' ⟨rfl, hw⟩
          have hw := hw.symm
          subst hw
          dsimp only
          try go_simp
          refine hK _ _ (fun _ => hS2) ?_
          clear hK K'
          try simp only [List.getElem_toArray, List.getElem_cons_succ, List.getElem_cons_zero, Act.put, List.setIfInBounds_toArray, List.set_cons_zero, List.set_cons_succ]
          refine anyE_ready [7] (by kernel_rfl) (by simp) (ReadyE.cons rfl (fun K' hK => ?_) ReadyE.nil)
          go_simp
          go_at_call 44
          refine (appUint_any W0.heap.size ka.natAbs (by unfold In64 at ia; omega) v2 l1 w2 (unhide H2).1 (unhide H2).2.1.size (by have := unhide HNS; omega) ((unhide HO).2.2.below (unhide H2).2.2)).mono ?_
          rintro ev w3 ⟨v3, rfl, o3, b3⟩
          dsimp only
          try go_simp
          have hS3 : w3.cell? ⟨w.heap.size, 1, none⟩ = some (.int .i64 ka) := (b3.cell (p := ⟨w.heap.size, 1, none⟩) (by show w.heap.size < W0.heap.size; rw [unhide HZ0]; omega)).trans hS2
          have HB3 := hide ((unhide H2).2.2.trans (b3.mono (by rw [unhide HZ0]; omega)))
          have hcv := own_text o3 (unhide HNE)
          refine hK _ _ (fun _ => hS3) ?_
          clear hK K' hS2 o3 b3 H2
          try simp only [List.getElem_toArray, List.getElem_cons_succ, List.getElem_cons_zero, Act.put, List.setIfInBounds_toArray, List.set_cons_zero, List.set_cons_succ]
          refine anyE_take 8 (v := ?_) rfl (by kernel_rfl) (by kernel_rfl) (by kernel_rfl) (by kernel_rfl) (fun _ _ _ h => h) hS3 (Or.inl ⟨by rfl, ?_⟩) ?_
          rotate_left
          · intro w' hS'
            have d0 := hS'
            go_simp
            try with_reducible rfl
          try simp only [List.getElem_toArray, List.getElem_cons_succ, List.getElem_cons_zero, Act.put, List.setIfInBounds_toArray, List.set_cons_zero, List.set_cons_succ]
          refine anyE_done (by kernel_rfl) ?_ _
          clear hS3
          go_wp2_with fail
          go_ret
          exact ⟨by rw [unhide HF, unhide HQ]; rfl, unhide HB3⟩
        · clear HCND
          go_wp2_with fail
          have hd : Below wr.heap.size wr wr.drew := below_drewN (Below.refl _ _) 1
          have HD := hide hd
          refine wp_regionE (fun W => W.cell? ⟨w.heap.size, 1, none⟩ = some (.int .i64 ka)) (fun j => decide (j < 9)) (by kernel_rfl) z1 (fun hS => ?_)
          clear hd z0 z1 z2 z3 z4
          have HSG2 := hide (unhide HSG wr.drew (unhide HD))
          have HBW := hide (And.intro ((unhide HA).1.trans ((unhide HD).mono (unhide HA).1.size)) ((unhide HA).2.1.trans ((unhide HD).mono (unhide HA).2.1.size)))
          clear HSG HD HA HS
          generalize wr.drew = wd at *
          refine anyE_take 0 (v := ?_) rfl (by kernel_rfl) (by kernel_rfl) (by kernel_rfl) (by kernel_rfl) (fun _ _ _ h => h) hS (Or.inl ⟨by rfl, ?_⟩) ?_
          rotate_left
          · intro w' hS'
            have d0 := hS'
            go_simp
            try with_reducible rfl
          try simp only [List.getElem_toArray, List.getElem_cons_zero, Act.put, List.setIfInBounds_toArray, List.set_cons_zero, List.set_cons_succ]
          refine anyE_take 1 (v := ?_) rfl (by kernel_rfl) (by kernel_rfl) (by kernel_rfl) (by kernel_rfl) (fun _ _ _ h => h) hS (Or.inl ⟨by rfl, ?_⟩) ?_
          rotate_left
          · intro w' hS'
            have d0 := hS'
            go_simp
            try with_reducible rfl
          try simp only [List.getElem_toArray, List.getElem_cons_succ, List.getElem_cons_zero, Act.put, List.setIfInBounds_toArray, List.set_cons_zero, List.set_cons_succ]
          refine anyE_take 2 (v := ?_) rfl (by kernel_rfl) (by kernel_rfl) (by kernel_rfl) (by kernel_rfl) (fun _ _ _ h => h) hS (Or.inl ⟨by rfl, ?_⟩) ?_
          rotate_left
          · intro w' hS'
            have d0 := hS'
            go_simp
            try with_reducible rfl
          try simp only [List.getElem_toArray, List.getElem_cons_succ, List.getElem_cons_zero, Act.put, List.setIfInBounds_toArray, List.set_cons_zero, List.set_cons_succ]
          refine anyE_take 4 (v := ?_) rfl (by kernel_rfl) (by kernel_rfl) (by kernel_rfl) (by kernel_rfl) (fun _ _ _ h => h) hS (Or.inl ⟨by rfl, ?_⟩) ?_
          rotate_left
          · intro w' hS'
            have d0 := hS'
            go_simp
            try with_reducible rfl
          try simp only [List.getElem_toArray, List.getElem_cons_succ, List.getElem_cons_zero, Act.put, List.setIfInBounds_toArray, List.set_cons_zero, List.set_cons_succ]
          refine anyE_take 5 (v := ?_) rfl (by kernel_rfl) (by kernel_rfl) (by kernel_rfl) (by kernel_rfl) (fun _ _ _ h => h) hS (Or.inl ⟨by rfl, ?_⟩) ?_
          rotate_left
          · intro w' hS'
            have d0 := hS'
            go_simp
            try with_reducible rfl
          try simp only [List.getElem_toArray, List.getElem_cons_succ, List.getElem_cons_zero, Act.put, List.setIfInBounds_toArray, List.set_cons_zero, List.set_cons_succ]
          refine anyE_ready [3] (by kernel_rfl) (by simp) (ReadyE.cons rfl (fun K' hK => ?_) ReadyE.nil)
          go_simp
          go_at_call 45
          refine (unhide HSG2).mono ?_
          rintro ev w2 ⟨v2, rfl, o2, b2⟩
          dsimp only
          try go_simp
          have hS2 : w2.cell? ⟨w.heap.size, 1, none⟩ = some (.int .i64 ka) := (b2.cell (p := ⟨w.heap.size, 1, none⟩) (by show w.heap.size < W0.heap.size; rw [unhide HZ0]; omega)).trans hS
          have H2 := hide (And.intro o2 (And.intro ((unhide HBW).1.trans b2) ((unhide HBW).2.trans (b2.mono (by rw [unhide HZ0]; omega)))))
          refine hK _ _ (fun _ => hS2) ?_
          clear hK K' hS o2 b2 HBW HSG2
          try simp only [List.getElem_toArray, List.getElem_cons_succ, List.getElem_cons_zero, Act.put, List.setIfInBounds_toArray, List.set_cons_zero, List.set_cons_succ]
          refine anyE_ready [6] (by kernel_rfl) (by simp) (ReadyE.cons rfl (fun K' hK => ?_) ReadyE.nil)
          go_simp
          go_at_call 46
          refine (lsize_any ka w2 ia).mono ?_
          rintro ev w2' ⟨rfl, hw⟩
          have hw := hw.symm
          subst hw
          dsimp only
          try go_simp
          refine hK _ _ (fun _ => hS2) ?_
          clear hK K'
          try simp only [List.getElem_toArray, List.getElem_cons_succ, List.getElem_cons_zero, Act.put, List.setIfInBounds_toArray, List.set_cons_zero, List.set_cons_succ]
          refine anyE_ready [7] (by kernel_rfl) (by simp) (ReadyE.cons rfl (fun K' hK => ?_) ReadyE.nil)
          go_simp
          go_at_call 44
          refine (appUint_any W0.heap.size ka.natAbs (by unfold In64 at ia; omega) v2 l1 w2 (unhide H2).1 (unhide H2).2.1.size (by have := unhide HNS; omega) ((unhide HO).2.2.below (unhide H2).2.2)).mono ?_
          rintro ev w3 ⟨v3, rfl, o3, b3⟩
          dsimp only
          try go_simp
          have hS3 : w3.cell? ⟨w.heap.size, 1, none⟩ = some (.int .i64 ka) := (b3.cell (p := ⟨w.heap.size, 1, none⟩) (by show w.heap.size < W0.heap.size; rw [unhide HZ0]; omega)).trans hS2
          have HB3 := hide ((unhide H2).2.2.trans (b3.mono (by rw [unhide HZ0]; omega)))
          have hcv := own_text o3 (unhide HNE)
          refine hK _ _ (fun _ => hS3) ?_
          clear hK K' hS2 o3 b3 H2
          try simp only [List.getElem_toArray, List.getElem_cons_succ, List.getElem_cons_zero, Act.put, List.setIfInBounds_toArray, List.set_cons_zero, List.set_cons_succ]
          refine anyE_take 8 (v := ?_) rfl (by kernel_rfl) (by kernel_rfl) (by kernel_rfl) (by kernel_rfl) (fun _ _ _ h => h) hS3 (Or.inl ⟨by rfl, ?_⟩) ?_
          rotate_left
          · intro w' hS'
            have d0 := hS'
            go_simp
            try with_reducible rfl
          try simp only [List.getElem_toArray, List.getElem_cons_succ, List.getElem_cons_zero, Act.put, List.setIfInBounds_toArray, List.set_cons_zero, List.set_cons_succ]
          refine anyE_done (by kernel_rfl) ?_ _
          clear hS3
          go_wp2_with fail
          go_ret
          exact ⟨by rw [unhide HF, unhide HQ]; rfl, unhide HB3⟩
      · have hkl : ka = 0 ∧ l ≠ [] := by
          constructor
          · exact Decidable.byContradiction fun h => hfin (.inl h)
          · exact fun h => hfin (.inr h)
        have HQ : Hid (finT l ka = l) := hide (by unfold finT; rw [if_neg hfin])
        have hk : (ka != 0) = false := by simp [hkl.1]
        have hlz : ((l.length : Int) == 0) = false := by
          rw [beq_eq_false_iff_ne]
          have : l.length ≠ 0 := fun e => hkl.2 (List.eq_nil_of_length_eq_zero e)
          omega
        have hcv := own_text (unhide HS) hkl.2
        have hl9 : l.length ≤ 9223372036854775807 := by omega
        clear hfin hkl hl140
        generalize hll : l.length = ln at *
        go_wp2_with fail
        go_ret
        exact ⟨by rw [unhide HF, unhide HQ]; rfl, (unhide HA).2.1⟩
end Go.Proofs.YtmbhamnkbpcljaaDoor.Line
