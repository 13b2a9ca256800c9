/- Contracts of Same, the program's and the reference's. -/
import Derived.Test.YtmbhamnkbpcljaaDoorLnCst
import Derived.Test.YtmbhamnkbpcljaaDoorRegE
import Derived.Deep.DeepCutAuto
namespace Go.Proofs.YtmbhamnkbpcljaaDoor.Line
open Go.ChangeShapes Go.WideShapes Go.ChangeAt Go.RowKit
set_option linter.unusedVariables false
set_option maxHeartbeats 8000000 in
set_option maxRecDepth 100000 in
theorem same_any (w : World) (av bv : Value) (a b : List Int) (ka kb : Int) (ha : Ints w av a) (hb : Ints w bv b) (hn : a.length ≤ 1000) (hm : b.length ≤ 1000) :
    Calls Tryd.prog 18 #[formV av ka, formV bv kb] w fun e w' => e = .returned (.bool (sameP a b ka kb)) ∧ Below w.heap.size w w' := by
  obtain ⟨aa, ac, rfl⟩ := ha.shape
  obtain ⟨ba, bc, rfl⟩ := hb.shape
  have h2 := Bx.new (w.alloc (.cells #[.slice aa a.length ac, .int .i64 ka] FmT)) (.slice ba b.length bc) (.int .i64 kb) FmT
  simp only [size_ac] at h2
  have HST := hide (And.intro ((Bx.new w (.slice aa a.length ac) (.int .i64 ka) FmT).keep (alloc_below _ (.cells #[.slice ba b.length bc, .int .i64 kb] FmT))) (And.intro h2 (bthen (alloc_below w (.cells #[.slice aa a.length ac, .int .i64 ka] FmT)) (alloc_below _ (.cells #[.slice ba b.length bc, .int .i64 kb] FmT)))))
  have HO := hide (And.intro ha hb)
  clear ha hb h2
  obtain ⟨M, hM⟩ : ∃ M, M = max a.length b.length := ⟨_, rfl⟩
  generalize hna : a.length = n at *
  generalize hnb : b.length = m at *
  have HLS := hide (And.intro hna hnb)
  clear hna hnb
  by_cases hnm : n < m
  · have hmm : m = M := by omega
    clear hM
    subst hmm
    go_enter Tryd.func18, Tryd.ntmps18
    go_wp2_with fail
    generalize (w.alloc (.cells #[.slice aa n ac, .int .i64 ka] FmT)).alloc (.cells #[.slice ba m bc, .int .i64 kb] FmT) = W0 at *
    generalize hxb : w.heap.size + 1 = xb at *
    obtain ⟨⟨e0, e1, e2, e3, e4⟩, ⟨g0, g1, g2, g3, g4⟩, -⟩ := unhide HST
    clear e0 e1 e2 e3 e4 g0 g1 g2 g3 g4
    go_loopw [13] (fun x wr => ∃ (i : Nat), x = .int .i64 i ∧ i ≤ m ∧ Hid (∀ j, j < i → a.getD j 0 = b.getD j 0) ∧ Hid (Bx wr w.heap.size (.slice aa n ac) (.int .i64 ka) ∧ Bx wr xb (.slice ba m bc) (.int .i64 kb) ∧ Below w.heap.size w wr)) (fun x _ => m - (intOf x).toNat)
    case atStart => exact ⟨0, rfl, Nat.zero_le _, hide (fun j hj => by omega), HST⟩
    case round =>
      obtain ⟨i, rfl, hi, HJ, HA⟩ := hrel
      clear HST
      obtain ⟨⟨e0, e1, e2, e3, e4⟩, ⟨g0, g1, g2, g3, g4⟩, -⟩ := unhide HA
      by_cases hlt : i < m
      · skip
        have hlt' : (i : Int) < (m : Int) := by omega
        go_wp2_with fail
        have hd : Below wr.heap.size wr wr.drew := below_drewN (Below.refl _ _) 1
        refine wp_regionE (fun W => Bx W w.heap.size (.slice aa n ac) (.int .i64 ka) ∧ Bx W xb (.slice ba m bc) (.int .i64 kb)) (fun j => decide (j < 7)) (by kernel_rfl) ⟨(unhide HA).1.keep hd, (unhide HA).2.1.keep hd⟩ (fun hS => ?_)
        have HBd := hide ((unhide HA).2.2.trans (hd.mono (unhide HA).2.2.size))
        obtain ⟨x, hx⟩ : ∃ x, x = a.getD i 0 := ⟨_, rfl⟩
        obtain ⟨y, hy⟩ : ∃ y, y = b.getD i 0 := ⟨_, rfl⟩
        have HXY := hide (And.intro hx hy)
        clear hd hx hy e0 e1 e2 e3 e4 g0 g1 g2 g3 g4
        generalize wr.drew = wd at *
        refine anyE_take 0 (v := ?_) rfl (by kernel_rfl) (by kernel_rfl) (by kernel_rfl) (by kernel_rfl) (fun _ _ _ h => h) hS (Or.inl ⟨by rfl, ?_⟩) ?_
        rotate_left
        · intro w' hS'
          obtain ⟨⟨e0, e1, _, _, _⟩, ⟨g0, g1, _, _, _⟩⟩ := hS'
          go_simp
          try with_reducible rfl
        try simp only [List.getElem_toArray, List.getElem_cons_zero, Act.put, List.setIfInBounds_toArray, List.set_cons_zero, List.set_cons_succ]
        refine anyE_take 1 (v := ?_) rfl (by kernel_rfl) (by kernel_rfl) (by kernel_rfl) (by kernel_rfl) (fun _ _ _ h => h) hS (Or.inl ⟨by rfl, ?_⟩) ?_
        rotate_left
        · intro w' hS'
          obtain ⟨⟨e0, e1, _, _, _⟩, ⟨g0, g1, _, _, _⟩⟩ := hS'
          go_simp
          try with_reducible rfl
        try simp only [List.getElem_toArray, List.getElem_cons_succ, List.getElem_cons_zero, Act.put, List.setIfInBounds_toArray, List.set_cons_zero, List.set_cons_succ]
        refine anyE_take 3 (v := ?_) rfl (by kernel_rfl) (by kernel_rfl) (by kernel_rfl) (by kernel_rfl) (fun _ _ _ h => h) hS (Or.inl ⟨by rfl, ?_⟩) ?_
        rotate_left
        · intro w' hS'
          obtain ⟨⟨e0, e1, _, _, _⟩, ⟨g0, g1, _, _, _⟩⟩ := hS'
          go_simp
          try with_reducible rfl
        try simp only [List.getElem_toArray, List.getElem_cons_succ, List.getElem_cons_zero, Act.put, List.setIfInBounds_toArray, List.set_cons_zero, List.set_cons_succ]
        refine anyE_take 4 (v := ?_) rfl (by kernel_rfl) (by kernel_rfl) (by kernel_rfl) (by kernel_rfl) (fun _ _ _ h => h) hS (Or.inl ⟨by rfl, ?_⟩) ?_
        rotate_left
        · intro w' hS'
          obtain ⟨⟨e0, e1, _, _, _⟩, ⟨g0, g1, _, _, _⟩⟩ := hS'
          go_simp
          try with_reducible rfl
        try simp only [List.getElem_toArray, List.getElem_cons_succ, List.getElem_cons_zero, Act.put, List.setIfInBounds_toArray, List.set_cons_zero, List.set_cons_succ]
        refine anyE_ready [2] (by kernel_rfl) (by simp) (ReadyE.cons rfl (fun K' hK => ?_) ReadyE.nil)
        go_simp
        go_at_call 40
        have hcf := factor_any wd (.slice aa n ac) ka a i ((unhide HO).1.below (unhide HBd)) (by omega)
        rw [← (unhide HXY).1] at hcf
        refine hcf.mono ?_
        rintro ev w5 ⟨rfl, hb⟩
        dsimp only
        try go_simp
        have hS2 : Bx w5 w.heap.size (.slice aa n ac) (.int .i64 ka) ∧ Bx w5 xb (.slice ba m bc) (.int .i64 kb) := ⟨hS.1.keep hb, hS.2.keep hb⟩
        have HB5 := hide ((unhide HBd).trans (hb.mono (unhide HBd).size))
        clear hS hb hcf
        have hS := hS2
        clear hS2
        refine hK _ _ (fun _ => hS) ?_
        clear hK K'
        try simp only [List.getElem_toArray, List.getElem_cons_succ, List.getElem_cons_zero, Act.put, List.setIfInBounds_toArray, List.set_cons_zero, List.set_cons_succ]
        refine anyE_ready [5] (by kernel_rfl) (by simp) (ReadyE.cons rfl (fun K' hK => ?_) ReadyE.nil)
        go_simp
        go_at_call 40
        have hcf := factor_any w5 (.slice ba m bc) kb b i ((unhide HO).2.below (unhide HB5)) (by omega)
        rw [← (unhide HXY).2] at hcf
        refine hcf.mono ?_
        rintro ev w6 ⟨rfl, hb⟩
        dsimp only
        try go_simp
        have hS2 : Bx w6 w.heap.size (.slice aa n ac) (.int .i64 ka) ∧ Bx w6 xb (.slice ba m bc) (.int .i64 kb) := ⟨hS.1.keep hb, hS.2.keep hb⟩
        have HB6 := hide ((unhide HB5).trans (hb.mono (unhide HB5).size))
        clear hS hb hcf
        have hS := hS2
        clear hS2
        refine hK _ _ (fun _ => hS) ?_
        clear hK K'
        try simp only [List.getElem_toArray, List.getElem_cons_succ, List.getElem_cons_zero, Act.put, List.setIfInBounds_toArray, List.set_cons_zero, List.set_cons_succ]
        refine anyE_take 6 (v := ?_) rfl (by kernel_rfl) (by kernel_rfl) (by kernel_rfl) (by kernel_rfl) (fun _ _ _ h => h) hS (Or.inl ⟨by rfl, ?_⟩) ?_
        rotate_left
        · intro w' hS'
          obtain ⟨⟨e0, e1, _, _, _⟩, ⟨g0, g1, _, _, _⟩⟩ := hS'
          go_simp
          try with_reducible rfl
        try simp only [List.getElem_toArray, List.getElem_cons_succ, List.getElem_cons_zero, Act.put, List.setIfInBounds_toArray, List.set_cons_zero, List.set_cons_succ]
        refine anyE_done (by kernel_rfl) ?_ _
        by_cases hq : x = y
        · have hq' : (x != y) = false := by simp [hq]
          rw [hq']
          go_wp2_with fail
          go_roundw
          case rel => exact ⟨i + 1, by go_num, by omega, hide fun j hj => by
            rcases Nat.lt_or_ge j i with h | h
            · exact unhide HJ j h
            · have : j = i := by omega
              subst this
              rw [(unhide HXY).1, (unhide HXY).2] at hq
              exact hq, hide ⟨hS.1, hS.2, unhide HB6⟩⟩
          case measure => simp [intOf]; omega
        · have hq' : (x != y) = true := by simpa using hq
          rw [hq']
          have HF := hide (sameP_false a b ka kb i (by rw [(unhide HLS).1, (unhide HLS).2]; omega) (by rw [(unhide HXY).1, (unhide HXY).2] at hq; exact hq))
          clear hq hq'
          go_wp2_with fail
          go_ret
          exact ⟨by rw [unhide HF]; rfl, unhide HB6⟩
      · skip
        have hlt' : ¬ (i : Int) < (m : Int) := by omega
        have HF := hide (sameP_end a b ka kb (fun j hj => unhide HJ j (by rw [(unhide HLS).1, (unhide HLS).2] at hj; omega)))
        by_cases hk : ka = kb
        · subst hk
          have HF2 := hide ((unhide HF).trans (decide_eq_true rfl))
          clear HF
          go_wp2_with fail
          go_ret
          exact ⟨by rw [unhide HF2]; rfl, (unhide HA).2.2⟩
        · have hk' : (ka == kb) = false := by simp [hk]
          have HF2 := hide ((unhide HF).trans (decide_eq_false hk))
          clear HF hk
          go_wp2_with fail
          go_ret
          exact ⟨by rw [unhide HF2]; simp, (unhide HA).2.2⟩
  · have hmm : n = M := by omega
    clear hM
    subst hmm
    go_enter Tryd.func18, Tryd.ntmps18
    go_wp2_with fail
    generalize (w.alloc (.cells #[.slice aa n ac, .int .i64 ka] FmT)).alloc (.cells #[.slice ba m bc, .int .i64 kb] FmT) = W0 at *
    generalize hxb : w.heap.size + 1 = xb at *
    obtain ⟨⟨e0, e1, e2, e3, e4⟩, ⟨g0, g1, g2, g3, g4⟩, -⟩ := unhide HST
    clear e0 e1 e2 e3 e4 g0 g1 g2 g3 g4
    go_loopw [13] (fun x wr => ∃ (i : Nat), x = .int .i64 i ∧ i ≤ n ∧ Hid (∀ j, j < i → a.getD j 0 = b.getD j 0) ∧ Hid (Bx wr w.heap.size (.slice aa n ac) (.int .i64 ka) ∧ Bx wr xb (.slice ba m bc) (.int .i64 kb) ∧ Below w.heap.size w wr)) (fun x _ => n - (intOf x).toNat)
    case atStart => exact ⟨0, rfl, Nat.zero_le _, hide (fun j hj => by omega), HST⟩
    case round =>
      obtain ⟨i, rfl, hi, HJ, HA⟩ := hrel
      clear HST
      obtain ⟨⟨e0, e1, e2, e3, e4⟩, ⟨g0, g1, g2, g3, g4⟩, -⟩ := unhide HA
      by_cases hlt : i < n
      · skip
        have hlt' : (i : Int) < (n : Int) := by omega
        go_wp2_with fail
        have hd : Below wr.heap.size wr wr.drew := below_drewN (Below.refl _ _) 1
        refine wp_regionE (fun W => Bx W w.heap.size (.slice aa n ac) (.int .i64 ka) ∧ Bx W xb (.slice ba m bc) (.int .i64 kb)) (fun j => decide (j < 7)) (by kernel_rfl) ⟨(unhide HA).1.keep hd, (unhide HA).2.1.keep hd⟩ (fun hS => ?_)
        have HBd := hide ((unhide HA).2.2.trans (hd.mono (unhide HA).2.2.size))
        obtain ⟨x, hx⟩ : ∃ x, x = a.getD i 0 := ⟨_, rfl⟩
        obtain ⟨y, hy⟩ : ∃ y, y = b.getD i 0 := ⟨_, rfl⟩
        have HXY := hide (And.intro hx hy)
        clear hd hx hy e0 e1 e2 e3 e4 g0 g1 g2 g3 g4
        generalize wr.drew = wd at *
        refine anyE_take 0 (v := ?_) rfl (by kernel_rfl) (by kernel_rfl) (by kernel_rfl) (by kernel_rfl) (fun _ _ _ h => h) hS (Or.inl ⟨by rfl, ?_⟩) ?_
        rotate_left
        · intro w' hS'
          obtain ⟨⟨e0, e1, _, _, _⟩, ⟨g0, g1, _, _, _⟩⟩ := hS'
          go_simp
          try with_reducible rfl
        try simp only [List.getElem_toArray, List.getElem_cons_zero, Act.put, List.setIfInBounds_toArray, List.set_cons_zero, List.set_cons_succ]
        refine anyE_take 1 (v := ?_) rfl (by kernel_rfl) (by kernel_rfl) (by kernel_rfl) (by kernel_rfl) (fun _ _ _ h => h) hS (Or.inl ⟨by rfl, ?_⟩) ?_
        rotate_left
        · intro w' hS'
          obtain ⟨⟨e0, e1, _, _, _⟩, ⟨g0, g1, _, _, _⟩⟩ := hS'
          go_simp
          try with_reducible rfl
        try simp only [List.getElem_toArray, List.getElem_cons_succ, List.getElem_cons_zero, Act.put, List.setIfInBounds_toArray, List.set_cons_zero, List.set_cons_succ]
        refine anyE_take 3 (v := ?_) rfl (by kernel_rfl) (by kernel_rfl) (by kernel_rfl) (by kernel_rfl) (fun _ _ _ h => h) hS (Or.inl ⟨by rfl, ?_⟩) ?_
        rotate_left
        · intro w' hS'
          obtain ⟨⟨e0, e1, _, _, _⟩, ⟨g0, g1, _, _, _⟩⟩ := hS'
          go_simp
          try with_reducible rfl
        try simp only [List.getElem_toArray, List.getElem_cons_succ, List.getElem_cons_zero, Act.put, List.setIfInBounds_toArray, List.set_cons_zero, List.set_cons_succ]
        refine anyE_take 4 (v := ?_) rfl (by kernel_rfl) (by kernel_rfl) (by kernel_rfl) (by kernel_rfl) (fun _ _ _ h => h) hS (Or.inl ⟨by rfl, ?_⟩) ?_
        rotate_left
        · intro w' hS'
          obtain ⟨⟨e0, e1, _, _, _⟩, ⟨g0, g1, _, _, _⟩⟩ := hS'
          go_simp
          try with_reducible rfl
        try simp only [List.getElem_toArray, List.getElem_cons_succ, List.getElem_cons_zero, Act.put, List.setIfInBounds_toArray, List.set_cons_zero, List.set_cons_succ]
        refine anyE_ready [2] (by kernel_rfl) (by simp) (ReadyE.cons rfl (fun K' hK => ?_) ReadyE.nil)
        go_simp
        go_at_call 40
        have hcf := factor_any wd (.slice aa n ac) ka a i ((unhide HO).1.below (unhide HBd)) (by omega)
        rw [← (unhide HXY).1] at hcf
        refine hcf.mono ?_
        rintro ev w5 ⟨rfl, hb⟩
        dsimp only
        try go_simp
        have hS2 : Bx w5 w.heap.size (.slice aa n ac) (.int .i64 ka) ∧ Bx w5 xb (.slice ba m bc) (.int .i64 kb) := ⟨hS.1.keep hb, hS.2.keep hb⟩
        have HB5 := hide ((unhide HBd).trans (hb.mono (unhide HBd).size))
        clear hS hb hcf
        have hS := hS2
        clear hS2
        refine hK _ _ (fun _ => hS) ?_
        clear hK K'
        try simp only [List.getElem_toArray, List.getElem_cons_succ, List.getElem_cons_zero, Act.put, List.setIfInBounds_toArray, List.set_cons_zero, List.set_cons_succ]
        refine anyE_ready [5] (by kernel_rfl) (by simp) (ReadyE.cons rfl (fun K' hK => ?_) ReadyE.nil)
        go_simp
        go_at_call 40
        have hcf := factor_any w5 (.slice ba m bc) kb b i ((unhide HO).2.below (unhide HB5)) (by omega)
        rw [← (unhide HXY).2] at hcf
        refine hcf.mono ?_
        rintro ev w6 ⟨rfl, hb⟩
        dsimp only
        try go_simp
        have hS2 : Bx w6 w.heap.size (.slice aa n ac) (.int .i64 ka) ∧ Bx w6 xb (.slice ba m bc) (.int .i64 kb) := ⟨hS.1.keep hb, hS.2.keep hb⟩
        have HB6 := hide ((unhide HB5).trans (hb.mono (unhide HB5).size))
        clear hS hb hcf
        have hS := hS2
        clear hS2
        refine hK _ _ (fun _ => hS) ?_
        clear hK K'
        try simp only [List.getElem_toArray, List.getElem_cons_succ, List.getElem_cons_zero, Act.put, List.setIfInBounds_toArray, List.set_cons_zero, List.set_cons_succ]
        refine anyE_take 6 (v := ?_) rfl (by kernel_rfl) (by kernel_rfl) (by kernel_rfl) (by kernel_rfl) (fun _ _ _ h => h) hS (Or.inl ⟨by rfl, ?_⟩) ?_
        rotate_left
        · intro w' hS'
          obtain ⟨⟨e0, e1, _, _, _⟩, ⟨g0, g1, _, _, _⟩⟩ := hS'
          go_simp
          try with_reducible rfl
        try simp only [List.getElem_toArray, List.getElem_cons_succ, List.getElem_cons_zero, Act.put, List.setIfInBounds_toArray, List.set_cons_zero, List.set_cons_succ]
        refine anyE_done (by kernel_rfl) ?_ _
        by_cases hq : x = y
        · have hq' : (x != y) = false := by simp [hq]
          rw [hq']
          go_wp2_with fail
          go_roundw
          case rel => exact ⟨i + 1, by go_num, by omega, hide fun j hj => by
            rcases Nat.lt_or_ge j i with h | h
            · exact unhide HJ j h
            · have : j = i := by omega
              subst this
              rw [(unhide HXY).1, (unhide HXY).2] at hq
              exact hq, hide ⟨hS.1, hS.2, unhide HB6⟩⟩
          case measure => simp [intOf]; omega
        · have hq' : (x != y) = true := by simpa using hq
          rw [hq']
          have HF := hide (sameP_false a b ka kb i (by rw [(unhide HLS).1, (unhide HLS).2]; omega) (by rw [(unhide HXY).1, (unhide HXY).2] at hq; exact hq))
          clear hq hq'
          go_wp2_with fail
          go_ret
          exact ⟨by rw [unhide HF]; rfl, unhide HB6⟩
      · skip
        have hlt' : ¬ (i : Int) < (n : Int) := by omega
        have HF := hide (sameP_end a b ka kb (fun j hj => unhide HJ j (by rw [(unhide HLS).1, (unhide HLS).2] at hj; omega)))
        by_cases hk : ka = kb
        · subst hk
          have HF2 := hide ((unhide HF).trans (decide_eq_true rfl))
          clear HF
          go_wp2_with fail
          go_ret
          exact ⟨by rw [unhide HF2]; rfl, (unhide HA).2.2⟩
        · have hk' : (ka == kb) = false := by simp [hk]
          have HF2 := hide ((unhide HF).trans (decide_eq_false hk))
          clear HF hk
          go_wp2_with fail
          go_ret
          exact ⟨by rw [unhide HF2]; simp, (unhide HA).2.2⟩
set_option maxHeartbeats 8000000 in
set_option maxRecDepth 100000 in
theorem sameR_any (w : World) (av bv : Value) (a b : List Int) (ka kb : Int) (ha : Ints w av a) (hb : Ints w bv b) (hn : a.length ≤ 1000) (hm : b.length ≤ 1000) :
    Calls Tryd.prog 17 #[formV av ka, formV bv kb] w fun e w' => e = .returned (.bool (sameP a b ka kb)) ∧ Below w.heap.size w w' := by
  obtain ⟨aa, ac, rfl⟩ := ha.shape
  obtain ⟨ba, bc, rfl⟩ := hb.shape
  have h2 := Bx.new (w.alloc (.cells #[.slice aa a.length ac, .int .i64 ka] RfT)) (.slice ba b.length bc) (.int .i64 kb) RfT
  simp only [size_ac] at h2
  have HST := hide (And.intro ((Bx.new w (.slice aa a.length ac) (.int .i64 ka) RfT).keep (alloc_below _ (.cells #[.slice ba b.length bc, .int .i64 kb] RfT))) (And.intro h2 (bthen (alloc_below w (.cells #[.slice aa a.length ac, .int .i64 ka] RfT)) (alloc_below _ (.cells #[.slice ba b.length bc, .int .i64 kb] RfT)))))
  have HO := hide (And.intro ha hb)
  clear ha hb h2
  obtain ⟨M, hM⟩ : ∃ M, M = max a.length b.length := ⟨_, rfl⟩
  generalize hna : a.length = n at *
  generalize hnb : b.length = m at *
  have HLS := hide (And.intro hna hnb)
  clear hna hnb
  go_enter Tryd.func17, Tryd.ntmps17
  go_wp2_with fail
  generalize (w.alloc (.cells #[.slice aa n ac, .int .i64 ka] RfT)).alloc (.cells #[.slice ba m bc, .int .i64 kb] RfT) = W0 at *
  generalize hxb : w.heap.size + 1 = xb at *
  obtain ⟨⟨e0, e1, e2, e3, e4⟩, ⟨g0, g1, g2, g3, g4⟩, -⟩ := unhide HST
  clear e0 e1 e2 e3 e4 g0 g1 g2 g3 g4
  go_loopw [5] (fun x wr => ∃ (i : Nat), x = .int .i64 i ∧ i ≤ M ∧ Hid (∀ j, j < i → a.getD j 0 = b.getD j 0) ∧ Hid (Bx wr w.heap.size (.slice aa n ac) (.int .i64 ka) ∧ Bx wr xb (.slice ba m bc) (.int .i64 kb) ∧ Below w.heap.size w wr)) (fun x _ => M - (intOf x).toNat)
  case atStart => exact ⟨0, rfl, Nat.zero_le _, hide (fun j hj => by omega), HST⟩
  case round =>
    obtain ⟨i, rfl, hi, HJ, HA⟩ := hrel
    clear HST
    obtain ⟨⟨e0, e1, e2, e3, e4⟩, ⟨g0, g1, g2, g3, g4⟩, -⟩ := unhide HA
    by_cases hlt : i < M
    · skip
      by_cases hc1 : (i : Int) < (n : Int)
      · skip
        go_wp2_with fail
        have hd : Below wr.heap.size wr wr.drew := below_drewN (Below.refl _ _) 1
        refine wp_regionE (fun W => Bx W w.heap.size (.slice aa n ac) (.int .i64 ka) ∧ Bx W xb (.slice ba m bc) (.int .i64 kb)) (fun j => decide (j < 7)) (by kernel_rfl) ⟨(unhide HA).1.keep hd, (unhide HA).2.1.keep hd⟩ (fun hS => ?_)
        have HBd := hide ((unhide HA).2.2.trans (hd.mono (unhide HA).2.2.size))
        obtain ⟨x, hx⟩ : ∃ x, x = a.getD i 0 := ⟨_, rfl⟩
        obtain ⟨y, hy⟩ : ∃ y, y = b.getD i 0 := ⟨_, rfl⟩
        have HXY := hide (And.intro hx hy)
        clear hd hx hy e0 e1 e2 e3 e4 g0 g1 g2 g3 g4
        generalize wr.drew = wd at *
        refine anyE_take 0 (v := ?_) rfl (by kernel_rfl) (by kernel_rfl) (by kernel_rfl) (by kernel_rfl) (fun _ _ _ h => h) hS (Or.inl ⟨by rfl, ?_⟩) ?_
        rotate_left
        · intro w' hS'
          obtain ⟨⟨e0, e1, _, _, _⟩, ⟨g0, g1, _, _, _⟩⟩ := hS'
          go_simp
          try with_reducible rfl
        try simp only [List.getElem_toArray, List.getElem_cons_zero, Act.put, List.setIfInBounds_toArray, List.set_cons_zero, List.set_cons_succ]
        refine anyE_take 1 (v := ?_) rfl (by kernel_rfl) (by kernel_rfl) (by kernel_rfl) (by kernel_rfl) (fun _ _ _ h => h) hS (Or.inl ⟨by rfl, ?_⟩) ?_
        rotate_left
        · intro w' hS'
          obtain ⟨⟨e0, e1, _, _, _⟩, ⟨g0, g1, _, _, _⟩⟩ := hS'
          go_simp
          try with_reducible rfl
        try simp only [List.getElem_toArray, List.getElem_cons_succ, List.getElem_cons_zero, Act.put, List.setIfInBounds_toArray, List.set_cons_zero, List.set_cons_succ]
        refine anyE_take 3 (v := ?_) rfl (by kernel_rfl) (by kernel_rfl) (by kernel_rfl) (by kernel_rfl) (fun _ _ _ h => h) hS (Or.inl ⟨by rfl, ?_⟩) ?_
        rotate_left
        · intro w' hS'
          obtain ⟨⟨e0, e1, _, _, _⟩, ⟨g0, g1, _, _, _⟩⟩ := hS'
          go_simp
          try with_reducible rfl
        try simp only [List.getElem_toArray, List.getElem_cons_succ, List.getElem_cons_zero, Act.put, List.setIfInBounds_toArray, List.set_cons_zero, List.set_cons_succ]
        refine anyE_take 4 (v := ?_) rfl (by kernel_rfl) (by kernel_rfl) (by kernel_rfl) (by kernel_rfl) (fun _ _ _ h => h) hS (Or.inl ⟨by rfl, ?_⟩) ?_
        rotate_left
        · intro w' hS'
          obtain ⟨⟨e0, e1, _, _, _⟩, ⟨g0, g1, _, _, _⟩⟩ := hS'
          go_simp
          try with_reducible rfl
        try simp only [List.getElem_toArray, List.getElem_cons_succ, List.getElem_cons_zero, Act.put, List.setIfInBounds_toArray, List.set_cons_zero, List.set_cons_succ]
        refine anyE_ready [2] (by kernel_rfl) (by simp) (ReadyE.cons rfl (fun K' hK => ?_) ReadyE.nil)
        go_simp
        go_at_call 39
        have hcf := coef_any wd (.slice aa n ac) ka a i ((unhide HO).1.below (unhide HBd)) (by omega)
        rw [← (unhide HXY).1] at hcf
        refine hcf.mono ?_
        rintro ev w5 ⟨rfl, hb⟩
        dsimp only
        try go_simp
        have hS2 : Bx w5 w.heap.size (.slice aa n ac) (.int .i64 ka) ∧ Bx w5 xb (.slice ba m bc) (.int .i64 kb) := ⟨hS.1.keep hb, hS.2.keep hb⟩
        have HB5 := hide ((unhide HBd).trans (hb.mono (unhide HBd).size))
        clear hS hb hcf
        have hS := hS2
        clear hS2
        refine hK _ _ (fun _ => hS) ?_
        clear hK K'
        try simp only [List.getElem_toArray, List.getElem_cons_succ, List.getElem_cons_zero, Act.put, List.setIfInBounds_toArray, List.set_cons_zero, List.set_cons_succ]
        refine anyE_ready [5] (by kernel_rfl) (by simp) (ReadyE.cons rfl (fun K' hK => ?_) ReadyE.nil)
        go_simp
        go_at_call 39
        have hcf := coef_any w5 (.slice ba m bc) kb b i ((unhide HO).2.below (unhide HB5)) (by omega)
        rw [← (unhide HXY).2] at hcf
        refine hcf.mono ?_
        rintro ev w6 ⟨rfl, hb⟩
        dsimp only
        try go_simp
        have hS2 : Bx w6 w.heap.size (.slice aa n ac) (.int .i64 ka) ∧ Bx w6 xb (.slice ba m bc) (.int .i64 kb) := ⟨hS.1.keep hb, hS.2.keep hb⟩
        have HB6 := hide ((unhide HB5).trans (hb.mono (unhide HB5).size))
        clear hS hb hcf
        have hS := hS2
        clear hS2
        refine hK _ _ (fun _ => hS) ?_
        clear hK K'
        try simp only [List.getElem_toArray, List.getElem_cons_succ, List.getElem_cons_zero, Act.put, List.setIfInBounds_toArray, List.set_cons_zero, List.set_cons_succ]
        refine anyE_take 6 (v := ?_) rfl (by kernel_rfl) (by kernel_rfl) (by kernel_rfl) (by kernel_rfl) (fun _ _ _ h => h) hS (Or.inl ⟨by rfl, ?_⟩) ?_
        rotate_left
        · intro w' hS'
          obtain ⟨⟨e0, e1, _, _, _⟩, ⟨g0, g1, _, _, _⟩⟩ := hS'
          go_simp
          try with_reducible rfl
        try simp only [List.getElem_toArray, List.getElem_cons_succ, List.getElem_cons_zero, Act.put, List.setIfInBounds_toArray, List.set_cons_zero, List.set_cons_succ]
        refine anyE_done (by kernel_rfl) ?_ _
        by_cases hq : x = y
        · have hq' : (x != y) = false := by simp [hq]
          rw [hq']
          go_wp2_with fail
          go_roundw
          case rel => exact ⟨i + 1, by go_num, by omega, hide fun j hj => by
            rcases Nat.lt_or_ge j i with h | h
            · exact unhide HJ j h
            · have : j = i := by omega
              subst this
              rw [(unhide HXY).1, (unhide HXY).2] at hq
              exact hq, hide ⟨hS.1, hS.2, unhide HB6⟩⟩
          case measure => simp [intOf]; omega
        · have hq' : (x != y) = true := by simpa using hq
          rw [hq']
          have HF := hide (sameP_false a b ka kb i (by rw [(unhide HLS).1, (unhide HLS).2]; omega) (by rw [(unhide HXY).1, (unhide HXY).2] at hq; exact hq))
          clear hq hq'
          go_wp2_with fail
          go_ret
          exact ⟨by rw [unhide HF]; rfl, unhide HB6⟩
      · have hc2 : (i : Int) < (m : Int) := by omega
        go_wp2_with fail
        have hd : Below wr.heap.size wr wr.drew := below_drewN (Below.refl _ _) 1
        refine wp_regionE (fun W => Bx W w.heap.size (.slice aa n ac) (.int .i64 ka) ∧ Bx W xb (.slice ba m bc) (.int .i64 kb)) (fun j => decide (j < 7)) (by kernel_rfl) ⟨(unhide HA).1.keep hd, (unhide HA).2.1.keep hd⟩ (fun hS => ?_)
        have HBd := hide ((unhide HA).2.2.trans (hd.mono (unhide HA).2.2.size))
        obtain ⟨x, hx⟩ : ∃ x, x = a.getD i 0 := ⟨_, rfl⟩
        obtain ⟨y, hy⟩ : ∃ y, y = b.getD i 0 := ⟨_, rfl⟩
        have HXY := hide (And.intro hx hy)
        clear hd hx hy e0 e1 e2 e3 e4 g0 g1 g2 g3 g4
        generalize wr.drew = wd at *
        refine anyE_take 0 (v := ?_) rfl (by kernel_rfl) (by kernel_rfl) (by kernel_rfl) (by kernel_rfl) (fun _ _ _ h => h) hS (Or.inl ⟨by rfl, ?_⟩) ?_
        rotate_left
        · intro w' hS'
          obtain ⟨⟨e0, e1, _, _, _⟩, ⟨g0, g1, _, _, _⟩⟩ := hS'
          go_simp
          try with_reducible rfl
        try simp only [List.getElem_toArray, List.getElem_cons_zero, Act.put, List.setIfInBounds_toArray, List.set_cons_zero, List.set_cons_succ]
        refine anyE_take 1 (v := ?_) rfl (by kernel_rfl) (by kernel_rfl) (by kernel_rfl) (by kernel_rfl) (fun _ _ _ h => h) hS (Or.inl ⟨by rfl, ?_⟩) ?_
        rotate_left
        · intro w' hS'
          obtain ⟨⟨e0, e1, _, _, _⟩, ⟨g0, g1, _, _, _⟩⟩ := hS'
          go_simp
          try with_reducible rfl
        try simp only [List.getElem_toArray, List.getElem_cons_succ, List.getElem_cons_zero, Act.put, List.setIfInBounds_toArray, List.set_cons_zero, List.set_cons_succ]
        refine anyE_take 3 (v := ?_) rfl (by kernel_rfl) (by kernel_rfl) (by kernel_rfl) (by kernel_rfl) (fun _ _ _ h => h) hS (Or.inl ⟨by rfl, ?_⟩) ?_
        rotate_left
        · intro w' hS'
          obtain ⟨⟨e0, e1, _, _, _⟩, ⟨g0, g1, _, _, _⟩⟩ := hS'
          go_simp
          try with_reducible rfl
        try simp only [List.getElem_toArray, List.getElem_cons_succ, List.getElem_cons_zero, Act.put, List.setIfInBounds_toArray, List.set_cons_zero, List.set_cons_succ]
        refine anyE_take 4 (v := ?_) rfl (by kernel_rfl) (by kernel_rfl) (by kernel_rfl) (by kernel_rfl) (fun _ _ _ h => h) hS (Or.inl ⟨by rfl, ?_⟩) ?_
        rotate_left
        · intro w' hS'
          obtain ⟨⟨e0, e1, _, _, _⟩, ⟨g0, g1, _, _, _⟩⟩ := hS'
          go_simp
          try with_reducible rfl
        try simp only [List.getElem_toArray, List.getElem_cons_succ, List.getElem_cons_zero, Act.put, List.setIfInBounds_toArray, List.set_cons_zero, List.set_cons_succ]
        refine anyE_ready [2] (by kernel_rfl) (by simp) (ReadyE.cons rfl (fun K' hK => ?_) ReadyE.nil)
        go_simp
        go_at_call 39
        have hcf := coef_any wd (.slice aa n ac) ka a i ((unhide HO).1.below (unhide HBd)) (by omega)
        rw [← (unhide HXY).1] at hcf
        refine hcf.mono ?_
        rintro ev w5 ⟨rfl, hb⟩
        dsimp only
        try go_simp
        have hS2 : Bx w5 w.heap.size (.slice aa n ac) (.int .i64 ka) ∧ Bx w5 xb (.slice ba m bc) (.int .i64 kb) := ⟨hS.1.keep hb, hS.2.keep hb⟩
        have HB5 := hide ((unhide HBd).trans (hb.mono (unhide HBd).size))
        clear hS hb hcf
        have hS := hS2
        clear hS2
        refine hK _ _ (fun _ => hS) ?_
        clear hK K'
        try simp only [List.getElem_toArray, List.getElem_cons_succ, List.getElem_cons_zero, Act.put, List.setIfInBounds_toArray, List.set_cons_zero, List.set_cons_succ]
        refine anyE_ready [5] (by kernel_rfl) (by simp) (ReadyE.cons rfl (fun K' hK => ?_) ReadyE.nil)
        go_simp
        go_at_call 39
        have hcf := coef_any w5 (.slice ba m bc) kb b i ((unhide HO).2.below (unhide HB5)) (by omega)
        rw [← (unhide HXY).2] at hcf
        refine hcf.mono ?_
        rintro ev w6 ⟨rfl, hb⟩
        dsimp only
        try go_simp
        have hS2 : Bx w6 w.heap.size (.slice aa n ac) (.int .i64 ka) ∧ Bx w6 xb (.slice ba m bc) (.int .i64 kb) := ⟨hS.1.keep hb, hS.2.keep hb⟩
        have HB6 := hide ((unhide HB5).trans (hb.mono (unhide HB5).size))
        clear hS hb hcf
        have hS := hS2
        clear hS2
        refine hK _ _ (fun _ => hS) ?_
        clear hK K'
        try simp only [List.getElem_toArray, List.getElem_cons_succ, List.getElem_cons_zero, Act.put, List.setIfInBounds_toArray, List.set_cons_zero, List.set_cons_succ]
        refine anyE_take 6 (v := ?_) rfl (by kernel_rfl) (by kernel_rfl) (by kernel_rfl) (by kernel_rfl) (fun _ _ _ h => h) hS (Or.inl ⟨by rfl, ?_⟩) ?_
        rotate_left
        · intro w' hS'
          obtain ⟨⟨e0, e1, _, _, _⟩, ⟨g0, g1, _, _, _⟩⟩ := hS'
          go_simp
          try with_reducible rfl
        try simp only [List.getElem_toArray, List.getElem_cons_succ, List.getElem_cons_zero, Act.put, List.setIfInBounds_toArray, List.set_cons_zero, List.set_cons_succ]
        refine anyE_done (by kernel_rfl) ?_ _
        by_cases hq : x = y
        · have hq' : (x != y) = false := by simp [hq]
          rw [hq']
          go_wp2_with fail
          go_roundw
          case rel => exact ⟨i + 1, by go_num, by omega, hide fun j hj => by
            rcases Nat.lt_or_ge j i with h | h
            · exact unhide HJ j h
            · have : j = i := by omega
              subst this
              rw [(unhide HXY).1, (unhide HXY).2] at hq
              exact hq, hide ⟨hS.1, hS.2, unhide HB6⟩⟩
          case measure => simp [intOf]; omega
        · have hq' : (x != y) = true := by simpa using hq
          rw [hq']
          have HF := hide (sameP_false a b ka kb i (by rw [(unhide HLS).1, (unhide HLS).2]; omega) (by rw [(unhide HXY).1, (unhide HXY).2] at hq; exact hq))
          clear hq hq'
          go_wp2_with fail
          go_ret
          exact ⟨by rw [unhide HF]; rfl, unhide HB6⟩
    · skip
      have hc1 : ¬ (i : Int) < (n : Int) := by omega
      have hc2 : ¬ (i : Int) < (m : Int) := by omega
      have HF := hide (sameP_end a b ka kb (fun j hj => unhide HJ j (by rw [(unhide HLS).1, (unhide HLS).2] at hj; omega)))
      by_cases hk : ka = kb
      · subst hk
        have HF2 := hide ((unhide HF).trans (decide_eq_true rfl))
        clear HF
        go_wp2_with fail
        go_ret
        exact ⟨by rw [unhide HF2]; rfl, (unhide HA).2.2⟩
      · have hk' : (ka == kb) = false := by simp [hk]
        have HF2 := hide ((unhide HF).trans (decide_eq_false hk))
        clear HF hk
        go_wp2_with fail
        go_ret
        exact ⟨by rw [unhide HF2]; simp, (unhide HA).2.2⟩
end Go.Proofs.YtmbhamnkbpcljaaDoor.Line
