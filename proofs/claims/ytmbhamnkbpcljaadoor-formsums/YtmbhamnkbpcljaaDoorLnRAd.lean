/- Contracts of the reference's Add and Scale. -/
import Derived.Test.YtmbhamnkbpcljaaDoorLnScl
import Derived.Test.YtmbhamnkbpcljaaDoorLnCst
import Derived.Deep.DeepCutAuto
namespace Go.Proofs.YtmbhamnkbpcljaaDoor.Line
open Go.ChangeShapes Go.WideShapes Go.ChangeAt Go.RowKit
set_option linter.unusedVariables false

/-- the boxes of a sum under way -/
structure RA (w W : World) (xb r4 r5 : Nat) (u v : Value) (ka kb : Int) : Prop where
  bl : Below w.heap.size w W
  ba : Bx W w.heap.size u (.int .i64 ka)
  bb : Bx W xb v (.int .i64 kb)
  b4 : Bx W r4 (.slice none 0 0) (.int .i64 0)
  b5 : Bx W r5 (.slice none 0 0) (.int .i64 0)
theorem RA.keep {w W W' : World} {xb r4 r5 : Nat} {u v : Value} {ka kb : Int} (h : RA w W xb r4 r5 u v ka kb) (hb : Below W.heap.size W W') : RA w W' xb r4 r5 u v ka kb :=
  ⟨bthen h.bl hb, h.ba.keep hb, h.bb.keep hb, h.b4.keep hb, h.b5.keep hb⟩
theorem RA.set {w W : World} {xb r4 r5 : Nat} {u v : Value} {ka kb : Int} (h : RA w W xb r4 r5 u v ka kb) (a : Addr) (h1 : a.block ≠ w.heap.size) (h2 : a.block ≠ xb) (h3 : a.block ≠ r4) (h4 : a.block ≠ r5) (h5 : w.heap.size ≤ a.block) (x : Value) : RA w (W.setCell a x) xb r4 r5 u v ka kb :=
  ⟨h.bl.setCell h5 x, h.ba.other a h1 x, h.bb.other a h2 x, h.b4.other a h3 x, h.b5.other a h4 x⟩
theorem addE_ne {a b : List Int} {ka kb : Int} (h : a.length ≠ b.length) : addE a b ka kb = 1 ∧ addC a b ka kb = [] ∧ addK a b ka kb = 0 := by
  have : addE a b ka kb = 1 := by unfold addE; rw [if_pos h]
  exact ⟨this, by unfold addC; rw [this]; rfl, by unfold addK; rw [this]; rfl⟩
theorem addE_bad {a b : List Int} {ka kb : Int} (h : a.length = b.length) (hf : (allF (sumL a b) && fitO (ka + kb)) = false) : addE a b ka kb = 5 ∧ addC a b ka kb = [] ∧ addK a b ka kb = 0 := by
  have : addE a b ka kb = 5 := by unfold addE; rw [if_neg (by omega), if_neg (by rw [hf]; decide)]
  exact ⟨this, by unfold addC; rw [this]; rfl, by unfold addK; rw [this]; rfl⟩
theorem addE_ok {a b : List Int} {ka kb : Int} (h : a.length = b.length) (h1 : allF (sumL a b) = true) (h2 : fitO (ka + kb) = true) : addE a b ka kb = 0 ∧ addC a b ka kb = sumL a b ∧ addK a b ka kb = ka + kb := by
  have : addE a b ka kb = 0 := by unfold addE; rw [if_neg (by omega), h1, h2]; rfl
  exact ⟨this, by unfold addC; rw [this]; rfl, by unfold addK; rw [this]; rfl⟩
theorem mulE_bad {a : List Int} {ka k : Int} (hf : (allF (mulL a k) && fitO (ka * k)) = false) : mulE a ka k = 5 ∧ mulC a ka k = [] ∧ mulK a ka k = 0 := by
  have : mulE a ka k = 5 := by unfold mulE; rw [if_neg (by rw [hf]; decide)]
  exact ⟨this, by unfold mulC; rw [this]; rfl, by unfold mulK; rw [this]; rfl⟩
theorem mulE_ok {a : List Int} {ka k : Int} (h1 : allF (mulL a k) = true) (h2 : fitO (ka * k) = true) : mulE a ka k = 0 ∧ mulC a ka k = mulL a k ∧ mulK a ka k = ka * k := by
  have : mulE a ka k = 0 := by unfold mulE; rw [h1, h2]; rfl
  exact ⟨this, by unfold mulC; rw [this]; rfl, by unfold mulK; rw [this]; rfl⟩

set_option maxHeartbeats 16000000 in
set_option maxRecDepth 1000000 in
theorem refAddF_any (w : World) (av bv : Value) (a b : List Int) (ka kb : Int) (ha : Ints w av a) (hb : Ints w bv b) (ra : Rng a) (rb : Rng b) (ia : In64 ka) (ib : In64 kb) (hn : a.length ≤ 1000) (hm : b.length ≤ 1000) :
    Calls Tryd.prog 12 #[formV av ka, formV bv kb] w fun e w' => ∃ cv g gn gc, e = .returned (.tuple #[formV cv (addK a b ka kb), .agg #[.slice g gn gc, .int .i64 (addE a b ka kb)]]) ∧ Ints w' cv (addC a b ka kb) ∧ (∀ b o m c, cv = .slice (some ⟨b, o, none⟩) m c → w.heap.size ≤ b) ∧ Told w.heap.size w' (.agg #[.slice g gn gc, .int .i64 (addE a b ka kb)]) wForm 0 (addE a b ka kb) ∧ Below w.heap.size w w' := by
  have HF1 := hide unlike_any
  have HF5 := hide over_any
  obtain ⟨aa, ac, rfl⟩ := ha.shape
  obtain ⟨ba, bc, rfl⟩ := hb.shape
  have HST : Hid (RA w ((((w.alloc (.cells #[.slice aa a.length ac, .int .i64 ka] RfT)).alloc (.cells #[.slice ba b.length bc, .int .i64 kb] RfT)).alloc (.cells #[.slice none 0 0, .int .i64 0] RfT)).alloc (.cells #[.slice none 0 0, .int .i64 0] WrT)) (w.heap.size + 1) (w.heap.size + 2) (w.heap.size + 3) (.slice aa a.length ac) (.slice ba b.length bc) ka kb) := hide (by
    have b0 := alloc_below w (.cells #[.slice aa a.length ac, .int .i64 ka] RfT)
    have b1 := alloc_below (w.alloc (.cells #[.slice aa a.length ac, .int .i64 ka] RfT)) (.cells #[.slice ba b.length bc, .int .i64 kb] RfT)
    have b2 := alloc_below ((w.alloc (.cells #[.slice aa a.length ac, .int .i64 ka] RfT)).alloc (.cells #[.slice ba b.length bc, .int .i64 kb] RfT)) (.cells #[.slice none 0 0, .int .i64 0] RfT)
    have b3 := alloc_below (((w.alloc (.cells #[.slice aa a.length ac, .int .i64 ka] RfT)).alloc (.cells #[.slice ba b.length bc, .int .i64 kb] RfT)).alloc (.cells #[.slice none 0 0, .int .i64 0] RfT)) (.cells #[.slice none 0 0, .int .i64 0] WrT)
    have x0 := (((Bx.new w (.slice aa a.length ac) (.int .i64 ka) RfT).keep b1).keep b2).keep b3
    have x1 := ((Bx.new (w.alloc (.cells #[.slice aa a.length ac, .int .i64 ka] RfT)) (.slice ba b.length bc) (.int .i64 kb) RfT).keep b2).keep b3
    have x4 := (Bx.new ((w.alloc (.cells #[.slice aa a.length ac, .int .i64 ka] RfT)).alloc (.cells #[.slice ba b.length bc, .int .i64 kb] RfT)) (.slice none 0 0) (.int .i64 0) RfT).keep b3
    have x5 := Bx.new (((w.alloc (.cells #[.slice aa a.length ac, .int .i64 ka] RfT)).alloc (.cells #[.slice ba b.length bc, .int .i64 kb] RfT)).alloc (.cells #[.slice none 0 0, .int .i64 0] RfT)) (.slice none 0 0) (.int .i64 0) WrT
    simp only [size_ac] at x1 x4 x5
    exact ⟨bthen (bthen (bthen b0 b1) b2) b3, x0, x1, x4, x5⟩)
  have HO := hide (And.intro ha hb)
  have HR := hide (And.intro ra rb)
  clear ha ra hb rb
  by_cases hlen : a.length = b.length
  · skip
    generalize hna : a.length = n at *
    generalize hnb : b.length = m at *
    subst hlen
    have HLS := hide (And.intro hna hnb)
    clear hna hnb
    have heq : ((n : Int) != (n : Int)) = false := by simp
    have HLN : Hid (a.length = b.length) := hide (by rw [(unhide HLS).1, (unhide HLS).2])
    have HSL : Hid ((sumL a b).length = n) := hide (by rw [sumL_len a b (by rw [(unhide HLS).1, (unhide HLS).2])]; exact (unhide HLS).1)
    have HCN := hide (fun W => constR_any (n : Int) 0 W (by omega) (by omega))
    rw [Int.toNat_natCast] at HCN
    go_enter Tryd.func12, Tryd.ntmps12
    go_upto_region 3 with fail
    generalize (((w.alloc (.cells #[.slice aa n ac, .int .i64 ka] RfT)).alloc (.cells #[.slice ba n bc, .int .i64 kb] RfT)).alloc (.cells #[.slice none 0 0, .int .i64 0] RfT)).alloc (.cells #[.slice none 0 0, .int .i64 0] WrT) = W0 at *
    generalize hr5 : w.heap.size + 3 = r5 at *
    generalize hr4 : w.heap.size + 2 = r4 at *
    generalize hxb : w.heap.size + 1 = xb at *
    obtain ⟨e0, e1, e2, e3, e4⟩ := (unhide HST).ba
    go_upto_region 4 with (go_at_call 24; refine (unhide HCN W0).mono ?_; rintro ev w1 ⟨q, rfl, hwr, hq, hb1⟩)
    have hal := alloc_below w1 (.cells #[.slice (some ⟨q, 0, none⟩) n n, .int .i64 0] RfT)
    have HRA := hide ((unhide HST).keep (bthen hb1 hal))
    have HFB := hide (Bx.new w1 (.slice (some ⟨q, 0, none⟩) n n) (.int .i64 0) RfT)
    have HWR := hide (hwr.keep hal)
    have hq2 : q < w1.heap.size := hwr.lt
    have hz4 := (unhide HST).b4.lt
    have hz5 := (unhide HST).b5.lt
    have hza := (unhide HST).ba.lt
    have hzb := (unhide HST).bb.lt
    have hs1 := hb1.size
    clear e0 e1 e2 e3 e4 hwr hb1 hal HCN HST
    generalize w1.alloc (.cells #[.slice (some ⟨q, 0, none⟩) n n, .int .i64 0] RfT) = W1 at *
    generalize w1.heap.size = fb at *
    go_wp2_with fail
    go_loopw [7] (fun x wr => ∃ (i : Nat) (l : List Int), x = .int .i64 i ∧ i ≤ n ∧ Hid (l.length = n) ∧ Hid (RA w wr xb r4 r5 (.slice aa n ac) (.slice ba n bc) ka kb ∧ Bx wr fb (.slice (some ⟨q, 0, none⟩) n n) (.int .i64 0) ∧ Wr wr q l) ∧ Hid (l.take i = (sumL a b).take i ∧ allF ((sumL a b).take i) = true)) (fun x _ => n - (intOf x).toNat)
    case atStart => exact ⟨0, _, rfl, Nat.zero_le _, hide List.length_replicate, hide ⟨unhide HRA, unhide HFB, unhide HWR⟩, hide ⟨by simp, by simp [allF]⟩⟩
    case round =>
      obtain ⟨i, l, rfl, hi, HL, HA, HI⟩ := hrel
      clear HRA HFB HWR
      by_cases hlt : i < n
      · have hlt' : (i : Int) < (n : Int) := by omega
        have hn9 : n ≤ 9223372036854775807 := by omega
        have hi9 : i < 9223372036854775807 := by omega
        have hbl := (unhide HA).1.bl
        have ja : i < a.length := by rw [(unhide HLS).1]; exact hlt
        have jb : i < b.length := by rw [(unhide HLS).2]; exact hlt
        have ha2 : Ints wr (.slice aa n ac) a := (unhide HO).1.below hbl
        have hb2 : Ints wr (.slice ba n bc) b := (unhide HO).2.below hbl
        have hx64 := (unhide HR).1.at ja
        have hy64 := (unhide HR).2.at jb
        have hq' : (sumL a b)[i]'(by rw [unhide HSL]; exact hlt) = a[i]'ja + b[i]'jb := sumL_at a b i (unhide HLN) ja
        have hstep := allF_take (l := (sumL a b)) i (by rw [unhide HSL]; exact hlt)
        have hbadl := allF_false (l := (sumL a b)) i (by rw [unhide HSL]; exact hlt)
        have htk : (sumL a b).take (i + 1) = (sumL a b).take i ++ [(sumL a b)[i]'(by rw [unhide HSL]; exact hlt)] := List.take_succ_eq_append_getElem (by rw [unhide HSL]; exact hlt)
        rw [hq'] at hstep hbadl htk
        obtain ⟨lb, lo, lcap, hv, _, _, hcl⟩ := ha2.at (by omega)
        injection hv with hv1 hv2 hv3
        subst hv1
        have cl := hcl i ja
        obtain ⟨db, do_, dcap, hv', _, _, hcd⟩ := hb2.at (by omega)
        injection hv' with hv1' hv2' hv3'
        subst hv1'
        have cd := hcd i jb
        clear hcd hv2' hv3' hb2
        generalize b[i]'jb = y at *
        clear hcl hv2 hv3 ha2 hq'
        generalize a[i]'ja = x at *
        have HX := hide (And.intro hx64 hy64)
        have HSTP := hide (And.intro hstep (And.intro hbadl htk))
        clear hx64 hy64 jb hstep hbadl htk ja
        have hd : Below wr.heap.size wr wr.drew := below_drewN (Below.refl _ _) 1
        obtain ⟨h0, h1, h2, h3, h4⟩ := (unhide HA).1.ba
        have HA2 : Hid (RA w wr.drew xb r4 r5 (.slice (some ⟨lb, lo, none⟩) n ac) (.slice (some ⟨db, do_, none⟩) n bc) ka kb ∧ Bx wr.drew fb (.slice (some ⟨q, 0, none⟩) n n) (.int .i64 0) ∧ Wr wr.drew q l) := hide ⟨(unhide HA).1.keep hd, (unhide HA).2.1.keep hd, (unhide HA).2.2.keep hd⟩
        have cl2 : wr.drew.cell? ⟨lb, lo + i, none⟩ = some (.int .i64 x) := cl
        have cd2 : wr.drew.cell? ⟨db, do_ + i, none⟩ = some (.int .i64 y) := cd
        go_wp2_with fail
        refine wp_regionE (fun W => Bx W w.heap.size (.slice (some ⟨lb, lo, none⟩) n ac) (.int .i64 ka) ∧ Bx W xb (.slice (some ⟨db, do_, none⟩) n bc) (.int .i64 kb) ∧ W.cell? ⟨lb, lo + i, none⟩ = some (.int .i64 x) ∧ W.cell? ⟨db, do_ + i, none⟩ = some (.int .i64 y)) (fun j => decide (j < 16)) (by kernel_rfl) ⟨(unhide HA2).1.ba, (unhide HA2).1.bb, cl2, cd2⟩ (fun hS => ?_)
        clear h0 h1 h2 h3 h4 cl cd hd hbl HA cl2 cd2
        generalize wr.drew = wd at *
        refine anyE_take 0 (v := ?_) rfl (by kernel_rfl) (by kernel_rfl) (by kernel_rfl) (by kernel_rfl) (fun _ _ _ h => h) hS (Or.inl ⟨by rfl, ?_⟩) ?_
        rotate_left
        · intro w' hS'
          obtain ⟨⟨e0, e1, _, _, _⟩, ⟨g0, g1, _, _, _⟩, d0, d1⟩ := hS'
          go_simp
          try with_reducible rfl
        try simp only [List.getElem_toArray, List.getElem_cons_zero, Act.put, List.setIfInBounds_toArray, List.set_cons_zero, List.set_cons_succ]
        refine anyE_take 1 (v := ?_) rfl (by kernel_rfl) (by kernel_rfl) (by kernel_rfl) (by kernel_rfl) (fun _ _ _ h => h) hS (Or.inl ⟨by rfl, ?_⟩) ?_
        rotate_left
        · intro w' hS'
          obtain ⟨⟨e0, e1, _, _, _⟩, ⟨g0, g1, _, _, _⟩, d0, d1⟩ := hS'
          go_simp
          try with_reducible rfl
        try simp only [List.getElem_toArray, List.getElem_cons_succ, List.getElem_cons_zero, Act.put, List.setIfInBounds_toArray, List.set_cons_zero, List.set_cons_succ]
        refine anyE_take 2 (v := ?_) rfl (by kernel_rfl) (by kernel_rfl) (by kernel_rfl) (by kernel_rfl) (fun _ _ _ h => h) hS (Or.inl ⟨by rfl, ?_⟩) ?_
        rotate_left
        · intro w' hS'
          obtain ⟨⟨e0, e1, _, _, _⟩, ⟨g0, g1, _, _, _⟩, d0, d1⟩ := hS'
          go_simp
          try with_reducible rfl
        try simp only [List.getElem_toArray, List.getElem_cons_succ, List.getElem_cons_zero, Act.put, List.setIfInBounds_toArray, List.set_cons_zero, List.set_cons_succ]
        refine anyE_take 3 (v := ?_) rfl (by kernel_rfl) (by kernel_rfl) (by kernel_rfl) (by kernel_rfl) (fun _ _ _ h => h) hS (Or.inl ⟨by rfl, ?_⟩) ?_
        rotate_left
        · intro w' hS'
          obtain ⟨⟨e0, e1, _, _, _⟩, ⟨g0, g1, _, _, _⟩, d0, d1⟩ := hS'
          go_simp
          try with_reducible rfl
        try simp only [List.getElem_toArray, List.getElem_cons_succ, List.getElem_cons_zero, Act.put, List.setIfInBounds_toArray, List.set_cons_zero, List.set_cons_succ]
        refine anyE_take 4 (v := ?_) rfl (by kernel_rfl) (by kernel_rfl) (by kernel_rfl) (by kernel_rfl) (fun _ _ _ h => h) hS (Or.inl ⟨by rfl, ?_⟩) ?_
        rotate_left
        · intro w' hS'
          obtain ⟨⟨e0, e1, _, _, _⟩, ⟨g0, g1, _, _, _⟩, d0, d1⟩ := hS'
          go_simp
          try with_reducible rfl
        try simp only [List.getElem_toArray, List.getElem_cons_succ, List.getElem_cons_zero, Act.put, List.setIfInBounds_toArray, List.set_cons_zero, List.set_cons_succ]
        refine anyE_take 5 (v := ?_) rfl (by kernel_rfl) (by kernel_rfl) (by kernel_rfl) (by kernel_rfl) (fun _ _ _ h => h) hS (Or.inl ⟨by rfl, ?_⟩) ?_
        rotate_left
        · intro w' hS'
          obtain ⟨⟨e0, e1, _, _, _⟩, ⟨g0, g1, _, _, _⟩, d0, d1⟩ := hS'
          go_simp
          try with_reducible rfl
        try simp only [List.getElem_toArray, List.getElem_cons_succ, List.getElem_cons_zero, Act.put, List.setIfInBounds_toArray, List.set_cons_zero, List.set_cons_succ]
        refine anyE_take 6 (v := ?_) rfl (by kernel_rfl) (by kernel_rfl) (by kernel_rfl) (by kernel_rfl) (fun _ _ _ h => h) hS (Or.inl ⟨by rfl, ?_⟩) ?_
        rotate_left
        · intro w' hS'
          obtain ⟨⟨e0, e1, _, _, _⟩, ⟨g0, g1, _, _, _⟩, d0, d1⟩ := hS'
          go_simp
          try with_reducible rfl
        try simp only [List.getElem_toArray, List.getElem_cons_succ, List.getElem_cons_zero, Act.put, List.setIfInBounds_toArray, List.set_cons_zero, List.set_cons_succ]
        refine anyE_take 7 (v := ?_) rfl (by kernel_rfl) (by kernel_rfl) (by kernel_rfl) (by kernel_rfl) (fun _ _ _ h => h) hS (Or.inl ⟨by rfl, ?_⟩) ?_
        rotate_left
        · intro w' hS'
          obtain ⟨⟨e0, e1, _, _, _⟩, ⟨g0, g1, _, _, _⟩, d0, d1⟩ := hS'
          go_simp
          try with_reducible rfl
        try simp only [List.getElem_toArray, List.getElem_cons_succ, List.getElem_cons_zero, Act.put, List.setIfInBounds_toArray, List.set_cons_zero, List.set_cons_succ]
        refine anyE_take 8 (v := ?_) rfl (by kernel_rfl) (by kernel_rfl) (by kernel_rfl) (by kernel_rfl) (fun _ _ _ h => h) hS (Or.inl ⟨by rfl, ?_⟩) ?_
        rotate_left
        · intro w' hS'
          obtain ⟨⟨e0, e1, _, _, _⟩, ⟨g0, g1, _, _, _⟩, d0, d1⟩ := hS'
          go_simp
          try with_reducible rfl
        try simp only [List.getElem_toArray, List.getElem_cons_succ, List.getElem_cons_zero, Act.put, List.setIfInBounds_toArray, List.set_cons_zero, List.set_cons_succ]
        refine anyE_take 9 (v := ?_) rfl (by kernel_rfl) (by kernel_rfl) (by kernel_rfl) (by kernel_rfl) (fun _ _ _ h => h) hS (Or.inl ⟨by rfl, ?_⟩) ?_
        rotate_left
        · intro w' hS'
          obtain ⟨⟨e0, e1, _, _, _⟩, ⟨g0, g1, _, _, _⟩, d0, d1⟩ := hS'
          go_simp
          try with_reducible rfl
        try simp only [List.getElem_toArray, List.getElem_cons_succ, List.getElem_cons_zero, Act.put, List.setIfInBounds_toArray, List.set_cons_zero, List.set_cons_succ]
        refine anyE_ready [10] (by kernel_rfl) (by simp) (ReadyE.cons rfl (fun K' hK => ?_) ReadyE.nil)
        go_simp
        go_at_call 33
        refine (refAdd_any x y wd (unhide HX).1.1 (unhide HX).1.2 (unhide HX).2.1 (unhide HX).2.2).mono ?_
        rintro ev w5 ⟨rfl, hw⟩
        have hw := hw.symm
        subst hw
        dsimp only
        try go_simp
        refine hK _ _ (fun _ => hS) ?_
        clear hK K'
        try simp only [List.getElem_toArray, List.getElem_cons_succ, List.getElem_cons_zero, Act.put, List.setIfInBounds_toArray, List.set_cons_zero, List.set_cons_succ]
        refine anyE_take 11 (v := ?_) rfl (by kernel_rfl) (by kernel_rfl) (by kernel_rfl) (by kernel_rfl) (fun _ _ _ h => h) hS (Or.inl ⟨by rfl, ?_⟩) ?_
        rotate_left
        · intro w' hS'
          obtain ⟨⟨e0, e1, _, _, _⟩, ⟨g0, g1, _, _, _⟩, d0, d1⟩ := hS'
          go_simp
          try with_reducible rfl
        try simp only [List.getElem_toArray, List.getElem_cons_succ, List.getElem_cons_zero, Act.put, List.setIfInBounds_toArray, List.set_cons_zero, List.set_cons_succ]
        refine anyE_take 12 (v := ?_) rfl (by kernel_rfl) (by kernel_rfl) (by kernel_rfl) (by kernel_rfl) (fun _ _ _ h => h) hS (Or.inl ⟨by rfl, ?_⟩) ?_
        rotate_left
        · intro w' hS'
          obtain ⟨⟨e0, e1, _, _, _⟩, ⟨g0, g1, _, _, _⟩, d0, d1⟩ := hS'
          go_simp
          try with_reducible rfl
        try simp only [List.getElem_toArray, List.getElem_cons_succ, List.getElem_cons_zero, Act.put, List.setIfInBounds_toArray, List.set_cons_zero, List.set_cons_succ]
        refine anyE_take 13 (v := ?_) rfl (by kernel_rfl) (by kernel_rfl) (by kernel_rfl) (by kernel_rfl) (fun _ _ _ h => h) hS (Or.inl ⟨by rfl, ?_⟩) ?_
        rotate_left
        · intro w' hS'
          obtain ⟨⟨e0, e1, _, _, _⟩, ⟨g0, g1, _, _, _⟩, d0, d1⟩ := hS'
          go_simp
          try with_reducible rfl
        try simp only [List.getElem_toArray, List.getElem_cons_succ, List.getElem_cons_zero, Act.put, List.setIfInBounds_toArray, List.set_cons_zero, List.set_cons_succ]
        refine anyE_take 14 (v := ?_) rfl (by kernel_rfl) (by kernel_rfl) (by kernel_rfl) (by kernel_rfl) (fun _ _ _ h => h) hS (Or.inl ⟨by rfl, ?_⟩) ?_
        rotate_left
        · intro w' hS'
          obtain ⟨⟨e0, e1, _, _, _⟩, ⟨g0, g1, _, _, _⟩, d0, d1⟩ := hS'
          go_simp
          try with_reducible rfl
        try simp only [List.getElem_toArray, List.getElem_cons_succ, List.getElem_cons_zero, Act.put, List.setIfInBounds_toArray, List.set_cons_zero, List.set_cons_succ]
        refine anyE_take 15 (v := ?_) rfl (by kernel_rfl) (by kernel_rfl) (by kernel_rfl) (by kernel_rfl) (fun _ _ _ h => h) hS (Or.inl ⟨by rfl, ?_⟩) ?_
        rotate_left
        · intro w' hS'
          obtain ⟨⟨e0, e1, _, _, _⟩, ⟨g0, g1, _, _, _⟩, d0, d1⟩ := hS'
          go_simp
          try with_reducible rfl
        try simp only [List.getElem_toArray, List.getElem_cons_succ, List.getElem_cons_zero, Act.put, List.setIfInBounds_toArray, List.set_cons_zero, List.set_cons_succ]
        refine anyE_done (by kernel_rfl) ?_ _
        clear hS
        cases ho : fitO (x + y)
        · have HBAD := hide (show (allF (sumL a b) && fitO (ka + kb)) = false by rw [(unhide HSTP).2.1 ho, Bool.false_and])
          have HS5 := hide (unhide HF5 wd)
          have HR2 := hide (unhide HA2).1
          clear ho HSTP HA2
          go_wp2_with fail
          refine (unhide HS5).mono ?_
          rintro e w6 ⟨b6, rfl, ht, hb⟩
          have HR6 := hide ((unhide HR2).keep hb)
          have hE := addE_bad (a := a) (b := b) (unhide HLN) (unhide HBAD)
          have HE := hide hE
          clear hE
          have HT := hide (((((ht.setCell ⟨r4, 0, none⟩ (unhide HR2).b4.lt (.slice none 0 0)).setCell ⟨r4, 1, none⟩ (unhide HR2).b4.lt (.int .i64 0)).setCell ⟨r5, 0, none⟩ (unhide HR2).b5.lt (.slice (some ⟨b6, 0, none⟩) 1 1)).setCell ⟨r5, 1, none⟩ (unhide HR2).b5.lt (.int .i64 5)).mono (unhide HR2).bl.size)
          have HB6 := hide (((((unhide HR6).bl.setCell (p := ⟨r4, 0, none⟩) (by show w.heap.size ≤ r4; omega) (.slice none 0 0)).setCell (p := ⟨r4, 1, none⟩) (by show w.heap.size ≤ r4; omega) (.int .i64 0)).setCell (p := ⟨r5, 0, none⟩) (by show w.heap.size ≤ r5; omega) (.slice (some ⟨b6, 0, none⟩) 1 1)).setCell (p := ⟨r5, 1, none⟩) (by show w.heap.size ≤ r5; omega) (.int .i64 5))
          have HF4 := (((((unhide HR6).b4.set0 (.slice none 0 0)).set1 (.int .i64 0)).other ⟨r5, 0, none⟩ (by show r5 ≠ r4; omega) (.slice (some ⟨b6, 0, none⟩) 1 1)).other ⟨r5, 1, none⟩ (by show r5 ≠ r4; omega) (.int .i64 5))
          have HF5 := (((((unhide HR6).b5.other ⟨r4, 0, none⟩ (by show r4 ≠ r5; omega) (.slice none 0 0)).other ⟨r4, 1, none⟩ (by show r4 ≠ r5; omega) (.int .i64 0)).set0 (.slice (some ⟨b6, 0, none⟩) 1 1)).set1 (.int .i64 5))
          clear hb ht
          obtain ⟨z0, z1, z2, z3, z4⟩ := (unhide HR6).b4
          obtain ⟨y0, y1, y2, y3, y4⟩ := (unhide HR6).b5
          have hne45 : r4 ≠ r5 := by omega
          go_wp2_with fail
          rw [(unhide HE).1, (unhide HE).2.1, (unhide HE).2.2]
          exact bodyPost_ret (v := .tuple #[formV (.slice none 0 0) 0, .agg #[.slice (some ⟨b6, 0, none⟩) 1 1, .int .i64 5]]) (by simp [results, Tryd.results12, go_sem, HF4.c0, HF4.c1, HF5.c0, HF5.c1]) rfl ⟨.slice none 0 0, some ⟨b6, 0, none⟩, 1, 1, rfl, Ints.nil _, (fun b o m c h => by cases h), unhide HT, unhide HB6⟩
        · have hfv := fitV_eq ho
          rw [hfv]
          have HN : Hid (allF ((sumL a b).take (i + 1)) = true ∧ (sumL a b).take (i + 1) = (sumL a b).take i ++ [x + y]) := hide ⟨by rw [(unhide HSTP).1, ho, (unhide HI).2]; rfl, (unhide HSTP).2.2⟩
          clear ho hfv HSTP
          generalize x + y = z at *
          obtain ⟨f0, f1, f2, f3, f4⟩ := (unhide HA2).2.1
          have cq := (unhide HA2).2.2.at i (by rw [unhide HL]; omega)
          have fq := (unhide HA2).2.2.free i
          have HA3 : Hid (RA w (wd.setCell ⟨q, i, none⟩ (.int .i64 z)) xb r4 r5 (.slice (some ⟨lb, lo, none⟩) n ac) (.slice (some ⟨db, do_, none⟩) n bc) ka kb ∧ Bx (wd.setCell ⟨q, i, none⟩ (.int .i64 z)) fb (.slice (some ⟨q, 0, none⟩) n n) (.int .i64 0) ∧ Wr (wd.setCell ⟨q, i, none⟩ (.int .i64 z)) q (l.set i z)) := hide ⟨(unhide HA2).1.set ⟨q, i, none⟩ (by show q ≠ w.heap.size; omega) (by show q ≠ xb; omega) (by show q ≠ r4; omega) (by show q ≠ r5; omega) (by show w.heap.size ≤ q; omega) _, (unhide HA2).2.1.other ⟨q, i, none⟩ (by show q ≠ fb; omega) _, (unhide HA2).2.2.set i (by rw [unhide HL]; omega) z⟩
          have HL3 : Hid ((l.set i z).length = n) := hide (by rw [List.length_set]; exact unhide HL)
          have HI3 : Hid ((l.set i z).take (i + 1) = (sumL a b).take (i + 1) ∧ allF ((sumL a b).take (i + 1)) = true) := hide ⟨by rw [List.take_succ_eq_append_getElem (by rw [unhide HL3]; exact hlt), List.getElem_set_self, List.take_set_of_le (Nat.le_refl _), (unhide HI).1, (unhide HN).2], (unhide HN).1⟩
          go_wp2_with fail
          go_roundw
          case rel => exact ⟨i + 1, _, by go_num, by omega, HL3, HA3, HI3⟩
          case measure => simp [intOf]; omega
      · have hin : i = n := by omega
        subst hin
        have hlt' : ¬ (i : Int) < (i : Int) := by omega
        have hS : (sumL a b).take i = (sumL a b) := List.take_of_length_le (by rw [unhide HSL]; exact Nat.le_refl _)
        have hl : l = (sumL a b) := by
          have h1 := (unhide HI).1
          rw [hS, List.take_of_length_le (by rw [unhide HL]; exact Nat.le_refl _)] at h1
          exact h1
        have HALL := hide (by have h2 := (unhide HI).2; rw [hS] at h2; exact h2)
        have HLL := hide hl
        clear hS hl HI
        obtain ⟨h0, h1, h2, h3, h4⟩ := (unhide HA).1.ba
        obtain ⟨g0, g1, g2, g3, g4⟩ := (unhide HA).1.bb
        have HP := hide (refAdd_any ka kb wr ia.1 ia.2 ib.1 ib.2)
        go_upto_region 12 with (go_at_call 33; refine (unhide HP).mono ?_; rintro ev w5 ⟨rfl, hw⟩; have hw := hw.symm; subst hw)
        clear h0 h1 h2 h3 h4 HP g0 g1 g2 g3 g4
        cases ho : fitO (ka + kb)
        · have HBAD := hide (show (allF (sumL a b) && fitO (ka + kb)) = false by rw [ho, Bool.and_false])
          have HS5 := hide (unhide HF5 wr)
          have HR2 := hide (unhide HA).1
          clear ho HA HALL HLL
          go_wp2_with fail
          refine (unhide HS5).mono ?_
          rintro e w6 ⟨b6, rfl, ht, hb⟩
          have HR6 := hide ((unhide HR2).keep hb)
          have hE := addE_bad (a := a) (b := b) (unhide HLN) (unhide HBAD)
          have HE := hide hE
          clear hE
          have HT := hide (((((ht.setCell ⟨r4, 0, none⟩ (unhide HR2).b4.lt (.slice none 0 0)).setCell ⟨r4, 1, none⟩ (unhide HR2).b4.lt (.int .i64 0)).setCell ⟨r5, 0, none⟩ (unhide HR2).b5.lt (.slice (some ⟨b6, 0, none⟩) 1 1)).setCell ⟨r5, 1, none⟩ (unhide HR2).b5.lt (.int .i64 5)).mono (unhide HR2).bl.size)
          have HB6 := hide (((((unhide HR6).bl.setCell (p := ⟨r4, 0, none⟩) (by show w.heap.size ≤ r4; omega) (.slice none 0 0)).setCell (p := ⟨r4, 1, none⟩) (by show w.heap.size ≤ r4; omega) (.int .i64 0)).setCell (p := ⟨r5, 0, none⟩) (by show w.heap.size ≤ r5; omega) (.slice (some ⟨b6, 0, none⟩) 1 1)).setCell (p := ⟨r5, 1, none⟩) (by show w.heap.size ≤ r5; omega) (.int .i64 5))
          have HF4 := (((((unhide HR6).b4.set0 (.slice none 0 0)).set1 (.int .i64 0)).other ⟨r5, 0, none⟩ (by show r5 ≠ r4; omega) (.slice (some ⟨b6, 0, none⟩) 1 1)).other ⟨r5, 1, none⟩ (by show r5 ≠ r4; omega) (.int .i64 5))
          have HF5 := (((((unhide HR6).b5.other ⟨r4, 0, none⟩ (by show r4 ≠ r5; omega) (.slice none 0 0)).other ⟨r4, 1, none⟩ (by show r4 ≠ r5; omega) (.int .i64 0)).set0 (.slice (some ⟨b6, 0, none⟩) 1 1)).set1 (.int .i64 5))
          clear hb ht
          obtain ⟨z0, z1, z2, z3, z4⟩ := (unhide HR6).b4
          obtain ⟨y0, y1, y2, y3, y4⟩ := (unhide HR6).b5
          have hne45 : r4 ≠ r5 := by omega
          go_wp2_with fail
          rw [(unhide HE).1, (unhide HE).2.1, (unhide HE).2.2]
          exact bodyPost_ret (v := .tuple #[formV (.slice none 0 0) 0, .agg #[.slice (some ⟨b6, 0, none⟩) 1 1, .int .i64 5]]) (by simp [results, Tryd.results12, go_sem, HF4.c0, HF4.c1, HF5.c0, HF5.c1]) rfl ⟨.slice none 0 0, some ⟨b6, 0, none⟩, 1, 1, rfl, Ints.nil _, (fun b o m c h => by cases h), unhide HT, unhide HB6⟩
        · have hE := addE_ok (a := a) (b := b) (unhide HLN) (unhide HALL) ho
          have hfv := fitV_eq ho
          have HE := hide hE
          rw [hfv]
          clear ho hfv hE
          generalize hkk : ka + kb = kk at *
          have HKK := hide hkk
          clear hkk
          have HW3 := hide (((((((unhide HA).2.2.other ⟨fb, 1, none⟩ (by show fb ≠ q; omega) (.int .i64 kk)).other ⟨r4, 0, none⟩ (by show r4 ≠ q; omega) (.slice (some ⟨q, 0, none⟩) i i)).other ⟨r4, 1, none⟩ (by show r4 ≠ q; omega) (.int .i64 kk)).other ⟨r5, 0, none⟩ (by show r5 ≠ q; omega) (.slice none 0 0)).other ⟨r5, 1, none⟩ (by show r5 ≠ q; omega) (.int .i64 0)).ints)
          have HB6 := hide ((((((unhide HA).1.bl.setCell (p := ⟨fb, 1, none⟩) (by show w.heap.size ≤ fb; omega) (.int .i64 kk)).setCell (p := ⟨r4, 0, none⟩) (by show w.heap.size ≤ r4; omega) (.slice (some ⟨q, 0, none⟩) i i)).setCell (p := ⟨r4, 1, none⟩) (by show w.heap.size ≤ r4; omega) (.int .i64 kk)).setCell (p := ⟨r5, 0, none⟩) (by show w.heap.size ≤ r5; omega) (.slice none 0 0)).setCell (p := ⟨r5, 1, none⟩) (by show w.heap.size ≤ r5; omega) (.int .i64 0))
          have HF4 := ((((((unhide HA).1.b4.other ⟨fb, 1, none⟩ (by show fb ≠ r4; omega) (.int .i64 kk)).set0 (.slice (some ⟨q, 0, none⟩) i i)).set1 (.int .i64 kk)).other ⟨r5, 0, none⟩ (by show r5 ≠ r4; omega) (.slice none 0 0)).other ⟨r5, 1, none⟩ (by show r5 ≠ r4; omega) (.int .i64 0))
          have HF5' := ((((((unhide HA).1.b5.other ⟨fb, 1, none⟩ (by show fb ≠ r5; omega) (.int .i64 kk)).other ⟨r4, 0, none⟩ (by show r4 ≠ r5; omega) (.slice (some ⟨q, 0, none⟩) i i)).other ⟨r4, 1, none⟩ (by show r4 ≠ r5; omega) (.int .i64 kk)).set0 (.slice none 0 0)).set1 (.int .i64 0))
          obtain ⟨f0, f1, f2, f3, f4⟩ := (unhide HA).2.1
          obtain ⟨z0, z1, z2, z3, z4⟩ := (unhide HA).1.b4
          obtain ⟨y0, y1, y2, y3, y4⟩ := (unhide HA).1.b5
          have hne45 : r4 ≠ r5 := by omega
          have hne4 : fb ≠ r4 := by omega
          have hne5 : fb ≠ r5 := by omega
          rw [unhide HL] at HW3
          go_wp2_with fail
          rw [(unhide HE).1, (unhide HE).2.1, (unhide HE).2.2]
          exact bodyPost_ret (v := .tuple #[formV (.slice (some ⟨q, 0, none⟩) i i) kk, .agg #[.slice none 0 0, .int .i64 0]]) (by simp [results, Tryd.results12, go_sem, HF4.c0, HF4.c1, HF5'.c0, HF5'.c1]) rfl ⟨.slice (some ⟨q, 0, none⟩) i i, none, 0, 0, by first | rfl | rw [unhide HKK], by rw [← unhide HLL]; exact unhide HW3, (fun b o m c h => by injection h with h; injection h with h; injection h with h; omega), .inl ⟨rfl, rfl⟩, unhide HB6⟩
  · have HE0 := hide (addE_ne (ka := ka) (kb := kb) hlen)
    have hne' : ((a.length : Int) != (b.length : Int)) = true := by simp; omega
    clear hn hm
    generalize a.length = n at *
    generalize b.length = m at *
    go_enter Tryd.func12, Tryd.ntmps12
    go_upto_region 2 with fail
    generalize (((w.alloc (.cells #[.slice aa n ac, .int .i64 ka] RfT)).alloc (.cells #[.slice ba m bc, .int .i64 kb] RfT)).alloc (.cells #[.slice none 0 0, .int .i64 0] RfT)).alloc (.cells #[.slice none 0 0, .int .i64 0] WrT) = W0 at *
    generalize hr5 : w.heap.size + 3 = r5 at *
    generalize hr4 : w.heap.size + 2 = r4 at *
    generalize hxb : w.heap.size + 1 = xb at *
    have HS5 := hide (unhide HF1 W0)
    go_wp2_with fail
    refine (unhide HS5).mono ?_
    rintro e w6 ⟨b6, rfl, ht, hb⟩
    have HR6 := hide ((unhide HST).keep hb)
    have hE := unhide HE0
    have HE := hide hE
    clear hE
    have HT := hide (((((ht.setCell ⟨r4, 0, none⟩ (unhide HST).b4.lt (.slice none 0 0)).setCell ⟨r4, 1, none⟩ (unhide HST).b4.lt (.int .i64 0)).setCell ⟨r5, 0, none⟩ (unhide HST).b5.lt (.slice (some ⟨b6, 0, none⟩) 1 1)).setCell ⟨r5, 1, none⟩ (unhide HST).b5.lt (.int .i64 1)).mono (unhide HST).bl.size)
    have HB6 := hide (((((unhide HR6).bl.setCell (p := ⟨r4, 0, none⟩) (by show w.heap.size ≤ r4; omega) (.slice none 0 0)).setCell (p := ⟨r4, 1, none⟩) (by show w.heap.size ≤ r4; omega) (.int .i64 0)).setCell (p := ⟨r5, 0, none⟩) (by show w.heap.size ≤ r5; omega) (.slice (some ⟨b6, 0, none⟩) 1 1)).setCell (p := ⟨r5, 1, none⟩) (by show w.heap.size ≤ r5; omega) (.int .i64 1))
    have HF4 := (((((unhide HR6).b4.set0 (.slice none 0 0)).set1 (.int .i64 0)).other ⟨r5, 0, none⟩ (by show r5 ≠ r4; omega) (.slice (some ⟨b6, 0, none⟩) 1 1)).other ⟨r5, 1, none⟩ (by show r5 ≠ r4; omega) (.int .i64 1))
    have HF5 := (((((unhide HR6).b5.other ⟨r4, 0, none⟩ (by show r4 ≠ r5; omega) (.slice none 0 0)).other ⟨r4, 1, none⟩ (by show r4 ≠ r5; omega) (.int .i64 0)).set0 (.slice (some ⟨b6, 0, none⟩) 1 1)).set1 (.int .i64 1))
    clear hb ht
    obtain ⟨z0, z1, z2, z3, z4⟩ := (unhide HR6).b4
    obtain ⟨y0, y1, y2, y3, y4⟩ := (unhide HR6).b5
    have hne45 : r4 ≠ r5 := by omega
    go_wp2_with fail
    rw [(unhide HE).1, (unhide HE).2.1, (unhide HE).2.2]
    exact bodyPost_ret (v := .tuple #[formV (.slice none 0 0) 0, .agg #[.slice (some ⟨b6, 0, none⟩) 1 1, .int .i64 1]]) (by simp [results, Tryd.results12, go_sem, HF4.c0, HF4.c1, HF5.c0, HF5.c1]) rfl ⟨.slice none 0 0, some ⟨b6, 0, none⟩, 1, 1, rfl, Ints.nil _, (fun b o m c h => by cases h), unhide HT, unhide HB6⟩
end Go.Proofs.YtmbhamnkbpcljaaDoor.Line
