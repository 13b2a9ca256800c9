/- Contracts of At, the program's and the reference's. -/
import Derived.Test.YtmbhamnkbpcljaaDoorLnAdd
import Derived.Test.YtmbhamnkbpcljaaDoorLnCst
namespace Go.Proofs.YtmbhamnkbpcljaaDoor.Line
open Go.ChangeShapes Go.WideShapes Go.ChangeAt Go.RowKit
set_option linter.unusedVariables false

/-- where a sum stands: nothing was too great so far, or something was -/
def AtI (c x : List Int) (i : Nat) (o : Bool) (s : Int) : Prop := (o = false → atGo 0 c x = atGo s (c.drop i) (x.drop i)) ∧ (o = true → atGo 0 c x = none)
theorem AtI.next {c x : List Int} {i : Nat} {o : Bool} {s : Int} (h : AtI c x i o s) (hc : i < c.length) (hx : i < x.length) (a b : Int) (ha : a = c[i]) (hb : b = x[i]) : AtI c x (i + 1) ((o || !fitO (a * b)) || !fitO (s + fitV (a * b))) (fitV (s + fitV (a * b))) := by
  have hs := atGo_step (s := s) i hc hx
  rw [← ha, ← hb] at hs
  cases o with
  | true => exact ⟨fun h2 => by simp at h2, fun _ => h.2 rfl⟩
  | false =>
    have h1 := (h.1 rfl).trans hs
    cases h3 : fitO (a * b) with
    | false =>
      rw [h3, Bool.false_and, if_neg (by decide)] at h1
      exact ⟨fun h2 => by simp at h2, fun _ => h1⟩
    | true =>
      have h4 := fitV_eq h3
      rw [h4]
      cases h5 : fitO (s + a * b) with
      | false =>
        rw [h3, h5, Bool.and_false, if_neg (by decide)] at h1
        exact ⟨fun h2 => by simp at h2, fun _ => h1⟩
      | true =>
        rw [h3, h5, Bool.and_self, if_pos rfl] at h1
        rw [fitV_eq h5]
        exact ⟨fun _ => h1, fun h2 => by simp at h2⟩
theorem AtI.fin {c x : List Int} {i : Nat} {o : Bool} {s : Int} (k : Int) (h : AtI c x i o s) (hc : c.length ≤ i) : ((o || !fitO (s + k)) = false → atP c x k = some (fitV (s + k))) ∧ ((o || !fitO (s + k)) = true → atP c x k = none) := by
  cases o with
  | true => exact ⟨fun h2 => by simp at h2, fun _ => by unfold atP; rw [h.2 rfl]; rfl⟩
  | false =>
    have h1 := h.1 rfl
    rw [atGo_end i hc] at h1
    cases h5 : fitO (s + k) with
    | false => exact ⟨fun h2 => by simp at h2, fun _ => by unfold atP; rw [h1]; simp [h5]⟩
    | true => exact ⟨fun _ => by unfold atP; rw [h1, fitV_eq h5]; simp [h5], fun h2 => by simp at h2⟩
theorem AtI.zero (c x : List Int) : AtI c x 0 false 0 := ⟨fun _ => rfl, fun h => by cases h⟩
theorem atE_ne {c x : List Int} {k : Int} (h : c.length ≠ x.length) : atE c x k = 1 ∧ atV c x k = 0 := by unfold atE atV; rw [if_pos h, if_pos h]; exact ⟨rfl, rfl⟩
theorem atE_some {c x : List Int} {k v : Int} (h : c.length = x.length) (hp : atP c x k = some v) : atE c x k = 0 ∧ atV c x k = v := by unfold atE atV; rw [if_neg (by omega), if_neg (by omega), hp]; exact ⟨rfl, rfl⟩
theorem atE_none {c x : List Int} {k : Int} (h : c.length = x.length) (hp : atP c x k = none) : atE c x k = 5 ∧ atV c x k = 0 := by unfold atE atV; rw [if_neg (by omega), if_neg (by omega), hp]; exact ⟨rfl, rfl⟩

set_option maxHeartbeats 8000000 in
set_option maxRecDepth 100000 in
theorem linAt_any (w : World) (av xv : Value) (a x : List Int) (ka : Int) (ha : Ints w av a) (hx : Ints w xv x) (ra : Rng a) (rx : Rng x) (ia : In64 ka) (hn : a.length ≤ 1000) (hm : x.length ≤ 1000) :
    Calls Tryd.prog 19 #[formV av ka, xv] w fun e w' => ∃ f, e = .returned (.tuple #[.int .i64 (atV a x ka), f]) ∧ Says w.heap.size w' f wForm 0 (atE a x ka) ∧ Below w.heap.size w w' := by
  have HF := hide fault_any
  obtain ⟨aa, ac, rfl⟩ := ha.shape
  obtain ⟨ba, bc, rfl⟩ := hx.shape
  by_cases hlen : a.length = x.length
  · have HRS := hide (RS.new (alloc_below w (.cells #[.slice aa a.length ac, .int .i64 ka] FmT)))
    have HXA := hide ((Bx.new w (.slice aa a.length ac) (.int .i64 ka) FmT).keep (alloc_below _ (.cells #[.bool false] RcT)))
    rw [size_al] at HRS
    have HO := hide (And.intro ha hx)
    have HR := hide (And.intro ra rx)
    have HLN := hide hlen
    generalize hna : a.length = n at *
    generalize hnb : x.length = m at *
    subst hlen
    have HLS := hide (And.intro hna hnb)
    clear ha hx ra rx hna hnb
    have heq : ((n : Int) != (n : Int)) = false := by simp
    go_enter Tryd.func19, Tryd.ntmps19
    go_wp2_with fail
    generalize (w.alloc (.cells #[.slice aa n ac, .int .i64 ka] FmT)).alloc (.cells #[.bool false] RcT) = W0 at *
    generalize hrb : w.heap.size + 1 = rb at *
    go_loopw [7, 20] (fun s q wr => ∃ (i : Nat) (o : Bool) (sv : Int), s = .int .i64 sv ∧ q = .int .i64 i ∧ i ≤ n ∧ Hid (In64 sv) ∧ Hid (RS w wr rb o ∧ Bx wr w.heap.size (.slice aa n ac) (.int .i64 ka)) ∧ Hid (AtI a x i o sv)) (fun _ q _ => n - (intOf q).toNat)
    case atStart => exact ⟨0, false, 0, rfl, rfl, Nat.zero_le _, hide ⟨by decide, by decide⟩, hide ⟨unhide HRS, unhide HXA⟩, hide (AtI.zero a x)⟩
    case round =>
      obtain ⟨i, o, sv, rfl, rfl, hi, HV, HA, HI⟩ := hrel
      clear HRS HXA
      by_cases hlt : i < n
      · have hlt' : (i : Int) < (n : Int) := by omega
        have hn9 : n ≤ 9223372036854775807 := by omega
        have hi9 : i < 9223372036854775807 := by omega
        have hal := (unhide HLS).1
        have hxl := (unhide HLS).2
        have hbl := (unhide HA).1.bl
        have ha2 := (unhide HO).1.below hbl
        have hb2 := (unhide HO).2.below hbl
        have hx64 := (unhide HR).1.at (i := i) (by omega)
        have hy64 := (unhide HR).2.at (i := i) (by omega)
        have hnx := (unhide HI).next (by omega : i < a.length) (by omega : i < x.length) _ _ rfl rfl
        rw [← hal] at ha2
        rw [← hxl] at hb2
        obtain ⟨lb, lo, lcap, hv, hc1, hc2, hcl⟩ := ha2.at (by omega)
        injection hv with hv1 hv2 hv3
        subst hv1
        obtain ⟨db, do_, dcap, hv', hd1, hd2, hcd⟩ := hb2.at (by omega)
        injection hv' with hv1' hv2' hv3'
        subst hv1'
        have cl : wr.cell? ⟨lb, lo + i, none⟩ = some (.int .i64 (a[i]'(by omega))) := hcl i (by omega)
        have hlbw : ∀ W, Below w.heap.size w W → W.cell? ⟨db, do_ + i, none⟩ = some (.int .i64 (x[i]'(by omega))) := fun W hW => by
          have hb3 := (unhide HO).2.below hW
          rw [← hxl] at hb3
          obtain ⟨db', do', dcap', hv', _, _, hcd'⟩ := hb3.at (by omega)
          injection hv' with e1
          injection e1 with e1
          injection e1 with e1 e2
          rw [e1, e2]
          exact hcd' i (by omega)
        have cd := hlbw wr hbl
        clear hcl hcd hv2 hv3 hv2' hv3' hc1 hc2 hd1 hd2 ha2 hb2 hlbw
        generalize a[i]'(by have := (unhide HLS).1; omega) = p at *
        generalize x[i]'(by have := (unhide HLS).2; omega) = q at *
        have HX := hide (And.intro hx64 hy64)
        have HN := hide hnx
        clear hx64 hy64 hnx hbl hal hxl
        obtain ⟨⟨hro, hrf, hrl, hrB, hbl⟩, h0, h1, h2, h3, h4⟩ := unhide HA
        have HP := hide (rmul_any wr rb o p q hro hrf (unhide HX).1 (unhide HX).2)
        have HA2 := hide (And.intro ((unhide HA).1.mark (o || !fitO (p * q))) ((unhide HA).2.other ⟨rb, 0, none⟩ (by show rb ≠ w.heap.size; omega) (.bool (o || !fitO (p * q)))))
        clear hrl hrB hbl h0 h1 h2 h3 h4 hro hrf
        obtain ⟨z0, z1, z2, z3, z4⟩ := (unhide HA).2
        go_wp2_with fail
        refine (unhide HP).mono ?_
        rintro ev w5 ⟨rfl, hw⟩
        subst hw
        go_wp2_with fail
        clear z0 z1 z2 z3 z4 cl cd
        generalize wr.setCell ⟨rb, 0, none⟩ (.bool (o || !fitO (p * q))) = w6 at *
        have HA3 := hide (And.intro ((unhide HA2).1.mark ((o || !fitO (p * q)) || !fitO (sv + fitV (p * q)))) ((unhide HA2).2.other ⟨rb, 0, none⟩ (by show rb ≠ w.heap.size; omega) (.bool ((o || !fitO (p * q)) || !fitO (sv + fitV (p * q))))))
        refine (radd_any w6 rb (o || !fitO (p * q)) sv (fitV (p * q)) (unhide HA2).1.ro (unhide HA2).1.rf (unhide HV) (fitV_in64 _)).mono ?_
        rintro ev w7 ⟨rfl, hw⟩
        subst hw
        go_wp2_with fail
        go_roundw
        case rel => exact ⟨i + 1, _, _, rfl, by go_num, by omega, hide (fitV_in64 _), HA3, HN⟩
        case measure => simp [intOf]; omega
      · have hin : i = n := by omega
        subst hin
        have hlt' : ¬ (i : Int) < (i : Int) := by omega
        obtain ⟨⟨hro, hrf, hrl, hrB, hbl⟩, z0, z1, z2, z3, z4⟩ := unhide HA
        have HFI := hide ((unhide HI).fin ka (by rw [(unhide HLS).1]; exact Nat.le_refl _))
        have HP := hide (radd_any wr rb o sv ka hro hrf (unhide HV) ia)
        have HA2 := hide ((unhide HA).1.mark (o || !fitO (sv + ka)))
        clear hrl hrB hbl
        go_wp2_with fail
        refine (unhide HP).mono ?_
        rintro ev w5 ⟨rfl, hw⟩
        subst hw
        clear hro hrf z0 z1 z2 z3 z4
        generalize wr.setCell ⟨rb, 0, none⟩ (.bool (o || !fitO (sv + ka))) = w6 at *
        obtain ⟨hro, hrf, hrl, hrB, hbl⟩ := unhide HA2
        have HB := hide hbl
        generalize hoo : (o || !fitO (sv + ka)) = oo at *
        clear hrl hrB hbl HP HA2
        cases oo
        · have hp := atE_some (c := a) (x := x) (by rw [(unhide HLS).1, (unhide HLS).2]) ((unhide HFI).1 rfl)
          have HP := hide hp
          clear hp
          go_wp2_with fail
          go_ret2
          exact ⟨.nilIface, by rw [(unhide HP).2]; rfl, by rw [(unhide HP).1]; exact .inl ⟨rfl, rfl⟩, unhide HB⟩
        · have hp := atE_none (c := a) (x := x) (by rw [(unhide HLS).1, (unhide HLS).2]) ((unhide HFI).2 rfl)
          have HP := hide hp
          clear hp
          go_wp2_with fail
          refine (unhide HF 5 (by decide) _).mono ?_
          rintro e w2 ⟨f, rfl, hs, hB⟩
          have HS := hide (hs.mono (unhide HB).size)
          have HB2 := hide ((unhide HB).trans (hB.mono (unhide HB).size))
          clear hs hB
          go_wp2_with fail
          go_ret2
          exact ⟨f, by rw [(unhide HP).2]; rfl, by rw [(unhide HP).1]; exact unhide HS, unhide HB2⟩
  · have HE := hide (atE_ne (k := ka) hlen)
    have hne' : ((a.length : Int) != (x.length : Int)) = true := by simp; omega
    clear ha hx ra rx hn hm
    have HW := hide (alloc_below w (.cells #[.slice aa a.length ac, .int .i64 ka] FmT))
    generalize atE a x ka = E at *
    generalize atV a x ka = V at *
    generalize a.length = n at *
    generalize x.length = m at *
    obtain ⟨rfl, rfl⟩ := unhide HE
    go_enter Tryd.func19, Tryd.ntmps19
    go_wp2_with fail
    refine (unhide HF 1 (by decide) _).mono ?_
    rintro e w2 ⟨f, rfl, hs, hB⟩
    have HS := hide (hs.mono (unhide HW).size)
    have HB2 := hide (bthen (unhide HW) hB)
    clear hs hB
    go_wp2_with fail
    go_ret2
    exact ⟨f, rfl, unhide HS, unhide HB2⟩

set_option maxHeartbeats 8000000 in
set_option maxRecDepth 100000 in
theorem refAt_any (w : World) (av xv : Value) (a x : List Int) (ka : Int) (ha : Ints w av a) (hx : Ints w xv x) (ra : Rng a) (rx : Rng x) (ia : In64 ka) (hn : a.length ≤ 1000) (hm : x.length ≤ 1000) :
    Calls Tryd.prog 20 #[formV av ka, xv] w fun e w' => ∃ g gn gc, e = .returned (.tuple #[.int .i64 (atV a x ka), .agg #[.slice g gn gc, .int .i64 (atE a x ka)]]) ∧ Told w.heap.size w' (.agg #[.slice g gn gc, .int .i64 (atE a x ka)]) wForm 0 (atE a x ka) ∧ Below w.heap.size w w' := by
  have HF1 := hide unlike_any
  have HF5 := hide over_any
  obtain ⟨aa, ac, rfl⟩ := ha.shape
  obtain ⟨ba, bc, rfl⟩ := hx.shape
  have hb0 := bthen (alloc_below w (.cells #[.slice aa a.length ac, .int .i64 ka] RfT)) (alloc_below _ (.cells #[.slice none 0 0, .int .i64 0] WrT))
  have hx1 := Bx.new (w.alloc (.cells #[.slice aa a.length ac, .int .i64 ka] RfT)) (.slice none 0 0) (.int .i64 0) WrT
  rw [size_ac] at hx1
  have HST := hide (And.intro ((Bx.new w (.slice aa a.length ac) (.int .i64 ka) RfT).keep (alloc_below _ (.cells #[.slice none 0 0, .int .i64 0] WrT))) (And.intro hx1 hb0))
  clear hx1 hb0
  by_cases hlen : a.length = x.length
  · have HO := hide (And.intro ha hx)
    have HR := hide (And.intro ra rx)
    have HLN := hide hlen
    generalize hna : a.length = n at *
    generalize hnb : x.length = m at *
    subst hlen
    have HLS := hide (And.intro hna hnb)
    clear ha hx ra rx hna hnb
    have heq : ((n : Int) != (n : Int)) = false := by simp
    go_enter Tryd.func20, Tryd.ntmps20
    go_wp2_with fail
    generalize (w.alloc (.cells #[.slice aa n ac, .int .i64 ka] RfT)).alloc (.cells #[.slice none 0 0, .int .i64 0] WrT) = W0 at *
    generalize hxr : w.heap.size + 1 = xr at *
    go_loopw [6, 7] (fun s q wr => ∃ (i : Nat) (sv : Int), s = .int .i64 sv ∧ q = .int .i64 i ∧ i ≤ n ∧ Hid (In64 sv) ∧ Hid (Bx wr w.heap.size (.slice aa n ac) (.int .i64 ka) ∧ Bx wr xr (.slice none 0 0) (.int .i64 0) ∧ Below w.heap.size w wr) ∧ Hid (AtI a x i false sv)) (fun _ q _ => n - (intOf q).toNat)
    case atStart => exact ⟨0, 0, rfl, rfl, Nat.zero_le _, hide ⟨by decide, by decide⟩, HST, hide (AtI.zero a x)⟩
    case round =>
      obtain ⟨i, sv, rfl, rfl, hi, HV, HA, HI⟩ := hrel
      clear HST
      by_cases hlt : i < n
      · have hlt' : (i : Int) < (n : Int) := by omega
        have hn9 : n ≤ 9223372036854775807 := by omega
        have hi9 : i < 9223372036854775807 := by omega
        have hal := (unhide HLS).1
        have hxl := (unhide HLS).2
        have hbl := (unhide HA).2.2
        have ha2 := (unhide HO).1.below hbl
        have hb2 := (unhide HO).2.below hbl
        have hx64 := (unhide HR).1.at (i := i) (by omega)
        have hy64 := (unhide HR).2.at (i := i) (by omega)
        have hnx := (unhide HI).next (by omega : i < a.length) (by omega : i < x.length) _ _ rfl rfl
        rw [← hal] at ha2
        rw [← hxl] at hb2
        obtain ⟨lb, lo, lcap, hv, hc1, hc2, hcl⟩ := ha2.at (by omega)
        injection hv with hv1 hv2 hv3
        subst hv1
        obtain ⟨db, do_, dcap, hv', hd1, hd2, hcd⟩ := hb2.at (by omega)
        injection hv' with hv1' hv2' hv3'
        subst hv1'
        have cl : wr.cell? ⟨lb, lo + i, none⟩ = some (.int .i64 (a[i]'(by omega))) := hcl i (by omega)
        have cd : wr.cell? ⟨db, do_ + i, none⟩ = some (.int .i64 (x[i]'(by omega))) := hcd i (by omega)
        clear hcl hcd hv2 hv3 hv2' hv3' hc1 hc2 hd1 hd2 ha2 hb2
        generalize a[i]'(by have := (unhide HLS).1; omega) = p at *
        generalize x[i]'(by have := (unhide HLS).2; omega) = q at *
        have HX := hide (And.intro hx64 hy64)
        have HN := hide hnx
        clear hx64 hy64 hnx hal hxl
        have hd : Below wr.heap.size wr wr.drew := below_drewN (Below.refl _ _) 1
        have HA2 : Hid (Bx wr.drew w.heap.size (.slice (some ⟨lb, lo, none⟩) n ac) (.int .i64 ka) ∧ Bx wr.drew xr (.slice none 0 0) (.int .i64 0) ∧ Below w.heap.size w wr.drew) := hide ⟨(unhide HA).1.keep hd, (unhide HA).2.1.keep hd, hbl.trans (hd.mono hbl.size)⟩
        have cl2 : wr.drew.cell? ⟨lb, lo + i, none⟩ = some (.int .i64 p) := cl
        have cd2 : wr.drew.cell? ⟨db, do_ + i, none⟩ = some (.int .i64 q) := cd
        obtain ⟨h0, h1, h2, h3, h4⟩ := (unhide HA).1
        go_wp2_with fail
        refine wp_regionE (fun W => Bx W w.heap.size (.slice (some ⟨lb, lo, none⟩) n ac) (.int .i64 ka) ∧ W.cell? ⟨lb, lo + i, none⟩ = some (.int .i64 p) ∧ W.cell? ⟨db, do_ + i, none⟩ = some (.int .i64 q)) (fun j => decide (j < 15)) (by kernel_rfl) ⟨(unhide HA2).1, cl2, cd2⟩ (fun hS => ?_)
        clear h0 h1 h2 h3 h4 cl cd hd hbl HA
        generalize wr.drew = wd at *
        refine anyE_take 0 (v := ?_) rfl (by kernel_rfl) (by kernel_rfl) (by kernel_rfl) (by kernel_rfl) (fun _ _ _ h => h) hS (Or.inl ⟨by rfl, ?_⟩) ?_
        rotate_left
        · intro w' hS'
          obtain ⟨⟨e0, e1, _, _, _⟩, d0, d1⟩ := hS'
          go_simp
          try with_reducible rfl
        try simp only [List.getElem_toArray, List.getElem_cons_zero, Act.put, List.setIfInBounds_toArray, List.set_cons_zero, List.set_cons_succ]
        refine anyE_take 1 (v := ?_) rfl (by kernel_rfl) (by kernel_rfl) (by kernel_rfl) (by kernel_rfl) (fun _ _ _ h => h) hS (Or.inl ⟨by rfl, ?_⟩) ?_
        rotate_left
        · intro w' hS'
          obtain ⟨⟨e0, e1, _, _, _⟩, d0, d1⟩ := hS'
          go_simp
          try with_reducible rfl
        try simp only [List.getElem_toArray, List.getElem_cons_succ, List.getElem_cons_zero, Act.put, List.setIfInBounds_toArray, List.set_cons_zero, List.set_cons_succ]
        refine anyE_take 2 (v := ?_) rfl (by kernel_rfl) (by kernel_rfl) (by kernel_rfl) (by kernel_rfl) (fun _ _ _ h => h) hS (Or.inl ⟨by rfl, ?_⟩) ?_
        rotate_left
        · intro w' hS'
          obtain ⟨⟨e0, e1, _, _, _⟩, d0, d1⟩ := hS'
          go_simp
          try with_reducible rfl
        try simp only [List.getElem_toArray, List.getElem_cons_succ, List.getElem_cons_zero, Act.put, List.setIfInBounds_toArray, List.set_cons_zero, List.set_cons_succ]
        refine anyE_take 3 (v := ?_) rfl (by kernel_rfl) (by kernel_rfl) (by kernel_rfl) (by kernel_rfl) (fun _ _ _ h => h) hS (Or.inl ⟨by rfl, ?_⟩) ?_
        rotate_left
        · intro w' hS'
          obtain ⟨⟨e0, e1, _, _, _⟩, d0, d1⟩ := hS'
          go_simp
          try with_reducible rfl
        try simp only [List.getElem_toArray, List.getElem_cons_succ, List.getElem_cons_zero, Act.put, List.setIfInBounds_toArray, List.set_cons_zero, List.set_cons_succ]
        refine anyE_take 4 (v := ?_) rfl (by kernel_rfl) (by kernel_rfl) (by kernel_rfl) (by kernel_rfl) (fun _ _ _ h => h) hS (Or.inl ⟨by rfl, ?_⟩) ?_
        rotate_left
        · intro w' hS'
          obtain ⟨⟨e0, e1, _, _, _⟩, d0, d1⟩ := hS'
          go_simp
          try with_reducible rfl
        try simp only [List.getElem_toArray, List.getElem_cons_succ, List.getElem_cons_zero, Act.put, List.setIfInBounds_toArray, List.set_cons_zero, List.set_cons_succ]
        refine anyE_take 5 (v := ?_) rfl (by kernel_rfl) (by kernel_rfl) (by kernel_rfl) (by kernel_rfl) (fun _ _ _ h => h) hS (Or.inl ⟨by rfl, ?_⟩) ?_
        rotate_left
        · intro w' hS'
          obtain ⟨⟨e0, e1, _, _, _⟩, d0, d1⟩ := hS'
          go_simp
          try with_reducible rfl
        try simp only [List.getElem_toArray, List.getElem_cons_succ, List.getElem_cons_zero, Act.put, List.setIfInBounds_toArray, List.set_cons_zero, List.set_cons_succ]
        refine anyE_take 6 (v := ?_) rfl (by kernel_rfl) (by kernel_rfl) (by kernel_rfl) (by kernel_rfl) (fun _ _ _ h => h) hS (Or.inl ⟨by rfl, ?_⟩) ?_
        rotate_left
        · intro w' hS'
          obtain ⟨⟨e0, e1, _, _, _⟩, d0, d1⟩ := hS'
          go_simp
          try with_reducible rfl
        try simp only [List.getElem_toArray, List.getElem_cons_succ, List.getElem_cons_zero, Act.put, List.setIfInBounds_toArray, List.set_cons_zero, List.set_cons_succ]
        refine anyE_take 7 (v := ?_) rfl (by kernel_rfl) (by kernel_rfl) (by kernel_rfl) (by kernel_rfl) (fun _ _ _ h => h) hS (Or.inl ⟨by rfl, ?_⟩) ?_
        rotate_left
        · intro w' hS'
          obtain ⟨⟨e0, e1, _, _, _⟩, d0, d1⟩ := hS'
          go_simp
          try with_reducible rfl
        try simp only [List.getElem_toArray, List.getElem_cons_succ, List.getElem_cons_zero, Act.put, List.setIfInBounds_toArray, List.set_cons_zero, List.set_cons_succ]
        refine anyE_take 8 (v := ?_) rfl (by kernel_rfl) (by kernel_rfl) (by kernel_rfl) (by kernel_rfl) (fun _ _ _ h => h) hS (Or.inl ⟨by rfl, ?_⟩) ?_
        rotate_left
        · intro w' hS'
          obtain ⟨⟨e0, e1, _, _, _⟩, d0, d1⟩ := hS'
          go_simp
          try with_reducible rfl
        try simp only [List.getElem_toArray, List.getElem_cons_succ, List.getElem_cons_zero, Act.put, List.setIfInBounds_toArray, List.set_cons_zero, List.set_cons_succ]
        refine anyE_ready [9] (by kernel_rfl) (by simp) (ReadyE.cons rfl (fun K' hK => ?_) ReadyE.nil)
        go_simp
        go_at_call 36
        refine (refMul_any p q wd (unhide HX).1.1 (unhide HX).1.2 (unhide HX).2.1 (unhide HX).2.2).mono ?_
        rintro ev w5 ⟨rfl, hw⟩
        have hw := hw.symm
        subst hw
        dsimp only
        try go_simp
        refine hK _ _ (fun _ => hS) ?_
        clear hK K'
        try simp only [List.getElem_toArray, List.getElem_cons_succ, List.getElem_cons_zero, Act.put, List.setIfInBounds_toArray, List.set_cons_zero, List.set_cons_succ]
        refine anyE_take 10 (v := ?_) rfl (by kernel_rfl) (by kernel_rfl) (by kernel_rfl) (by kernel_rfl) (fun _ _ _ h => h) hS (Or.inl ⟨by rfl, ?_⟩) ?_
        rotate_left
        · intro w' hS'
          obtain ⟨⟨e0, e1, _, _, _⟩, d0, d1⟩ := hS'
          go_simp
          try with_reducible rfl
        try simp only [List.getElem_toArray, List.getElem_cons_succ, List.getElem_cons_zero, Act.put, List.setIfInBounds_toArray, List.set_cons_zero, List.set_cons_succ]
        refine anyE_take 11 (v := ?_) rfl (by kernel_rfl) (by kernel_rfl) (by kernel_rfl) (by kernel_rfl) (fun _ _ _ h => h) hS (Or.inl ⟨by rfl, ?_⟩) ?_
        rotate_left
        · intro w' hS'
          obtain ⟨⟨e0, e1, _, _, _⟩, d0, d1⟩ := hS'
          go_simp
          try with_reducible rfl
        try simp only [List.getElem_toArray, List.getElem_cons_succ, List.getElem_cons_zero, Act.put, List.setIfInBounds_toArray, List.set_cons_zero, List.set_cons_succ]
        refine anyE_take 12 (v := ?_) rfl (by kernel_rfl) (by kernel_rfl) (by kernel_rfl) (by kernel_rfl) (fun _ _ _ h => h) hS (Or.inl ⟨by rfl, ?_⟩) ?_
        rotate_left
        · intro w' hS'
          obtain ⟨⟨e0, e1, _, _, _⟩, d0, d1⟩ := hS'
          go_simp
          try with_reducible rfl
        try simp only [List.getElem_toArray, List.getElem_cons_succ, List.getElem_cons_zero, Act.put, List.setIfInBounds_toArray, List.set_cons_zero, List.set_cons_succ]
        refine anyE_take 13 (v := ?_) rfl (by kernel_rfl) (by kernel_rfl) (by kernel_rfl) (by kernel_rfl) (fun _ _ _ h => h) hS (Or.inl ⟨by rfl, ?_⟩) ?_
        rotate_left
        · intro w' hS'
          obtain ⟨⟨e0, e1, _, _, _⟩, d0, d1⟩ := hS'
          go_simp
          try with_reducible rfl
        try simp only [List.getElem_toArray, List.getElem_cons_succ, List.getElem_cons_zero, Act.put, List.setIfInBounds_toArray, List.set_cons_zero, List.set_cons_succ]
        refine anyE_take 14 (v := ?_) rfl (by kernel_rfl) (by kernel_rfl) (by kernel_rfl) (by kernel_rfl) (fun _ _ _ h => h) hS (Or.inl ⟨by rfl, ?_⟩) ?_
        rotate_left
        · intro w' hS'
          obtain ⟨⟨e0, e1, _, _, _⟩, d0, d1⟩ := hS'
          go_simp
          try with_reducible rfl
        try simp only [List.getElem_toArray, List.getElem_cons_succ, List.getElem_cons_zero, Act.put, List.setIfInBounds_toArray, List.set_cons_zero, List.set_cons_succ]
        refine anyE_done (by kernel_rfl) ?_ _
        clear hS cl2 cd2
        cases ho : fitO (p * q)
        · have HNN := hide (atE_none (c := a) (x := x) (k := ka) (by rw [(unhide HLS).1, (unhide HLS).2]) (by
            unfold atP
            rw [(unhide HN).2 (by rw [ho]; rfl)]
            rfl))
          have HS5 := hide (unhide HF5 wd)
          clear HN ho
          go_wp2_with fail
          refine (unhide HS5).mono ?_
          rintro e w6 ⟨b6, rfl, ht, hb⟩
          have hbx := ((unhide HA2).2.1).keep hb
          have HBLW := (unhide HA2).2.2
          have HBX6 := hide hbx
          have HFZ := (hbx.set0 (.slice (some ⟨b6, 0, none⟩) 1 1)).set1 (.int .i64 5)
          have HT := hide (((ht.setCell ⟨xr, 0, none⟩ ((unhide HA2).2.1).lt (.slice (some ⟨b6, 0, none⟩) 1 1)).setCell ⟨xr, 1, none⟩ ((unhide HA2).2.1).lt (.int .i64 5)).mono HBLW.size)
          have HB2 := hide (((HBLW.trans (hb.mono HBLW.size)).setCell (p := ⟨xr, 0, none⟩) (by show w.heap.size ≤ xr; omega) (.slice (some ⟨b6, 0, none⟩) 1 1)).setCell (p := ⟨xr, 1, none⟩) (by show w.heap.size ≤ xr; omega) (.int .i64 5))
          clear hb ht hbx HBLW
          obtain ⟨z0, z1, z2, z3, z4⟩ := unhide HBX6
          go_wp2_with fail
          rw [(unhide HNN).1, (unhide HNN).2]
          exact bodyPost_ret (v := .tuple #[.int .i64 0, .agg #[.slice (some ⟨b6, 0, none⟩) 1 1, .int .i64 5]]) (by simp [results, Tryd.results20, go_sem, HFZ.c0, HFZ.c1]) rfl ⟨some ⟨b6, 0, none⟩, 1, 1, rfl, unhide HT, unhide HB2⟩
        · have hp := fitV_eq ho
          have HAD := hide (refAdd_any sv (p * q) wd (unhide HV).1 (unhide HV).2 (fitO_iff.1 ho).1 (fitO_iff.1 ho).2)
          have HN2 := unhide HN
          rw [ho, hp] at HN2
          clear HN
          rw [hp]
          have HN := hide HN2
          clear HN2 hp ho
          generalize p * q = pq at *
          go_wp2_with fail
          refine (unhide HAD).mono ?_
          rintro e w6 ⟨rfl, hw⟩
          have hw := hw.symm
          subst hw
          cases ho : fitO (sv + pq)
          · have HNN := hide (atE_none (c := a) (x := x) (k := ka) (by rw [(unhide HLS).1, (unhide HLS).2]) (by
              unfold atP
              rw [(unhide HN).2 (by rw [ho]; rfl)]
              rfl))
            have HS5 := hide (unhide HF5 wd)
            clear HN ho
            go_wp2_with fail
            refine (unhide HS5).mono ?_
            rintro e w6 ⟨b6, rfl, ht, hb⟩
            have hbx := ((unhide HA2).2.1).keep hb
            have HBLW := (unhide HA2).2.2
            have HBX6 := hide hbx
            have HFZ := (hbx.set0 (.slice (some ⟨b6, 0, none⟩) 1 1)).set1 (.int .i64 5)
            have HT := hide (((ht.setCell ⟨xr, 0, none⟩ ((unhide HA2).2.1).lt (.slice (some ⟨b6, 0, none⟩) 1 1)).setCell ⟨xr, 1, none⟩ ((unhide HA2).2.1).lt (.int .i64 5)).mono HBLW.size)
            have HB2 := hide (((HBLW.trans (hb.mono HBLW.size)).setCell (p := ⟨xr, 0, none⟩) (by show w.heap.size ≤ xr; omega) (.slice (some ⟨b6, 0, none⟩) 1 1)).setCell (p := ⟨xr, 1, none⟩) (by show w.heap.size ≤ xr; omega) (.int .i64 5))
            clear hb ht hbx HBLW
            obtain ⟨z0, z1, z2, z3, z4⟩ := unhide HBX6
            go_wp2_with fail
            rw [(unhide HNN).1, (unhide HNN).2]
            exact bodyPost_ret (v := .tuple #[.int .i64 0, .agg #[.slice (some ⟨b6, 0, none⟩) 1 1, .int .i64 5]]) (by simp [results, Tryd.results20, go_sem, HFZ.c0, HFZ.c1]) rfl ⟨some ⟨b6, 0, none⟩, 1, 1, rfl, unhide HT, unhide HB2⟩
          · have HN2 := unhide HN
            rw [ho] at HN2
            have HN3 := hide HN2
            clear HN2 HN ho
            go_wp2_with fail
            go_roundw
            case rel => exact ⟨i + 1, _, rfl, by go_num, by omega, hide (fitV_in64 _), HA2, HN3⟩
            case measure => simp [intOf]; omega
      · have hin : i = n := by omega
        subst hin
        have hlt' : ¬ (i : Int) < (i : Int) := by omega
        obtain ⟨h0, h1, h2, h3, h4⟩ := (unhide HA).1
        have HFI := hide ((unhide HI).fin ka (by rw [(unhide HLS).1]; exact Nat.le_refl _))
        have HP := hide (refAdd_any sv ka wr (unhide HV).1 (unhide HV).2 ia.1 ia.2)
        go_wp2_with fail
        refine (unhide HP).mono ?_
        rintro ev w5 ⟨rfl, hw⟩
        have hw := hw.symm
        subst hw
        clear h0 h1 h2 h3 h4
        have HBX := hide (unhide HA).2.1
        have HBL := hide (unhide HA).2.2
        clear HA
        cases ho : fitO (sv + ka)
        · have HNN := hide (atE_none (c := a) (x := x) (by rw [(unhide HLS).1, (unhide HLS).2]) ((unhide HFI).2 (by rw [ho]; rfl)))
          have HS5 := hide (unhide HF5 wr)
          clear HFI ho
          go_wp2_with fail
          refine (unhide HS5).mono ?_
          rintro e w6 ⟨b6, rfl, ht, hb⟩
          have hbx := ((unhide HBX)).keep hb
          have HBLW := (unhide HBL)
          have HBX6 := hide hbx
          have HFZ := (hbx.set0 (.slice (some ⟨b6, 0, none⟩) 1 1)).set1 (.int .i64 5)
          have HT := hide (((ht.setCell ⟨xr, 0, none⟩ ((unhide HBX)).lt (.slice (some ⟨b6, 0, none⟩) 1 1)).setCell ⟨xr, 1, none⟩ ((unhide HBX)).lt (.int .i64 5)).mono HBLW.size)
          have HB2 := hide (((HBLW.trans (hb.mono HBLW.size)).setCell (p := ⟨xr, 0, none⟩) (by show w.heap.size ≤ xr; omega) (.slice (some ⟨b6, 0, none⟩) 1 1)).setCell (p := ⟨xr, 1, none⟩) (by show w.heap.size ≤ xr; omega) (.int .i64 5))
          clear hb ht hbx HBLW
          obtain ⟨z0, z1, z2, z3, z4⟩ := unhide HBX6
          go_wp2_with fail
          rw [(unhide HNN).1, (unhide HNN).2]
          exact bodyPost_ret (v := .tuple #[.int .i64 0, .agg #[.slice (some ⟨b6, 0, none⟩) 1 1, .int .i64 5]]) (by simp [results, Tryd.results20, go_sem, HFZ.c0, HFZ.c1]) rfl ⟨some ⟨b6, 0, none⟩, 1, 1, rfl, unhide HT, unhide HB2⟩
        · have HNN := hide (atE_some (c := a) (x := x) (by rw [(unhide HLS).1, (unhide HLS).2]) ((unhide HFI).1 (by rw [ho]; rfl)))
          clear HFI ho
          obtain ⟨z0, z1, z2, z3, z4⟩ := unhide HBX
          have HFZ := ((unhide HBX).set0 (.slice none 0 0)).set1 (.int .i64 0)
          have HB2 := hide (((unhide HBL).setCell (p := ⟨xr, 0, none⟩) (by show w.heap.size ≤ xr; omega) (.slice none 0 0)).setCell (p := ⟨xr, 1, none⟩) (by show w.heap.size ≤ xr; omega) (.int .i64 0))
          go_wp2_with fail
          rw [(unhide HNN).1, (unhide HNN).2]
          exact bodyPost_ret (v := .tuple #[.int .i64 (fitV (sv + ka)), .agg #[.slice none 0 0, .int .i64 0]]) (by simp [results, Tryd.results20, go_sem, HFZ.c0, HFZ.c1]) rfl ⟨none, 0, 0, rfl, .inl ⟨rfl, rfl⟩, unhide HB2⟩
  · have HE := hide (atE_ne (k := ka) hlen)
    have hne' : ((a.length : Int) != (x.length : Int)) = true := by simp; omega
    clear ha hx ra rx hn hm
    generalize atE a x ka = E at *
    generalize atV a x ka = V at *
    generalize a.length = n at *
    generalize x.length = m at *
    obtain ⟨rfl, rfl⟩ := unhide HE
    go_enter Tryd.func20, Tryd.ntmps20
    go_wp2_with fail
    have HS1 := hide (unhide HF1 ((w.alloc (.cells #[.slice aa n ac, .int .i64 ka] RfT)).alloc (.cells #[.slice none 0 0, .int .i64 0] WrT)))
    generalize (w.alloc (.cells #[.slice aa n ac, .int .i64 ka] RfT)).alloc (.cells #[.slice none 0 0, .int .i64 0] WrT) = W0 at *
    generalize hxr : w.heap.size + 1 = xr at *
    refine (unhide HS1).mono ?_
    rintro e w6 ⟨b6, rfl, ht, hb⟩
    have hbx := ((unhide HST).2.1).keep hb
    have HBLW := (unhide HST).2.2
    have HBX6 := hide hbx
    have HFZ := (hbx.set0 (.slice (some ⟨b6, 0, none⟩) 1 1)).set1 (.int .i64 1)
    have HT := hide (((ht.setCell ⟨xr, 0, none⟩ ((unhide HST).2.1).lt (.slice (some ⟨b6, 0, none⟩) 1 1)).setCell ⟨xr, 1, none⟩ ((unhide HST).2.1).lt (.int .i64 1)).mono HBLW.size)
    have HB2 := hide (((HBLW.trans (hb.mono HBLW.size)).setCell (p := ⟨xr, 0, none⟩) (by show w.heap.size ≤ xr; omega) (.slice (some ⟨b6, 0, none⟩) 1 1)).setCell (p := ⟨xr, 1, none⟩) (by show w.heap.size ≤ xr; omega) (.int .i64 1))
    clear hb ht hbx HBLW
    obtain ⟨z0, z1, z2, z3, z4⟩ := unhide HBX6
    go_wp2_with fail
    exact bodyPost_ret (v := .tuple #[.int .i64 0, .agg #[.slice (some ⟨b6, 0, none⟩) 1 1, .int .i64 1]]) (by simp [results, Tryd.results20, go_sem, HFZ.c0, HFZ.c1]) rfl ⟨some ⟨b6, 0, none⟩, 1, 1, rfl, unhide HT, unhide HB2⟩
end Go.Proofs.YtmbhamnkbpcljaaDoor.Line
