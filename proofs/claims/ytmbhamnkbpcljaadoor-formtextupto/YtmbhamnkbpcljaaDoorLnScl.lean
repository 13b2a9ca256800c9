/- Contracts of lin.Scale. -/
import Derived.Test.YtmbhamnkbpcljaaDoorLnAdd
namespace Go.Proofs.YtmbhamnkbpcljaaDoor.Line
open Go.ChangeShapes Go.WideShapes Go.ChangeAt Go.RowKit
set_option linter.unusedVariables false

def mulC (a : List Int) (ka k : Int) : List Int := if mulE a ka k = 0 then mulL a k else []
def mulK (a : List Int) (ka k : Int) : Int := if mulE a ka k = 0 then ka * k else 0
theorem scale_start (w : World) (u : Value) (ka : Int) : PS (w.heap.size + 3) w (((w.alloc (.cells #[u, .int .i64 ka] FmT)).alloc ZF).alloc (.cells #[.bool false] RcT)) w.heap.size (w.heap.size + 1) (w.heap.size + 2) u u ka ka false := by
  have b1 := alloc_below w (.cells #[u, .int .i64 ka] FmT)
  have b3 := alloc_below (w.alloc (.cells #[u, .int .i64 ka] FmT)) ZF
  have b4 := alloc_below ((w.alloc (.cells #[u, .int .i64 ka] FmT)).alloc ZF) (.cells #[.bool false] RcT)
  have h1 := RS.new (bthen b1 b3)
  have h3 := (Bx.new (w.alloc (.cells #[u, .int .i64 ka] FmT)) (.slice none 0 0) (.int .i64 0) FmT).keep b4
  have h2 := ((Bx.new w u (.int .i64 ka) FmT).keep b3).keep b4
  simp only [size_al] at h1 h3
  exact ⟨h1, h2, h2, h3, by simp⟩
set_option maxHeartbeats 8000000 in
set_option maxRecDepth 100000 in
theorem linScale_any (w : World) (av : Value) (a : List Int) (ka k : Int) (ha : Ints w av a) (ra : Rng a) (ia : In64 ka) (ik : In64 k) (hn : a.length ≤ 1000) :
    Calls Tryd.prog 14 #[formV av ka, .int .i64 k] w fun e w' => ∃ cv f, e = .returned (.tuple #[formV cv (mulK a ka k), f]) ∧ Ints w' cv (mulC a ka k) ∧ Says w.heap.size w' f wForm 0 (mulE a ka k) ∧ Below w.heap.size w w' := by
  have HF := hide fault_any
  obtain ⟨aa, ac, rfl⟩ := ha.shape
  have hlen : True := trivial
  by_cases hlen2 : True
  · clear hlen hlen2
    generalize hna : a.length = n at *
    obtain ⟨Z, hmk⟩ := make_wr n (by omega)
    have hrun := fun W => (hmk W).1
    have HMK := hide fun W => (hmk W).2
    clear hmk
    have HST := hide (scale_start w (.slice aa n ac) ka)
    go_enter Tryd.func14, Tryd.ntmps14
    go_wp2_with fail
    generalize ((w.alloc (.cells #[.slice aa n ac, .int .i64 ka] FmT)).alloc ZF).alloc (.cells #[.bool false] RcT) = W0 at *
    generalize hrb : w.heap.size + 2 = rb at *
    generalize hxr : w.heap.size + 1 = xr at *
    have hd : Below W0.heap.size W0 W0.drew := below_drewN (Below.refl _ _) 1
    go_cut [7] (fun s wx => ∃ fb q, s = .pointer (some ⟨fb, 0, none⟩) ∧ w.heap.size + 3 ≤ fb ∧ w.heap.size + 3 ≤ q ∧ q ≠ fb ∧ Hid (AS w wx w.heap.size w.heap.size rb fb q (.slice aa n ac) (.slice aa n ac) ka ka (fitV (ka * k)) (!fitO (ka * k)) (List.replicate n 0)) ∧ Hid (Bx wx xr (.slice none 0 0) (.int .i64 0)))
    case first =>
      refine wp_regionE (fun W => Bx W w.heap.size (.slice aa n ac) (.int .i64 ka) ∧ Bx W w.heap.size (.slice aa n ac) (.int .i64 ka)) (fun j => decide (j < 10)) (by kernel_rfl) ⟨((unhide HST).keep hd).ba, ((unhide HST).keep hd).bb⟩ (fun hS => ?_)
      refine anyE_take 0 (v := ?_) rfl (by kernel_rfl) (by kernel_rfl) (by kernel_rfl) (by kernel_rfl) (fun _ _ _ h => h) hS (Or.inl ⟨by rfl, ?_⟩) ?_
      rotate_left
      · intro w' hS'
        obtain ⟨⟨e0, e1, _, _, _⟩, ⟨g0, g1, _, _, _⟩⟩ := hS'
        go_simp
        try with_reducible rfl
      try simp only [List.getElem_toArray, List.getElem_cons_zero, Act.put, List.setIfInBounds_toArray, List.set_cons_zero, List.set_cons_succ]
      refine anyE_take 1 (v := ?_) rfl (by kernel_rfl) (by kernel_rfl) (by kernel_rfl) (by kernel_rfl) (fun _ _ _ h => h) hS (Or.inl ⟨by rfl, ?_⟩) ?_
      rotate_left
      · intro w' hS'
        obtain ⟨⟨e0, e1, _, _, _⟩, ⟨g0, g1, _, _, _⟩⟩ := hS'
        go_simp
        try with_reducible rfl
      try simp only [List.getElem_toArray, List.getElem_cons_succ, List.getElem_cons_zero, Act.put, List.setIfInBounds_toArray, List.set_cons_zero, List.set_cons_succ]
      refine anyE_take 2 (v := ?_) rfl (by kernel_rfl) (by kernel_rfl) (by kernel_rfl) (by kernel_rfl) (fun _ _ _ h => h) hS (Or.inl ⟨by rfl, ?_⟩) ?_
      rotate_left
      · intro w' hS'
        obtain ⟨⟨e0, e1, _, _, _⟩, ⟨g0, g1, _, _, _⟩⟩ := hS'
        go_simp
        try with_reducible rfl
      try simp only [List.getElem_toArray, List.getElem_cons_succ, List.getElem_cons_zero, Act.put, List.setIfInBounds_toArray, List.set_cons_zero, List.set_cons_succ]
      refine anyE_take 4 (v := ?_) rfl (by kernel_rfl) (by kernel_rfl) (by kernel_rfl) (by kernel_rfl) (fun _ _ _ h => h) hS (Or.inl ⟨by rfl, ?_⟩) ?_
      rotate_left
      · intro w' hS'
        obtain ⟨⟨e0, e1, _, _, _⟩, ⟨g0, g1, _, _, _⟩⟩ := hS'
        go_simp
        try with_reducible rfl
      try simp only [List.getElem_toArray, List.getElem_cons_succ, List.getElem_cons_zero, Act.put, List.setIfInBounds_toArray, List.set_cons_zero, List.set_cons_succ]
      refine anyE_take 5 (v := ?_) rfl (by kernel_rfl) (by kernel_rfl) (by kernel_rfl) (by kernel_rfl) (fun _ _ _ h => h) hS (Or.inl ⟨by rfl, ?_⟩) ?_
      rotate_left
      · intro w' hS'
        obtain ⟨⟨e0, e1, _, _, _⟩, ⟨g0, g1, _, _, _⟩⟩ := hS'
        go_simp
        try with_reducible rfl
      try simp only [List.getElem_toArray, List.getElem_cons_succ, List.getElem_cons_zero, Act.put, List.setIfInBounds_toArray, List.set_cons_zero, List.set_cons_succ]
      refine anyE_take 6 (v := ?_) rfl (by kernel_rfl) (by kernel_rfl) (by kernel_rfl) (by kernel_rfl) (fun _ _ _ h => h) hS (Or.inl ⟨by rfl, ?_⟩) ?_
      rotate_left
      · intro w' hS'
        obtain ⟨⟨e0, e1, _, _, _⟩, ⟨g0, g1, _, _, _⟩⟩ := hS'
        go_simp
        try with_reducible rfl
      try simp only [List.getElem_toArray, List.getElem_cons_succ, List.getElem_cons_zero, Act.put, List.setIfInBounds_toArray, List.set_cons_zero, List.set_cons_succ]
      have hP := (unhide HST).keep hd
      clear hd
      generalize W0.drew = W1 at *
      refine anyE_ready [3, 7, 9] (by kernel_rfl) (by simp) (ReadyE.cons rfl (fun K' hK => ?_) (ReadyE.cons rfl (fun K' hK => ?_) (ReadyE.cons rfl (fun K' hK => ?_) ReadyE.nil)))
      ·
        go_simp
        have al := alloc_below W1 (.cells Z 2)
        have hP1 := hP.keep al
        have hwr := unhide HMK W1
        have hq4 := hP.sz
        refine hK _ _ (fun _ => ⟨hP1.ba, hP1.bb⟩) ?_
        clear hK K'
        try simp only [List.getElem_toArray, List.getElem_cons_succ, List.getElem_cons_zero, Act.put, List.setIfInBounds_toArray, List.set_cons_zero, List.set_cons_succ]
        clear hP al hS
        generalize W1.alloc (.cells Z 2) = W2 at *
        generalize W1.heap.size = q at *
        have hP := hP1
        have hS : Bx W2 w.heap.size (.slice aa n ac) (.int .i64 ka) ∧ Bx W2 w.heap.size (.slice aa n ac) (.int .i64 ka) := ⟨hP.ba, hP.bb⟩
        clear hP1
        refine anyE_ready [7, 9] (by kernel_rfl) (by simp) (ReadyE.cons rfl (fun K' hK => ?_) (ReadyE.cons rfl (fun K' hK => ?_) ReadyE.nil))
        ·
          go_simp
          go_at_call 35
          have hra := rmul_any W2 rb false ka k hP.rs.ro hP.rs.rf ia ik
          rw [Bool.false_or] at hra
          refine hra.mono ?_
          rintro ev w5 ⟨rfl, hw⟩
          subst hw
          dsimp only
          try go_simp
          have hP1 := hP.mark (by omega) (by omega) (by omega) (!fitO (ka * k))
          have hwr := hwr.other ⟨rb, 0, none⟩ (by show rb ≠ q; omega) (.bool (!fitO (ka * k)))
          refine hK _ _ (fun _ => ⟨hP1.ba, hP1.bb⟩) ?_
          clear hK K'
          try simp only [List.getElem_toArray, List.getElem_cons_succ, List.getElem_cons_zero, Act.put, List.setIfInBounds_toArray, List.set_cons_zero, List.set_cons_succ]
          clear hP hS hra
          generalize W2.setCell ⟨rb, 0, none⟩ (.bool (!fitO (ka * k))) = W3 at *
          have hP := hP1
          have hS : Bx W3 w.heap.size (.slice aa n ac) (.int .i64 ka) ∧ Bx W3 w.heap.size (.slice aa n ac) (.int .i64 ka) := ⟨hP.ba, hP.bb⟩
          clear hP1
          refine anyE_take 8 (v := ?_) rfl (by kernel_rfl) (by kernel_rfl) (by kernel_rfl) (by kernel_rfl) (fun _ _ _ h => h) hS (Or.inl ⟨by rfl, ?_⟩) ?_
          rotate_left
          · intro w' hS'
            obtain ⟨⟨e0, e1, _, _, _⟩, ⟨g0, g1, _, _, _⟩⟩ := hS'
            go_simp
            try with_reducible rfl
          try simp only [List.getElem_toArray, List.getElem_cons_succ, List.getElem_cons_zero, Act.put, List.setIfInBounds_toArray, List.set_cons_zero, List.set_cons_succ]
          refine anyE_ready [9] (by kernel_rfl) (by simp) (ReadyE.cons rfl (fun K' hK => ?_) ReadyE.nil)
          ·
            go_simp
            have al := alloc_below W3 ZF
            have hP1 := hP.keep al
            have hbf0 := Bx.new W3 (.slice none 0 0) (.int .i64 0) FmT
            have hbf := hbf0
            have hf4 := hP.sz
            have hne : q ≠ W3.heap.size := Nat.ne_of_lt hwr.lt
            have hwr := hwr.keep al
            refine hK _ _ (fun _ => ⟨hP1.ba, hP1.bb⟩) ?_
            clear hK K'
            try simp only [List.getElem_toArray, List.getElem_cons_succ, List.getElem_cons_zero, Act.put, List.setIfInBounds_toArray, List.set_cons_zero, List.set_cons_succ]
            clear hP al hS
            generalize W3.alloc (.cells #[.slice none 0 0, .int .i64 0] FmT) = W4 at *
            generalize W3.heap.size = fb at *
            have hP := hP1
            have hS : Bx W4 w.heap.size (.slice aa n ac) (.int .i64 ka) ∧ Bx W4 w.heap.size (.slice aa n ac) (.int .i64 ka) := ⟨hP.ba, hP.bb⟩
            clear hP1
            obtain ⟨f0, f1, f2, f3, f4⟩ := hbf
            refine anyE_ready [10] (by kernel_rfl) (by simp) (ReadyE.cons rfl (fun K' hK => ?_) ReadyE.nil)
            go_simp
            have hbf : Bx W4 fb (.slice none 0 0) (.int .i64 0) := ⟨f0, f1, f2, f3, f4⟩
            have hAS : AS w ((W4.setCell ⟨fb, 0, none⟩ (.slice (some ⟨q, 0, none⟩) n n)).setCell ⟨fb, 1, none⟩ (.int .i64 (fitV (ka * k)))) w.heap.size w.heap.size rb fb q (.slice aa n ac) (.slice aa n ac) ka ka (fitV (ka * k)) (!fitO (ka * k)) (List.replicate n 0) := by
              have h2 := (hP.set ⟨fb, 0, none⟩ hf4 (by omega) (by omega) (by omega) (by omega) (.slice (some ⟨q, 0, none⟩) n n)).set ⟨fb, 1, none⟩ hf4 (by omega) (by omega) (by omega) (by omega) (.int .i64 (fitV (ka * k)))
              exact ⟨h2.rs, h2.ba, h2.bb, by rw [List.length_replicate]; exact (hbf.set0 _).set1 _, (hwr.other ⟨fb, 0, none⟩ (Ne.symm hne) _).other ⟨fb, 1, none⟩ (Ne.symm hne) _⟩
            have hBR := ((hP.set ⟨fb, 0, none⟩ hf4 (by omega) (by omega) (by omega) (by omega) (.slice (some ⟨q, 0, none⟩) n n)).set ⟨fb, 1, none⟩ hf4 (by omega) (by omega) (by omega) (by omega) (.int .i64 (fitV (ka * k)))).br
            refine hK _ _ (fun h => by exact absurd h (by decide)) ?_
            clear hK K' hbf hP hwr hS f0 f1 f2 f3 f4
            try simp only [List.getElem_toArray, List.getElem_cons_succ, List.getElem_cons_zero, Act.put, List.setIfInBounds_toArray, List.set_cons_zero, List.set_cons_succ]
            refine anyE_done (by kernel_rfl) ?_ _
            go_wp2_with fail
            go_meet
            case rel => exact ⟨fb, q, rfl, hf4, hq4, hne, hide hAS, hide hBR⟩
        ·
          go_simp
          have al := alloc_below W2 ZF
          have hP1 := hP.keep al
          have hbf0 := Bx.new W2 (.slice none 0 0) (.int .i64 0) FmT
          have hbf := hbf0
          have hf4 := hP.sz
          have hne : q ≠ W2.heap.size := Nat.ne_of_lt hwr.lt
          have hwr := hwr.keep al
          refine hK _ _ (fun _ => ⟨hP1.ba, hP1.bb⟩) ?_
          clear hK K'
          try simp only [List.getElem_toArray, List.getElem_cons_succ, List.getElem_cons_zero, Act.put, List.setIfInBounds_toArray, List.set_cons_zero, List.set_cons_succ]
          clear hP al hS
          generalize W2.alloc (.cells #[.slice none 0 0, .int .i64 0] FmT) = W3 at *
          generalize W2.heap.size = fb at *
          have hP := hP1
          have hS : Bx W3 w.heap.size (.slice aa n ac) (.int .i64 ka) ∧ Bx W3 w.heap.size (.slice aa n ac) (.int .i64 ka) := ⟨hP.ba, hP.bb⟩
          clear hP1
          refine anyE_ready [7] (by kernel_rfl) (by simp) (ReadyE.cons rfl (fun K' hK => ?_) ReadyE.nil)
          ·
            go_simp
            go_at_call 35
            have hra := rmul_any W3 rb false ka k hP.rs.ro hP.rs.rf ia ik
            rw [Bool.false_or] at hra
            refine hra.mono ?_
            rintro ev w5 ⟨rfl, hw⟩
            subst hw
            dsimp only
            try go_simp
            have hP1 := hP.mark (by omega) (by omega) (by omega) (!fitO (ka * k))
            have hwr := hwr.other ⟨rb, 0, none⟩ (by show rb ≠ q; omega) (.bool (!fitO (ka * k)))
            have hbf := hbf.other ⟨rb, 0, none⟩ (by show rb ≠ fb; omega) (.bool (!fitO (ka * k)))
            refine hK _ _ (fun _ => ⟨hP1.ba, hP1.bb⟩) ?_
            clear hK K'
            try simp only [List.getElem_toArray, List.getElem_cons_succ, List.getElem_cons_zero, Act.put, List.setIfInBounds_toArray, List.set_cons_zero, List.set_cons_succ]
            clear hP hS hra
            generalize W3.setCell ⟨rb, 0, none⟩ (.bool (!fitO (ka * k))) = W4 at *
            have hP := hP1
            have hS : Bx W4 w.heap.size (.slice aa n ac) (.int .i64 ka) ∧ Bx W4 w.heap.size (.slice aa n ac) (.int .i64 ka) := ⟨hP.ba, hP.bb⟩
            clear hP1
            refine anyE_take 8 (v := ?_) rfl (by kernel_rfl) (by kernel_rfl) (by kernel_rfl) (by kernel_rfl) (fun _ _ _ h => h) hS (Or.inl ⟨by rfl, ?_⟩) ?_
            rotate_left
            · intro w' hS'
              obtain ⟨⟨e0, e1, _, _, _⟩, ⟨g0, g1, _, _, _⟩⟩ := hS'
              go_simp
              try with_reducible rfl
            try simp only [List.getElem_toArray, List.getElem_cons_succ, List.getElem_cons_zero, Act.put, List.setIfInBounds_toArray, List.set_cons_zero, List.set_cons_succ]
            obtain ⟨f0, f1, f2, f3, f4⟩ := hbf
            refine anyE_ready [10] (by kernel_rfl) (by simp) (ReadyE.cons rfl (fun K' hK => ?_) ReadyE.nil)
            go_simp
            have hbf : Bx W4 fb (.slice none 0 0) (.int .i64 0) := ⟨f0, f1, f2, f3, f4⟩
            have hAS : AS w ((W4.setCell ⟨fb, 0, none⟩ (.slice (some ⟨q, 0, none⟩) n n)).setCell ⟨fb, 1, none⟩ (.int .i64 (fitV (ka * k)))) w.heap.size w.heap.size rb fb q (.slice aa n ac) (.slice aa n ac) ka ka (fitV (ka * k)) (!fitO (ka * k)) (List.replicate n 0) := by
              have h2 := (hP.set ⟨fb, 0, none⟩ hf4 (by omega) (by omega) (by omega) (by omega) (.slice (some ⟨q, 0, none⟩) n n)).set ⟨fb, 1, none⟩ hf4 (by omega) (by omega) (by omega) (by omega) (.int .i64 (fitV (ka * k)))
              exact ⟨h2.rs, h2.ba, h2.bb, by rw [List.length_replicate]; exact (hbf.set0 _).set1 _, (hwr.other ⟨fb, 0, none⟩ (Ne.symm hne) _).other ⟨fb, 1, none⟩ (Ne.symm hne) _⟩
            have hBR := ((hP.set ⟨fb, 0, none⟩ hf4 (by omega) (by omega) (by omega) (by omega) (.slice (some ⟨q, 0, none⟩) n n)).set ⟨fb, 1, none⟩ hf4 (by omega) (by omega) (by omega) (by omega) (.int .i64 (fitV (ka * k)))).br
            refine hK _ _ (fun h => by exact absurd h (by decide)) ?_
            clear hK K' hbf hP hwr hS f0 f1 f2 f3 f4
            try simp only [List.getElem_toArray, List.getElem_cons_succ, List.getElem_cons_zero, Act.put, List.setIfInBounds_toArray, List.set_cons_zero, List.set_cons_succ]
            refine anyE_done (by kernel_rfl) ?_ _
            go_wp2_with fail
            go_meet
            case rel => exact ⟨fb, q, rfl, hf4, hq4, hne, hide hAS, hide hBR⟩
      ·
        go_simp
        go_at_call 35
        have hra := rmul_any W1 rb false ka k hP.rs.ro hP.rs.rf ia ik
        rw [Bool.false_or] at hra
        refine hra.mono ?_
        rintro ev w5 ⟨rfl, hw⟩
        subst hw
        dsimp only
        try go_simp
        have hP1 := hP.mark (by omega) (by omega) (by omega) (!fitO (ka * k))
        refine hK _ _ (fun _ => ⟨hP1.ba, hP1.bb⟩) ?_
        clear hK K'
        try simp only [List.getElem_toArray, List.getElem_cons_succ, List.getElem_cons_zero, Act.put, List.setIfInBounds_toArray, List.set_cons_zero, List.set_cons_succ]
        clear hP hS hra
        generalize W1.setCell ⟨rb, 0, none⟩ (.bool (!fitO (ka * k))) = W2 at *
        have hP := hP1
        have hS : Bx W2 w.heap.size (.slice aa n ac) (.int .i64 ka) ∧ Bx W2 w.heap.size (.slice aa n ac) (.int .i64 ka) := ⟨hP.ba, hP.bb⟩
        clear hP1
        refine anyE_ready [3, 9] (by kernel_rfl) (by simp) (ReadyE.cons rfl (fun K' hK => ?_) (ReadyE.cons rfl (fun K' hK => ?_) ReadyE.nil))
        ·
          go_simp
          have al := alloc_below W2 (.cells Z 2)
          have hP1 := hP.keep al
          have hwr := unhide HMK W2
          have hq4 := hP.sz
          refine hK _ _ (fun _ => ⟨hP1.ba, hP1.bb⟩) ?_
          clear hK K'
          try simp only [List.getElem_toArray, List.getElem_cons_succ, List.getElem_cons_zero, Act.put, List.setIfInBounds_toArray, List.set_cons_zero, List.set_cons_succ]
          clear hP al hS
          generalize W2.alloc (.cells Z 2) = W3 at *
          generalize W2.heap.size = q at *
          have hP := hP1
          have hS : Bx W3 w.heap.size (.slice aa n ac) (.int .i64 ka) ∧ Bx W3 w.heap.size (.slice aa n ac) (.int .i64 ka) := ⟨hP.ba, hP.bb⟩
          clear hP1
          refine anyE_take 8 (v := ?_) rfl (by kernel_rfl) (by kernel_rfl) (by kernel_rfl) (by kernel_rfl) (fun _ _ _ h => h) hS (Or.inl ⟨by rfl, ?_⟩) ?_
          rotate_left
          · intro w' hS'
            obtain ⟨⟨e0, e1, _, _, _⟩, ⟨g0, g1, _, _, _⟩⟩ := hS'
            go_simp
            try with_reducible rfl
          try simp only [List.getElem_toArray, List.getElem_cons_succ, List.getElem_cons_zero, Act.put, List.setIfInBounds_toArray, List.set_cons_zero, List.set_cons_succ]
          refine anyE_ready [9] (by kernel_rfl) (by simp) (ReadyE.cons rfl (fun K' hK => ?_) ReadyE.nil)
          ·
            go_simp
            have al := alloc_below W3 ZF
            have hP1 := hP.keep al
            have hbf0 := Bx.new W3 (.slice none 0 0) (.int .i64 0) FmT
            have hbf := hbf0
            have hf4 := hP.sz
            have hne : q ≠ W3.heap.size := Nat.ne_of_lt hwr.lt
            have hwr := hwr.keep al
            refine hK _ _ (fun _ => ⟨hP1.ba, hP1.bb⟩) ?_
            clear hK K'
            try simp only [List.getElem_toArray, List.getElem_cons_succ, List.getElem_cons_zero, Act.put, List.setIfInBounds_toArray, List.set_cons_zero, List.set_cons_succ]
            clear hP al hS
            generalize W3.alloc (.cells #[.slice none 0 0, .int .i64 0] FmT) = W4 at *
            generalize W3.heap.size = fb at *
            have hP := hP1
            have hS : Bx W4 w.heap.size (.slice aa n ac) (.int .i64 ka) ∧ Bx W4 w.heap.size (.slice aa n ac) (.int .i64 ka) := ⟨hP.ba, hP.bb⟩
            clear hP1
            obtain ⟨f0, f1, f2, f3, f4⟩ := hbf
            refine anyE_ready [10] (by kernel_rfl) (by simp) (ReadyE.cons rfl (fun K' hK => ?_) ReadyE.nil)
            go_simp
            have hbf : Bx W4 fb (.slice none 0 0) (.int .i64 0) := ⟨f0, f1, f2, f3, f4⟩
            have hAS : AS w ((W4.setCell ⟨fb, 0, none⟩ (.slice (some ⟨q, 0, none⟩) n n)).setCell ⟨fb, 1, none⟩ (.int .i64 (fitV (ka * k)))) w.heap.size w.heap.size rb fb q (.slice aa n ac) (.slice aa n ac) ka ka (fitV (ka * k)) (!fitO (ka * k)) (List.replicate n 0) := by
              have h2 := (hP.set ⟨fb, 0, none⟩ hf4 (by omega) (by omega) (by omega) (by omega) (.slice (some ⟨q, 0, none⟩) n n)).set ⟨fb, 1, none⟩ hf4 (by omega) (by omega) (by omega) (by omega) (.int .i64 (fitV (ka * k)))
              exact ⟨h2.rs, h2.ba, h2.bb, by rw [List.length_replicate]; exact (hbf.set0 _).set1 _, (hwr.other ⟨fb, 0, none⟩ (Ne.symm hne) _).other ⟨fb, 1, none⟩ (Ne.symm hne) _⟩
            have hBR := ((hP.set ⟨fb, 0, none⟩ hf4 (by omega) (by omega) (by omega) (by omega) (.slice (some ⟨q, 0, none⟩) n n)).set ⟨fb, 1, none⟩ hf4 (by omega) (by omega) (by omega) (by omega) (.int .i64 (fitV (ka * k)))).br
            refine hK _ _ (fun h => by exact absurd h (by decide)) ?_
            clear hK K' hbf hP hwr hS f0 f1 f2 f3 f4
            try simp only [List.getElem_toArray, List.getElem_cons_succ, List.getElem_cons_zero, Act.put, List.setIfInBounds_toArray, List.set_cons_zero, List.set_cons_succ]
            refine anyE_done (by kernel_rfl) ?_ _
            go_wp2_with fail
            go_meet
            case rel => exact ⟨fb, q, rfl, hf4, hq4, hne, hide hAS, hide hBR⟩
        ·
          go_simp
          have al := alloc_below W2 ZF
          have hP1 := hP.keep al
          have hbf0 := Bx.new W2 (.slice none 0 0) (.int .i64 0) FmT
          have hbf := hbf0
          have hf4 := hP.sz
          refine hK _ _ (fun _ => ⟨hP1.ba, hP1.bb⟩) ?_
          clear hK K'
          try simp only [List.getElem_toArray, List.getElem_cons_succ, List.getElem_cons_zero, Act.put, List.setIfInBounds_toArray, List.set_cons_zero, List.set_cons_succ]
          clear hP al hS
          generalize W2.alloc (.cells #[.slice none 0 0, .int .i64 0] FmT) = W3 at *
          generalize W2.heap.size = fb at *
          have hP := hP1
          have hS : Bx W3 w.heap.size (.slice aa n ac) (.int .i64 ka) ∧ Bx W3 w.heap.size (.slice aa n ac) (.int .i64 ka) := ⟨hP.ba, hP.bb⟩
          clear hP1
          refine anyE_ready [3] (by kernel_rfl) (by simp) (ReadyE.cons rfl (fun K' hK => ?_) ReadyE.nil)
          ·
            go_simp
            have al := alloc_below W3 (.cells Z 2)
            have hP1 := hP.keep al
            have hwr := unhide HMK W3
            have hq4 := hP.sz
            have hbf := hbf.keep al
            have hne : W3.heap.size ≠ fb := Nat.ne_of_gt hbf0.lt
            refine hK _ _ (fun _ => ⟨hP1.ba, hP1.bb⟩) ?_
            clear hK K'
            try simp only [List.getElem_toArray, List.getElem_cons_succ, List.getElem_cons_zero, Act.put, List.setIfInBounds_toArray, List.set_cons_zero, List.set_cons_succ]
            clear hP al hS
            generalize W3.alloc (.cells Z 2) = W4 at *
            generalize W3.heap.size = q at *
            have hP := hP1
            have hS : Bx W4 w.heap.size (.slice aa n ac) (.int .i64 ka) ∧ Bx W4 w.heap.size (.slice aa n ac) (.int .i64 ka) := ⟨hP.ba, hP.bb⟩
            clear hP1
            refine anyE_take 8 (v := ?_) rfl (by kernel_rfl) (by kernel_rfl) (by kernel_rfl) (by kernel_rfl) (fun _ _ _ h => h) hS (Or.inl ⟨by rfl, ?_⟩) ?_
            rotate_left
            · intro w' hS'
              obtain ⟨⟨e0, e1, _, _, _⟩, ⟨g0, g1, _, _, _⟩⟩ := hS'
              go_simp
              try with_reducible rfl
            try simp only [List.getElem_toArray, List.getElem_cons_succ, List.getElem_cons_zero, Act.put, List.setIfInBounds_toArray, List.set_cons_zero, List.set_cons_succ]
            obtain ⟨f0, f1, f2, f3, f4⟩ := hbf
            refine anyE_ready [10] (by kernel_rfl) (by simp) (ReadyE.cons rfl (fun K' hK => ?_) ReadyE.nil)
            go_simp
            have hbf : Bx W4 fb (.slice none 0 0) (.int .i64 0) := ⟨f0, f1, f2, f3, f4⟩
            have hAS : AS w ((W4.setCell ⟨fb, 0, none⟩ (.slice (some ⟨q, 0, none⟩) n n)).setCell ⟨fb, 1, none⟩ (.int .i64 (fitV (ka * k)))) w.heap.size w.heap.size rb fb q (.slice aa n ac) (.slice aa n ac) ka ka (fitV (ka * k)) (!fitO (ka * k)) (List.replicate n 0) := by
              have h2 := (hP.set ⟨fb, 0, none⟩ hf4 (by omega) (by omega) (by omega) (by omega) (.slice (some ⟨q, 0, none⟩) n n)).set ⟨fb, 1, none⟩ hf4 (by omega) (by omega) (by omega) (by omega) (.int .i64 (fitV (ka * k)))
              exact ⟨h2.rs, h2.ba, h2.bb, by rw [List.length_replicate]; exact (hbf.set0 _).set1 _, (hwr.other ⟨fb, 0, none⟩ (Ne.symm hne) _).other ⟨fb, 1, none⟩ (Ne.symm hne) _⟩
            have hBR := ((hP.set ⟨fb, 0, none⟩ hf4 (by omega) (by omega) (by omega) (by omega) (.slice (some ⟨q, 0, none⟩) n n)).set ⟨fb, 1, none⟩ hf4 (by omega) (by omega) (by omega) (by omega) (.int .i64 (fitV (ka * k)))).br
            refine hK _ _ (fun h => by exact absurd h (by decide)) ?_
            clear hK K' hbf hP hwr hS f0 f1 f2 f3 f4
            try simp only [List.getElem_toArray, List.getElem_cons_succ, List.getElem_cons_zero, Act.put, List.setIfInBounds_toArray, List.set_cons_zero, List.set_cons_succ]
            refine anyE_done (by kernel_rfl) ?_ _
            go_wp2_with fail
            go_meet
            case rel => exact ⟨fb, q, rfl, hf4, hq4, hne, hide hAS, hide hBR⟩
      ·
        go_simp
        have al := alloc_below W1 ZF
        have hP1 := hP.keep al
        have hbf0 := Bx.new W1 (.slice none 0 0) (.int .i64 0) FmT
        have hbf := hbf0
        have hf4 := hP.sz
        refine hK _ _ (fun _ => ⟨hP1.ba, hP1.bb⟩) ?_
        clear hK K'
        try simp only [List.getElem_toArray, List.getElem_cons_succ, List.getElem_cons_zero, Act.put, List.setIfInBounds_toArray, List.set_cons_zero, List.set_cons_succ]
        clear hP al hS
        generalize W1.alloc (.cells #[.slice none 0 0, .int .i64 0] FmT) = W2 at *
        generalize W1.heap.size = fb at *
        have hP := hP1
        have hS : Bx W2 w.heap.size (.slice aa n ac) (.int .i64 ka) ∧ Bx W2 w.heap.size (.slice aa n ac) (.int .i64 ka) := ⟨hP.ba, hP.bb⟩
        clear hP1
        refine anyE_ready [3, 7] (by kernel_rfl) (by simp) (ReadyE.cons rfl (fun K' hK => ?_) (ReadyE.cons rfl (fun K' hK => ?_) ReadyE.nil))
        ·
          go_simp
          have al := alloc_below W2 (.cells Z 2)
          have hP1 := hP.keep al
          have hwr := unhide HMK W2
          have hq4 := hP.sz
          have hbf := hbf.keep al
          have hne : W2.heap.size ≠ fb := Nat.ne_of_gt hbf0.lt
          refine hK _ _ (fun _ => ⟨hP1.ba, hP1.bb⟩) ?_
          clear hK K'
          try simp only [List.getElem_toArray, List.getElem_cons_succ, List.getElem_cons_zero, Act.put, List.setIfInBounds_toArray, List.set_cons_zero, List.set_cons_succ]
          clear hP al hS
          generalize W2.alloc (.cells Z 2) = W3 at *
          generalize W2.heap.size = q at *
          have hP := hP1
          have hS : Bx W3 w.heap.size (.slice aa n ac) (.int .i64 ka) ∧ Bx W3 w.heap.size (.slice aa n ac) (.int .i64 ka) := ⟨hP.ba, hP.bb⟩
          clear hP1
          refine anyE_ready [7] (by kernel_rfl) (by simp) (ReadyE.cons rfl (fun K' hK => ?_) ReadyE.nil)
          ·
            go_simp
            go_at_call 35
            have hra := rmul_any W3 rb false ka k hP.rs.ro hP.rs.rf ia ik
            rw [Bool.false_or] at hra
            refine hra.mono ?_
            rintro ev w5 ⟨rfl, hw⟩
            subst hw
            dsimp only
            try go_simp
            have hP1 := hP.mark (by omega) (by omega) (by omega) (!fitO (ka * k))
            have hwr := hwr.other ⟨rb, 0, none⟩ (by show rb ≠ q; omega) (.bool (!fitO (ka * k)))
            have hbf := hbf.other ⟨rb, 0, none⟩ (by show rb ≠ fb; omega) (.bool (!fitO (ka * k)))
            refine hK _ _ (fun _ => ⟨hP1.ba, hP1.bb⟩) ?_
            clear hK K'
            try simp only [List.getElem_toArray, List.getElem_cons_succ, List.getElem_cons_zero, Act.put, List.setIfInBounds_toArray, List.set_cons_zero, List.set_cons_succ]
            clear hP hS hra
            generalize W3.setCell ⟨rb, 0, none⟩ (.bool (!fitO (ka * k))) = W4 at *
            have hP := hP1
            have hS : Bx W4 w.heap.size (.slice aa n ac) (.int .i64 ka) ∧ Bx W4 w.heap.size (.slice aa n ac) (.int .i64 ka) := ⟨hP.ba, hP.bb⟩
            clear hP1
            refine anyE_take 8 (v := ?_) rfl (by kernel_rfl) (by kernel_rfl) (by kernel_rfl) (by kernel_rfl) (fun _ _ _ h => h) hS (Or.inl ⟨by rfl, ?_⟩) ?_
            rotate_left
            · intro w' hS'
              obtain ⟨⟨e0, e1, _, _, _⟩, ⟨g0, g1, _, _, _⟩⟩ := hS'
              go_simp
              try with_reducible rfl
            try simp only [List.getElem_toArray, List.getElem_cons_succ, List.getElem_cons_zero, Act.put, List.setIfInBounds_toArray, List.set_cons_zero, List.set_cons_succ]
            obtain ⟨f0, f1, f2, f3, f4⟩ := hbf
            refine anyE_ready [10] (by kernel_rfl) (by simp) (ReadyE.cons rfl (fun K' hK => ?_) ReadyE.nil)
            go_simp
            have hbf : Bx W4 fb (.slice none 0 0) (.int .i64 0) := ⟨f0, f1, f2, f3, f4⟩
            have hAS : AS w ((W4.setCell ⟨fb, 0, none⟩ (.slice (some ⟨q, 0, none⟩) n n)).setCell ⟨fb, 1, none⟩ (.int .i64 (fitV (ka * k)))) w.heap.size w.heap.size rb fb q (.slice aa n ac) (.slice aa n ac) ka ka (fitV (ka * k)) (!fitO (ka * k)) (List.replicate n 0) := by
              have h2 := (hP.set ⟨fb, 0, none⟩ hf4 (by omega) (by omega) (by omega) (by omega) (.slice (some ⟨q, 0, none⟩) n n)).set ⟨fb, 1, none⟩ hf4 (by omega) (by omega) (by omega) (by omega) (.int .i64 (fitV (ka * k)))
              exact ⟨h2.rs, h2.ba, h2.bb, by rw [List.length_replicate]; exact (hbf.set0 _).set1 _, (hwr.other ⟨fb, 0, none⟩ (Ne.symm hne) _).other ⟨fb, 1, none⟩ (Ne.symm hne) _⟩
            have hBR := ((hP.set ⟨fb, 0, none⟩ hf4 (by omega) (by omega) (by omega) (by omega) (.slice (some ⟨q, 0, none⟩) n n)).set ⟨fb, 1, none⟩ hf4 (by omega) (by omega) (by omega) (by omega) (.int .i64 (fitV (ka * k)))).br
            refine hK _ _ (fun h => by exact absurd h (by decide)) ?_
            clear hK K' hbf hP hwr hS f0 f1 f2 f3 f4
            try simp only [List.getElem_toArray, List.getElem_cons_succ, List.getElem_cons_zero, Act.put, List.setIfInBounds_toArray, List.set_cons_zero, List.set_cons_succ]
            refine anyE_done (by kernel_rfl) ?_ _
            go_wp2_with fail
            go_meet
            case rel => exact ⟨fb, q, rfl, hf4, hq4, hne, hide hAS, hide hBR⟩
        ·
          go_simp
          go_at_call 35
          have hra := rmul_any W2 rb false ka k hP.rs.ro hP.rs.rf ia ik
          rw [Bool.false_or] at hra
          refine hra.mono ?_
          rintro ev w5 ⟨rfl, hw⟩
          subst hw
          dsimp only
          try go_simp
          have hP1 := hP.mark (by omega) (by omega) (by omega) (!fitO (ka * k))
          have hbf0 := hbf0.other ⟨rb, 0, none⟩ (by show rb ≠ fb; omega) (.bool (!fitO (ka * k)))
          have hbf := hbf0
          refine hK _ _ (fun _ => ⟨hP1.ba, hP1.bb⟩) ?_
          clear hK K'
          try simp only [List.getElem_toArray, List.getElem_cons_succ, List.getElem_cons_zero, Act.put, List.setIfInBounds_toArray, List.set_cons_zero, List.set_cons_succ]
          clear hP hS hra
          generalize W2.setCell ⟨rb, 0, none⟩ (.bool (!fitO (ka * k))) = W3 at *
          have hP := hP1
          have hS : Bx W3 w.heap.size (.slice aa n ac) (.int .i64 ka) ∧ Bx W3 w.heap.size (.slice aa n ac) (.int .i64 ka) := ⟨hP.ba, hP.bb⟩
          clear hP1
          refine anyE_ready [3] (by kernel_rfl) (by simp) (ReadyE.cons rfl (fun K' hK => ?_) ReadyE.nil)
          ·
            go_simp
            have al := alloc_below W3 (.cells Z 2)
            have hP1 := hP.keep al
            have hwr := unhide HMK W3
            have hq4 := hP.sz
            have hbf := hbf.keep al
            have hne : W3.heap.size ≠ fb := Nat.ne_of_gt hbf0.lt
            refine hK _ _ (fun _ => ⟨hP1.ba, hP1.bb⟩) ?_
            clear hK K'
            try simp only [List.getElem_toArray, List.getElem_cons_succ, List.getElem_cons_zero, Act.put, List.setIfInBounds_toArray, List.set_cons_zero, List.set_cons_succ]
            clear hP al hS
            generalize W3.alloc (.cells Z 2) = W4 at *
            generalize W3.heap.size = q at *
            have hP := hP1
            have hS : Bx W4 w.heap.size (.slice aa n ac) (.int .i64 ka) ∧ Bx W4 w.heap.size (.slice aa n ac) (.int .i64 ka) := ⟨hP.ba, hP.bb⟩
            clear hP1
            refine anyE_take 8 (v := ?_) rfl (by kernel_rfl) (by kernel_rfl) (by kernel_rfl) (by kernel_rfl) (fun _ _ _ h => h) hS (Or.inl ⟨by rfl, ?_⟩) ?_
            rotate_left
            · intro w' hS'
              obtain ⟨⟨e0, e1, _, _, _⟩, ⟨g0, g1, _, _, _⟩⟩ := hS'
              go_simp
              try with_reducible rfl
            try simp only [List.getElem_toArray, List.getElem_cons_succ, List.getElem_cons_zero, Act.put, List.setIfInBounds_toArray, List.set_cons_zero, List.set_cons_succ]
            obtain ⟨f0, f1, f2, f3, f4⟩ := hbf
            refine anyE_ready [10] (by kernel_rfl) (by simp) (ReadyE.cons rfl (fun K' hK => ?_) ReadyE.nil)
            go_simp
            have hbf : Bx W4 fb (.slice none 0 0) (.int .i64 0) := ⟨f0, f1, f2, f3, f4⟩
            have hAS : AS w ((W4.setCell ⟨fb, 0, none⟩ (.slice (some ⟨q, 0, none⟩) n n)).setCell ⟨fb, 1, none⟩ (.int .i64 (fitV (ka * k)))) w.heap.size w.heap.size rb fb q (.slice aa n ac) (.slice aa n ac) ka ka (fitV (ka * k)) (!fitO (ka * k)) (List.replicate n 0) := by
              have h2 := (hP.set ⟨fb, 0, none⟩ hf4 (by omega) (by omega) (by omega) (by omega) (.slice (some ⟨q, 0, none⟩) n n)).set ⟨fb, 1, none⟩ hf4 (by omega) (by omega) (by omega) (by omega) (.int .i64 (fitV (ka * k)))
              exact ⟨h2.rs, h2.ba, h2.bb, by rw [List.length_replicate]; exact (hbf.set0 _).set1 _, (hwr.other ⟨fb, 0, none⟩ (Ne.symm hne) _).other ⟨fb, 1, none⟩ (Ne.symm hne) _⟩
            have hBR := ((hP.set ⟨fb, 0, none⟩ hf4 (by omega) (by omega) (by omega) (by omega) (.slice (some ⟨q, 0, none⟩) n n)).set ⟨fb, 1, none⟩ hf4 (by omega) (by omega) (by omega) (by omega) (.int .i64 (fitV (ka * k)))).br
            refine hK _ _ (fun h => by exact absurd h (by decide)) ?_
            clear hK K' hbf hP hwr hS f0 f1 f2 f3 f4
            try simp only [List.getElem_toArray, List.getElem_cons_succ, List.getElem_cons_zero, Act.put, List.setIfInBounds_toArray, List.set_cons_zero, List.set_cons_succ]
            refine anyE_done (by kernel_rfl) ?_ _
            go_wp2_with fail
            go_meet
            case rel => exact ⟨fb, q, rfl, hf4, hq4, hne, hide hAS, hide hBR⟩
    case rest =>
      obtain ⟨fb, q, rfl, hf4, hq4, hne, HAS, HBR⟩ := hcut
      clear HST HMK hrun hd
      have hSL : (mulL a k).length = n := by rw [mulL_len, hna]
      have HE : Hid (∀ o : Bool, o = !(fitO (ka * k) && allF (mulL a k)) → (o = true → mulE a ka k = 5) ∧ (o = false → mulE a ka k = 0 ∧ allF (mulL a k) = true ∧ fitO (ka * k) = true)) := hide fun o ho => by
        unfold mulE
        subst ho
        constructor
        · intro h
          rw [if_neg]
          intro h2
          rw [Bool.and_comm, h2] at h
          cases h
        · intro h
          have h2 : (fitO (ka * k) && allF (mulL a k)) = true := by simpa using h
          have h3 := h2
          rw [Bool.and_eq_true] at h3
          exact ⟨by rw [if_pos]; rw [Bool.and_comm]; exact h2, h3.2, h3.1⟩
      have HOLD := hide ha
      have HLS := hide (And.intro hna hSL)
      have HRN := hide ra
      obtain ⟨⟨ro0, rf0, rl0, rB0, bl0⟩, ⟨x0, x1, x2, x3, x4⟩, -, ⟨z0, z1, z2, z3, z4⟩, hwr0⟩ := unhide HAS
      clear ha ra hwr0
      go_wp2_with fail
      clear ro0 rf0 rl0 rB0 bl0 x0 x1 x2 x3 x4 z0 z1 z2 z3 z4
      go_loopw [22] (fun x wr => ∃ (i : Nat) (o : Bool) (l : List Int), x = .int .i64 i ∧ i ≤ n ∧ Hid (l.length = n) ∧ Hid (AS w wr w.heap.size w.heap.size rb fb q (.slice aa n ac) (.slice aa n ac) ka ka (fitV (ka * k)) o l) ∧ Hid (Bx wr xr (.slice none 0 0) (.int .i64 0)) ∧ Hid (l.take i = ((mulL a k).take i).map fitV ∧ o = !(fitO (ka * k) && allF ((mulL a k).take i)))) (fun x _ => n - (intOf x).toNat)
      case atStart => exact ⟨0, _, _, rfl, Nat.zero_le _, hide List.length_replicate, HAS, HBR, hide ⟨by simp, by simp [allF]⟩⟩
      case round =>
        obtain ⟨i, o, l, rfl, hi, HL, HA, HR, HI⟩ := hrel
        clear HAS HBR
        by_cases hlt : i < n
        · have hlt' : (i : Int) < (n : Int) := by omega
          have hn9 : n ≤ 9223372036854775807 := by omega
          have hi9 : i < 9223372036854775807 := by omega
          obtain ⟨⟨hro, hrf, hrl, hrB, hbl⟩, hba, hbb, hbf, hwr⟩ := unhide HA
          have hal := (unhide HLS).1
          have ha2 := (unhide HOLD).below hbl
          have hx64 := (unhide HRN).at (i := i) (by omega)
          have hq : (mulL a k)[i]'(by have := (unhide HLS).2; omega) = a[i]'(by omega) * k := mulL_at a k i (by omega)
          have hstep := allF_take (l := mulL a k) i (by have := (unhide HLS).2; omega)
          have htk : (mulL a k).take (i + 1) = (mulL a k).take i ++ [a[i]'(by omega) * k] := by rw [List.take_succ_eq_append_getElem (by have := (unhide HLS).2; omega), hq]
          rw [hq] at hstep
          have HST2 := hide (And.intro hstep htk)
          rw [← hal] at ha2
          obtain ⟨lb, lo, lcap, hv, hc1, hc2, hcl⟩ := ha2.at (by omega)
          injection hv with hv1 hv2 hv3
          subst hv1
          have cl : wr.cell? ⟨lb, lo + i, none⟩ = some (.int .i64 (a[i]'(by omega))) := hcl i (by omega)
          clear hcl hv2 hv3 hc1 hc2 ha2 hstep htk hq hal
          generalize a[i]'(by have := (unhide HLS).1; omega) = x at *
          have HX := hide hx64
          clear hx64
          go_wp2_with fail
          rw [unhide HL] at hbf
          have hd : Below wr.heap.size wr wr.drew := below_drewN (Below.refl _ _) 1
          have HAd := (unhide HA).drew
          have HRd := (unhide HR).keep hd
          refine wp_regionE (fun W => Bx W fb (.slice (some ⟨q, 0, none⟩) n n) (.int .i64 (fitV (ka * k)))) (fun j => decide (j < 7)) (by kernel_rfl) (hbf.keep hd) (fun hS => ?_)
          clear hro hrf hrl hrB hbl hba hbb hbf hwr cl hd
          generalize wr.drew = wd at *
          refine anyE_take 0 (v := ?_) rfl (by kernel_rfl) (by kernel_rfl) (by kernel_rfl) (by kernel_rfl) (fun _ _ _ h => h) hS (Or.inl ⟨by rfl, ?_⟩) ?_
          rotate_left
          · intro w' hS'
            obtain ⟨e0, e1, _, _, _⟩ := hS'
            go_simp
            try with_reducible rfl
          try simp only [List.getElem_toArray, List.getElem_cons_zero, Act.put, List.setIfInBounds_toArray, List.set_cons_zero, List.set_cons_succ]
          refine anyE_take 1 (v := ?_) rfl (by kernel_rfl) (by kernel_rfl) (by kernel_rfl) (by kernel_rfl) (fun _ _ _ h => h) hS (Or.inl ⟨by rfl, ?_⟩) ?_
          rotate_left
          · intro w' hS'
            obtain ⟨e0, e1, _, _, _⟩ := hS'
            go_simp
            try with_reducible rfl
          try simp only [List.getElem_toArray, List.getElem_cons_succ, List.getElem_cons_zero, Act.put, List.setIfInBounds_toArray, List.set_cons_zero, List.set_cons_succ]
          refine anyE_take 2 (v := ?_) rfl (by kernel_rfl) (by kernel_rfl) (by kernel_rfl) (by kernel_rfl) (fun _ _ _ h => h) hS (Or.inl ⟨by rfl, ?_⟩) ?_
          rotate_left
          · intro w' hS'
            obtain ⟨e0, e1, _, _, _⟩ := hS'
            go_simp
            try with_reducible rfl
          try simp only [List.getElem_toArray, List.getElem_cons_succ, List.getElem_cons_zero, Act.put, List.setIfInBounds_toArray, List.set_cons_zero, List.set_cons_succ]
          refine anyE_take 3 (v := ?_) rfl (by kernel_rfl) (by kernel_rfl) (by kernel_rfl) (by kernel_rfl) (fun _ _ _ h => h) hS (Or.inl ⟨by rfl, ?_⟩) ?_
          rotate_left
          · intro w' hS'
            obtain ⟨e0, e1, _, _, _⟩ := hS'
            go_simp
            try with_reducible rfl
          try simp only [List.getElem_toArray, List.getElem_cons_succ, List.getElem_cons_zero, Act.put, List.setIfInBounds_toArray, List.set_cons_zero, List.set_cons_succ]
          refine anyE_take 4 (v := ?_) rfl (by kernel_rfl) (by kernel_rfl) (by kernel_rfl) (by kernel_rfl) (fun _ _ _ h => h) hS (Or.inl ⟨by rfl, ?_⟩) ?_
          rotate_left
          · intro w' hS'
            obtain ⟨e0, e1, _, _, _⟩ := hS'
            go_simp
            try with_reducible rfl
          try simp only [List.getElem_toArray, List.getElem_cons_succ, List.getElem_cons_zero, Act.put, List.setIfInBounds_toArray, List.set_cons_zero, List.set_cons_succ]
          refine anyE_ready [5] (by kernel_rfl) (by simp) (ReadyE.cons rfl (fun K' hK => ?_) ReadyE.nil)
          go_simp
          go_at_call 35
          refine (rmul_any wd rb o x k HAd.rs.ro HAd.rs.rf (unhide HX) ik).mono ?_
          rintro ev w5 ⟨rfl, hw⟩
          have HA5 := HAd.mark (by omega) (by omega) (by omega) (by omega) (o || !fitO (x * k))
          have hS5 : Bx w5 fb (.slice (some ⟨q, 0, none⟩) n n) (.int .i64 (fitV (ka * k))) := by
            rw [hw]
            have := HA5.bf
            rwa [unhide HL] at this
          have HR5 : Bx w5 xr (.slice none 0 0) (.int .i64 0) := by rw [hw]; exact HRd.other _ (by show rb ≠ xr; omega) _
          rw [← hw] at HA5
          clear hw
          dsimp only
          try go_simp
          refine hK _ _ (fun _ => hS5) ?_
          clear hK K' HAd HRd hS
          try simp only [List.getElem_toArray, List.getElem_cons_succ, List.getElem_cons_zero, Act.put, List.setIfInBounds_toArray, List.set_cons_zero, List.set_cons_succ]
          refine anyE_take 6 (v := ?_) rfl (by kernel_rfl) (by kernel_rfl) (by kernel_rfl) (by kernel_rfl) (fun _ _ _ h => h) hS5 (Or.inl ⟨by rfl, ?_⟩) ?_
          rotate_left
          · intro w' hS'
            obtain ⟨e0, e1, _, _, _⟩ := hS'
            go_simp
            try with_reducible rfl
          try simp only [List.getElem_toArray, List.getElem_cons_succ, List.getElem_cons_zero, Act.put, List.setIfInBounds_toArray, List.set_cons_zero, List.set_cons_succ]
          clear hS5
          obtain ⟨hwi, hwf, hwl⟩ := HA5.wr
          have cq := HA5.wr.at i (by rw [unhide HL]; omega)
          have fq := hwf i
          have HA6 := HA5.put (by omega) (by omega) (by omega) (by omega) (by omega) i (by rw [unhide HL]; omega) (fitV (x * k))
          have HR6 := HR5.other ⟨q, i, none⟩ (by show q ≠ xr; omega) (.int .i64 (fitV (x * k)))
          refine anyE_ready [7] (by kernel_rfl) (by simp) (ReadyE.cons rfl (fun K' hK => ?_) ReadyE.nil)
          go_simp
          refine hK _ _ (fun h => by exact absurd h (by decide)) ?_
          clear hK K' hwi hwf hwl cq fq HA5 HR5
          try simp only [List.getElem_toArray, List.getElem_cons_succ, List.getElem_cons_zero, Act.put, List.setIfInBounds_toArray, List.set_cons_zero, List.set_cons_succ]
          refine anyE_done (by kernel_rfl) ?_ _
          have HL6 : Hid ((l.set i (fitV (x * k))).length = n) := hide (by rw [List.length_set]; exact unhide HL)
          have HI6 : Hid ((l.set i (fitV (x * k))).take (i + 1) = ((mulL a k).take (i + 1)).map fitV ∧ (o || !fitO (x * k)) = !(fitO (ka * k) && allF ((mulL a k).take (i + 1)))) := hide (by
            obtain ⟨h1, h2⟩ := unhide HI
            obtain ⟨h3, h4⟩ := unhide HST2
            refine ⟨?_, ?_⟩
            · rw [List.take_succ_eq_append_getElem (by rw [unhide HL6]; exact hlt), List.getElem_set_self, List.take_set_of_le (Nat.le_refl _), h1, h4, List.map_append]
              rfl
            · rw [h3, h2]
              cases fitO (ka * k) <;> cases allF ((mulL a k).take i) <;> cases fitO (x * k) <;> rfl)
          go_wp2_with fail
          go_roundw
          case rel => exact ⟨i + 1, _, _, by go_num, by omega, HL6, hide HA6, hide HR6, HI6⟩
          case measure => simp [intOf]; omega
        · have hin : i = n := by omega
          subst hin
          have hlt' : ¬ (i : Int) < (i : Int) := by omega
          have hS : (mulL a k).take i = mulL a k := List.take_of_length_le (by rw [(unhide HLS).2]; exact Nat.le_refl _)
          have ho := (unhide HI).2
          rw [hS] at ho
          have HEo := hide (unhide HE o ho)
          have hl : l = (mulL a k).map fitV := by
            have h1 := (unhide HI).1
            rw [hS, List.take_of_length_le (by rw [unhide HL]; exact Nat.le_refl _)] at h1
            exact h1
          have HLL := hide hl
          obtain ⟨⟨hro, hrf, hrl, hrB, hbl⟩, hba, hbb, hbf, hwr⟩ := unhide HA
          obtain ⟨z0, z1, z2, z3, z4⟩ := unhide HR
          clear ho hS hba hbb hl
          cases o
          · obtain ⟨h5, h6, h7⟩ := (unhide HEo).2 rfl
            have HV := hide (fitV_eq h7)
            have HM := hide ((unhide HLL).trans (map_fitV h6))
            have HQ := hide h5
            obtain ⟨b0, b1, b2, b3, b4⟩ := hbf
            have HWR := hide hwr
            have HBL := hide hbl
            rw [unhide HL] at b0
            clear h5 h6 h7 hwr hbl HEo HLL
            go_wp2_with fail
            have HI2 : Ints ((wr.setCell ⟨xr, 0, none⟩ (.slice (some ⟨q, 0, none⟩) i i)).setCell ⟨xr, 1, none⟩ (.int .i64 (fitV (ka * k)))) (.slice (some ⟨q, 0, none⟩) i i) l := by
              have := (((unhide HWR).other ⟨xr, 0, none⟩ (by show xr ≠ q; omega) (.slice (some ⟨q, 0, none⟩) i i)).other ⟨xr, 1, none⟩ (by show xr ≠ q; omega) (.int .i64 (fitV (ka * k)))).ints
              rwa [unhide HL] at this
            exact bodyPost_ret (v := .tuple #[formV (.slice (some ⟨q, 0, none⟩) i i) (fitV (ka * k)), .nilIface]) (by simp [results, Tryd.results14, go_sem, z0, z1]) rfl ⟨.slice (some ⟨q, 0, none⟩) i i, .nilIface, by rw [mulK, if_pos (unhide HQ), unhide HV], by rw [mulC, if_pos (unhide HQ), ← unhide HM]; exact HI2, by rw [unhide HQ]; exact .inl ⟨rfl, rfl⟩, ((unhide HBL).setCell (p := ⟨xr, 0, none⟩) (by show w.heap.size ≤ xr; omega) _).setCell (p := ⟨xr, 1, none⟩) (by show w.heap.size ≤ xr; omega) _⟩
          · have h5 := (unhide HEo).1 rfl
            have HQ := hide h5
            have HBL := hide hbl
            have HBR := hide (Bx.mk z0 z1 z2 z3 z4)
            clear h5 hwr hbl hbf HEo HLL z0 z1 z2 z3 z4
            go_wp2_with fail
            refine (unhide HF 5 (by decide) _).mono ?_
            rintro e w2 ⟨f, rfl, hs, hB⟩
            obtain ⟨z0, z1, z2, z3, z4⟩ := (unhide HBR).keep hB
            have HSY := hide (((hs.setCell ⟨xr, 0, none⟩ (unhide HBR).lt (.slice none 0 0)).setCell ⟨xr, 1, none⟩ (unhide HBR).lt (.int .i64 0)).mono (unhide HBL).size)
            have HBL2 := hide ((((unhide HBL).trans (hB.mono (unhide HBL).size)).setCell (p := ⟨xr, 0, none⟩) (by show w.heap.size ≤ xr; omega) (.slice none 0 0)).setCell (p := ⟨xr, 1, none⟩) (by show w.heap.size ≤ xr; omega) (.int .i64 0))
            clear hs hB
            go_wp2_with fail
            exact bodyPost_ret (v := .tuple #[formV (.slice none 0 0) 0, f]) (by simp [results, Tryd.results14, go_sem, z0, z1]) rfl ⟨.slice none 0 0, f, by rw [mulK, if_neg (by rw [unhide HQ]; decide)], by rw [mulC, if_neg (by rw [unhide HQ]; decide)]; exact Ints.nil _, by rw [unhide HQ]; exact unhide HSY, unhide HBL2⟩
  · exact absurd trivial hlen2
end Go.Proofs.YtmbhamnkbpcljaaDoor.Line
