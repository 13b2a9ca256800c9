/- Contracts of lin.Add. -/
import Derived.Test.YtmbhamnkbpcljaaDoorLnFn
import Derived.Test.YtmbhamnkbpcljaaDoorLnPl2
import Derived.Test.YtmbhamnkbpcljaaDoorRegE
import Derived.Deep.DeepCutAuto
namespace Go.Proofs.YtmbhamnkbpcljaaDoor.Line
open Go.ChangeShapes Go.WideShapes Go.ChangeAt Go.RowKit
set_option linter.unusedVariables false

/-- the reckoner in its block rb, made by the call -/
structure RS (w W : World) (rb : Nat) (o : Bool) : Prop where
  ro : W.cell? ⟨rb, 0, none⟩ = some (.bool o)
  rf : W.frozen? ⟨rb, 0, none⟩ = false
  rl : rb < W.heap.size
  rB : w.heap.size ≤ rb
  bl : Below w.heap.size w W
theorem RS.keep {w W W' : World} {rb : Nat} {o : Bool} (h : RS w W rb o) (hb : Below W.heap.size W W') : RS w W' rb o :=
  ⟨(hb.cell (p := ⟨rb, 0, none⟩) h.rl).trans h.ro, (hb.frozen (p := ⟨rb, 0, none⟩) h.rl).trans h.rf, Nat.lt_of_lt_of_le h.rl hb.size, h.rB, bthen h.bl hb⟩
theorem RS.mark {w W : World} {rb : Nat} {o : Bool} (h : RS w W rb o) (x : Bool) : RS w (W.setCell ⟨rb, 0, none⟩ (.bool x)) rb x :=
  ⟨World.cell?_setCell_same _ _ _ h.ro, (World.frozen?_setCell _ _ _ _).trans h.rf, by have := h.rl; simpa [World.setCell] using this, h.rB, h.bl.setCell (p := ⟨rb, 0, none⟩) h.rB _⟩
theorem RS.set {w W : World} {rb : Nat} {o : Bool} (h : RS w W rb o) (a : Addr) (ha : a.block ≠ rb) (hB : w.heap.size ≤ a.block) (x : Value) : RS w (W.setCell a x) rb o :=
  ⟨(World.cell?_of_block (Below.heap_setCell _ _ _ _ (fun e => ha (by simpa using e.symm)))).trans h.ro, (World.frozen?_setCell _ _ _ _).trans h.rf, by have := h.rl; simpa [World.setCell] using this, h.rB, h.bl.setCell hB _⟩
/-- between two rounds: the boxes of both forms, the reckoner, the row that is filled -/
structure AS (w W : World) (xa xb rb fb q : Nat) (av bv : Value) (ka kb k : Int) (o : Bool) (l : List Int) : Prop where
  rs : RS w W rb o
  ba : Bx W xa av (.int .i64 ka)
  bb : Bx W xb bv (.int .i64 kb)
  bf : Bx W fb (.slice (some ⟨q, 0, none⟩) l.length l.length) (.int .i64 k)
  wr : Wr W q l
theorem AS.mark {w W : World} {xa xb rb fb q : Nat} {av bv : Value} {ka kb k : Int} {o : Bool} {l : List Int} (h : AS w W xa xb rb fb q av bv ka kb k o l) (h1 : rb ≠ xa) (h2 : rb ≠ xb) (h3 : rb ≠ fb) (h4 : rb ≠ q) (x : Bool) : AS w (W.setCell ⟨rb, 0, none⟩ (.bool x)) xa xb rb fb q av bv ka kb k x l :=
  ⟨h.rs.mark x, h.ba.other _ h1 _, h.bb.other _ h2 _, h.bf.other _ h3 _, h.wr.other _ h4 _⟩
theorem AS.put {w W : World} {xa xb rb fb q : Nat} {av bv : Value} {ka kb k : Int} {o : Bool} {l : List Int} (h : AS w W xa xb rb fb q av bv ka kb k o l) (h1 : q ≠ xa) (h2 : q ≠ xb) (h3 : q ≠ fb) (h4 : q ≠ rb) (h5 : w.heap.size ≤ q) (i : Nat) (hi : i < l.length) (v : Int) : AS w (W.setCell ⟨q, i, none⟩ (.int .i64 v)) xa xb rb fb q av bv ka kb k o (l.set i v) :=
  ⟨h.rs.set _ h4 h5 _, h.ba.other _ h1 _, h.bb.other _ h2 _, by rw [List.length_set]; exact h.bf.other _ h3 _, h.wr.set i hi v⟩
theorem AS.drew {w W : World} {xa xb rb fb q : Nat} {av bv : Value} {ka kb k : Int} {o : Bool} {l : List Int} (h : AS w W xa xb rb fb q av bv ka kb k o l) : AS w W.drew xa xb rb fb q av bv ka kb k o l := by
  have hd : Below W.heap.size W W.drew := below_drewN (Below.refl _ _) 1
  exact ⟨h.rs.keep hd, h.ba.keep hd, h.bb.keep hd, h.bf.keep hd, h.wr.keep hd⟩
abbrev ZF : Obj := .cells #[.slice none 0 0, .int .i64 0] FmT

theorem Says.setCell {B : Nat} {w : World} {f : Value} {word : List UInt8} {at_ err : Nat} (h : Says B w f word at_ err) (a : Addr) (ha : a.block < B) (u : Value) : Says B (w.setCell a u) f word at_ err := by
  rcases h with h | ⟨h0, b, h1, h2, h3, h4, h5⟩
  · exact .inl h
  · have hne : ∀ o, (⟨b, o, none⟩ : Addr).block ≠ a.block := fun o => by show b ≠ a.block; omega
    exact .inr ⟨h0, b, h1, h2, by rw [World.cell?_of_block (Below.heap_setCell _ _ _ _ (hne 0))]; exact h3, by rw [World.cell?_of_block (Below.heap_setCell _ _ _ _ (hne 1))]; exact h4, by rw [World.cell?_of_block (Below.heap_setCell _ _ _ _ (hne 2))]; exact h5⟩
theorem Says.mono {B B' : Nat} {w : World} {f : Value} {word : List UInt8} {at_ err : Nat} (h : Says B w f word at_ err) (hB : B' ≤ B) : Says B' w f word at_ err := by
  rcases h with h | ⟨h0, b, h1, h2⟩
  · exact .inl h
  · exact .inr ⟨h0, b, Nat.le_trans hB h1, h2⟩

def addC (a b : List Int) (ka kb : Int) : List Int := if addE a b ka kb = 0 then sumL a b else []
def addK (a b : List Int) (ka kb : Int) : Int := if addE a b ka kb = 0 then ka + kb else 0

theorem size_al (w : World) (o : Obj) : (w.alloc o).heap.size = w.heap.size + 1 := by simp
theorem RS.new {w W : World} (h : Below w.heap.size w W) : RS w (W.alloc (.cells #[.bool false] RcT)) W.heap.size false :=
  ⟨by simp, by simp, by simp, h.size, bthen h (alloc_below _ _)⟩
/-- the boxes of both forms, of the result, and the reckoner -/
structure PS (N : Nat) (w W : World) (xb xr rb : Nat) (u v : Value) (ka kb : Int) (o : Bool) : Prop where
  rs : RS w W rb o
  ba : Bx W w.heap.size u (.int .i64 ka)
  bb : Bx W xb v (.int .i64 kb)
  br : Bx W xr (.slice none 0 0) (.int .i64 0)
  sz : N ≤ W.heap.size
theorem PS.keep {N : Nat} {w W W' : World} {xb xr rb : Nat} {u v : Value} {ka kb : Int} {o : Bool} (h : PS N w W xb xr rb u v ka kb o) (hb : Below W.heap.size W W') : PS N w W' xb xr rb u v ka kb o :=
  ⟨h.rs.keep hb, h.ba.keep hb, h.bb.keep hb, h.br.keep hb, Nat.le_trans h.sz hb.size⟩
theorem PS.mark {N : Nat} {w W : World} {xb xr rb : Nat} {u v : Value} {ka kb : Int} {o : Bool} (h : PS N w W xb xr rb u v ka kb o) (h0 : rb ≠ w.heap.size) (h1 : rb ≠ xb) (h2 : rb ≠ xr) (x : Bool) : PS N w (W.setCell ⟨rb, 0, none⟩ (.bool x)) xb xr rb u v ka kb x :=
  ⟨h.rs.mark x, h.ba.other _ h0 _, h.bb.other _ h1 _, h.br.other _ h2 _, by have := h.sz; simpa [World.setCell] using this⟩
theorem PS.set {N : Nat} {w W : World} {xb xr rb : Nat} {u v : Value} {ka kb : Int} {o : Bool} (h : PS N w W xb xr rb u v ka kb o) (a : Addr) (ha : N ≤ a.block) (h0 : w.heap.size < N) (h1 : xb < N) (h2 : xr < N) (h3 : rb < N) (x : Value) : PS N w (W.setCell a x) xb xr rb u v ka kb o :=
  ⟨h.rs.set a (by omega) (by omega) x, h.ba.other a (by omega) x, h.bb.other a (by omega) x, h.br.other a (by omega) x, by have := h.sz; simpa [World.setCell] using this⟩
theorem add_start (w : World) (u v : Value) (ka kb : Int) : PS (w.heap.size + 4) w ((((w.alloc (.cells #[u, .int .i64 ka] FmT)).alloc (.cells #[v, .int .i64 kb] FmT)).alloc ZF).alloc (.cells #[.bool false] RcT)) (w.heap.size + 1) (w.heap.size + 2) (w.heap.size + 3) u v ka kb false := by
  have b1 := alloc_below w (.cells #[u, .int .i64 ka] FmT)
  have b2 := alloc_below (w.alloc (.cells #[u, .int .i64 ka] FmT)) (.cells #[v, .int .i64 kb] FmT)
  have b3 := alloc_below ((w.alloc (.cells #[u, .int .i64 ka] FmT)).alloc (.cells #[v, .int .i64 kb] FmT)) ZF
  have b4 := alloc_below (((w.alloc (.cells #[u, .int .i64 ka] FmT)).alloc (.cells #[v, .int .i64 kb] FmT)).alloc ZF) (.cells #[.bool false] RcT)
  have h1 := RS.new (bthen (bthen b1 b2) b3)
  have h2 := ((Bx.new (w.alloc (.cells #[u, .int .i64 ka] FmT)) v (.int .i64 kb) FmT).keep b3).keep b4
  have h3 := (Bx.new ((w.alloc (.cells #[u, .int .i64 ka] FmT)).alloc (.cells #[v, .int .i64 kb] FmT)) (.slice none 0 0) (.int .i64 0) FmT).keep b4
  simp only [size_al] at h1 h2 h3
  exact ⟨h1, (((Bx.new w u (.int .i64 ka) FmT).keep b2).keep b3).keep b4, h2, h3, by simp⟩

set_option maxHeartbeats 8000000 in
set_option maxRecDepth 100000 in
theorem linAdd_any (w : World) (av bv : Value) (a b : List Int) (ka kb : Int) (ha : Ints w av a) (hb : Ints w bv b) (ra : Rng a) (rb' : Rng b) (ia : In64 ka) (ib : In64 kb) (hn : a.length ≤ 1000) (hm : b.length ≤ 1000) :
    Calls Tryd.prog 11 #[formV av ka, formV bv kb] w fun e w' => ∃ cv f, e = .returned (.tuple #[formV cv (addK a b ka kb), f]) ∧ Ints w' cv (addC a b ka kb) ∧ Says w.heap.size w' f wForm 0 (addE a b ka kb) ∧ Below w.heap.size w w' := by
  have HF := hide fault_any
  obtain ⟨aa, ac, rfl⟩ := ha.shape
  obtain ⟨ba, bc, rfl⟩ := hb.shape
  have HW3 := hide (bthen (alloc_below w (.cells #[.slice aa a.length ac, .int .i64 ka] FmT)) (bthen (alloc_below _ (.cells #[.slice ba b.length bc, .int .i64 kb] FmT)) (alloc_below _ ZF)))
  have HXA := hide (((Bx.new w (.slice aa a.length ac) (.int .i64 ka) FmT).keep (alloc_below _ (.cells #[.slice ba b.length bc, .int .i64 kb] FmT))).keep (alloc_below _ ZF))
  have HXB := hide ((Bx.new (w.alloc (.cells #[.slice aa a.length ac, .int .i64 ka] FmT)) (.slice ba b.length bc) (.int .i64 kb) FmT).keep (alloc_below _ ZF))
  have HXR := hide (Bx.new ((w.alloc (.cells #[.slice aa a.length ac, .int .i64 ka] FmT)).alloc (.cells #[.slice ba b.length bc, .int .i64 kb] FmT)) (.slice none 0 0) (.int .i64 0) FmT)
  by_cases hlen : a.length = b.length
  · skip
    generalize hna : a.length = n at *
    generalize hnb : b.length = m at *
    subst hlen
    obtain ⟨Z, hmk⟩ := make_wr n (by omega)
    have hrun := fun W => (hmk W).1
    have HMK := hide fun W => (hmk W).2
    clear hmk
    have heq : ((n : Int) != (n : Int)) = false := by simp
    have HST := hide (add_start w (.slice aa n ac) (.slice ba n bc) ka kb)
    clear HW3 HXA HXB HXR
    go_enter Tryd.func11, Tryd.ntmps11
    go_wp2_with fail
    generalize (((w.alloc (.cells #[.slice aa n ac, .int .i64 ka] FmT)).alloc (.cells #[.slice ba n bc, .int .i64 kb] FmT)).alloc ZF).alloc (.cells #[.bool false] RcT) = W0 at *
    generalize hrb : w.heap.size + 3 = rb at *
    generalize hxr : w.heap.size + 2 = xr at *
    generalize hxb : w.heap.size + 1 = xb at *
    have hd : Below W0.heap.size W0 W0.drew := below_drewN (Below.refl _ _) 1
    go_cut [7] (fun s wx => ∃ fb q, s = .pointer (some ⟨fb, 0, none⟩) ∧ w.heap.size + 4 ≤ fb ∧ w.heap.size + 4 ≤ q ∧ q ≠ fb ∧ Hid (AS w wx w.heap.size xb rb fb q (.slice aa n ac) (.slice ba n bc) ka kb (fitV (ka + kb)) (!fitO (ka + kb)) (List.replicate n 0)) ∧ Hid (Bx wx xr (.slice none 0 0) (.int .i64 0)))
    case first =>
      refine wp_regionE (fun W => Bx W w.heap.size (.slice aa n ac) (.int .i64 ka) ∧ Bx W xb (.slice ba n bc) (.int .i64 kb)) (fun j => decide (j < 11)) (by kernel_rfl) ⟨((unhide HST).keep hd).ba, ((unhide HST).keep hd).bb⟩ (fun hS => ?_)
      refine anyE_take 0 (v := ?_) rfl (by kernel_rfl) (by kernel_rfl) (by kernel_rfl) (by kernel_rfl) (fun _ _ _ h => h) hS (Or.inl ⟨by rfl, ?_⟩) ?_
      rotate_left
      · intro w' hS'
        obtain ⟨⟨e0, e1, _, _, _⟩, ⟨g0, g1, _, _, _⟩⟩ := hS'
        go_simp
        try with_reducible rfl
      try simp only [List.getElem_toArray, List.getElem_cons_zero, Act.put, List.setIfInBounds_toArray, List.set_cons_zero, List.set_cons_succ]
      refine anyE_take 1 (v := ?_) rfl (by kernel_rfl) (by kernel_rfl) (by kernel_rfl) (by kernel_rfl) (fun _ _ _ h => h) hS (Or.inl ⟨by rfl, ?_⟩) ?_
      rotate_left
      · intro w' hS'
        obtain ⟨⟨e0, e1, _, _, _⟩, ⟨g0, g1, _, _, _⟩⟩ := hS'
        go_simp
        try with_reducible rfl
      try simp only [List.getElem_toArray, List.getElem_cons_succ, List.getElem_cons_zero, Act.put, List.setIfInBounds_toArray, List.set_cons_zero, List.set_cons_succ]
      refine anyE_take 2 (v := ?_) rfl (by kernel_rfl) (by kernel_rfl) (by kernel_rfl) (by kernel_rfl) (fun _ _ _ h => h) hS (Or.inl ⟨by rfl, ?_⟩) ?_
      rotate_left
      · intro w' hS'
        obtain ⟨⟨e0, e1, _, _, _⟩, ⟨g0, g1, _, _, _⟩⟩ := hS'
        go_simp
        try with_reducible rfl
      try simp only [List.getElem_toArray, List.getElem_cons_succ, List.getElem_cons_zero, Act.put, List.setIfInBounds_toArray, List.set_cons_zero, List.set_cons_succ]
      refine anyE_take 4 (v := ?_) rfl (by kernel_rfl) (by kernel_rfl) (by kernel_rfl) (by kernel_rfl) (fun _ _ _ h => h) hS (Or.inl ⟨by rfl, ?_⟩) ?_
      rotate_left
      · intro w' hS'
        obtain ⟨⟨e0, e1, _, _, _⟩, ⟨g0, g1, _, _, _⟩⟩ := hS'
        go_simp
        try with_reducible rfl
      try simp only [List.getElem_toArray, List.getElem_cons_succ, List.getElem_cons_zero, Act.put, List.setIfInBounds_toArray, List.set_cons_zero, List.set_cons_succ]
      refine anyE_take 5 (v := ?_) rfl (by kernel_rfl) (by kernel_rfl) (by kernel_rfl) (by kernel_rfl) (fun _ _ _ h => h) hS (Or.inl ⟨by rfl, ?_⟩) ?_
      rotate_left
      · intro w' hS'
        obtain ⟨⟨e0, e1, _, _, _⟩, ⟨g0, g1, _, _, _⟩⟩ := hS'
        go_simp
        try with_reducible rfl
      try simp only [List.getElem_toArray, List.getElem_cons_succ, List.getElem_cons_zero, Act.put, List.setIfInBounds_toArray, List.set_cons_zero, List.set_cons_succ]
      refine anyE_take 6 (v := ?_) rfl (by kernel_rfl) (by kernel_rfl) (by kernel_rfl) (by kernel_rfl) (fun _ _ _ h => h) hS (Or.inl ⟨by rfl, ?_⟩) ?_
      rotate_left
      · intro w' hS'
        obtain ⟨⟨e0, e1, _, _, _⟩, ⟨g0, g1, _, _, _⟩⟩ := hS'
        go_simp
        try with_reducible rfl
      try simp only [List.getElem_toArray, List.getElem_cons_succ, List.getElem_cons_zero, Act.put, List.setIfInBounds_toArray, List.set_cons_zero, List.set_cons_succ]
      refine anyE_take 7 (v := ?_) rfl (by kernel_rfl) (by kernel_rfl) (by kernel_rfl) (by kernel_rfl) (fun _ _ _ h => h) hS (Or.inl ⟨by rfl, ?_⟩) ?_
      rotate_left
      · intro w' hS'
        obtain ⟨⟨e0, e1, _, _, _⟩, ⟨g0, g1, _, _, _⟩⟩ := hS'
        go_simp
        try with_reducible rfl
      try simp only [List.getElem_toArray, List.getElem_cons_succ, List.getElem_cons_zero, Act.put, List.setIfInBounds_toArray, List.set_cons_zero, List.set_cons_succ]
      have hP := (unhide HST).keep hd
      clear hd
      generalize W0.drew = W1 at *
      refine anyE_ready [3, 8, 10] (by kernel_rfl) (by simp) (ReadyE.cons rfl (fun K' hK => ?_) (ReadyE.cons rfl (fun K' hK => ?_) (ReadyE.cons rfl (fun K' hK => ?_) ReadyE.nil)))
      ·
        go_simp
        have al := alloc_below W1 (.cells Z 2)
        have hP1 := hP.keep al
        have hwr := unhide HMK W1
        have hq4 := hP.sz
        refine hK _ _ (fun _ => ⟨hP1.ba, hP1.bb⟩) ?_
        clear hK K'
        try simp only [List.getElem_toArray, List.getElem_cons_succ, List.getElem_cons_zero, Act.put, List.setIfInBounds_toArray, List.set_cons_zero, List.set_cons_succ]
        clear hP al hS
        generalize W1.alloc (.cells Z 2) = W2 at *
        generalize W1.heap.size = q at *
        have hP := hP1
        have hS : Bx W2 w.heap.size (.slice aa n ac) (.int .i64 ka) ∧ Bx W2 xb (.slice ba n bc) (.int .i64 kb) := ⟨hP.ba, hP.bb⟩
        clear hP1
        refine anyE_ready [8, 10] (by kernel_rfl) (by simp) (ReadyE.cons rfl (fun K' hK => ?_) (ReadyE.cons rfl (fun K' hK => ?_) ReadyE.nil))
        ·
          go_simp
          go_at_call 31
          have hra := radd_any W2 rb false ka kb hP.rs.ro hP.rs.rf ia ib
          rw [Bool.false_or] at hra
          refine hra.mono ?_
          rintro ev w5 ⟨rfl, hw⟩
          subst hw
          dsimp only
          try go_simp
          have hP1 := hP.mark (by omega) (by omega) (by omega) (!fitO (ka + kb))
          have hwr := hwr.other ⟨rb, 0, none⟩ (by show rb ≠ q; omega) (.bool (!fitO (ka + kb)))
          refine hK _ _ (fun _ => ⟨hP1.ba, hP1.bb⟩) ?_
          clear hK K'
          try simp only [List.getElem_toArray, List.getElem_cons_succ, List.getElem_cons_zero, Act.put, List.setIfInBounds_toArray, List.set_cons_zero, List.set_cons_succ]
          clear hP hS hra
          generalize W2.setCell ⟨rb, 0, none⟩ (.bool (!fitO (ka + kb))) = W3 at *
          have hP := hP1
          have hS : Bx W3 w.heap.size (.slice aa n ac) (.int .i64 ka) ∧ Bx W3 xb (.slice ba n bc) (.int .i64 kb) := ⟨hP.ba, hP.bb⟩
          clear hP1
          refine anyE_take 9 (v := ?_) rfl (by kernel_rfl) (by kernel_rfl) (by kernel_rfl) (by kernel_rfl) (fun _ _ _ h => h) hS (Or.inl ⟨by rfl, ?_⟩) ?_
          rotate_left
          · intro w' hS'
            obtain ⟨⟨e0, e1, _, _, _⟩, ⟨g0, g1, _, _, _⟩⟩ := hS'
            go_simp
            try with_reducible rfl
          try simp only [List.getElem_toArray, List.getElem_cons_succ, List.getElem_cons_zero, Act.put, List.setIfInBounds_toArray, List.set_cons_zero, List.set_cons_succ]
          refine anyE_ready [10] (by kernel_rfl) (by simp) (ReadyE.cons rfl (fun K' hK => ?_) ReadyE.nil)
          ·
            go_simp
            have al := alloc_below W3 ZF
            have hP1 := hP.keep al
            have hbf0 := Bx.new W3 (.slice none 0 0) (.int .i64 0) FmT
            have hbf := hbf0
            have hf4 := hP.sz
            have hne : q ≠ W3.heap.size := Nat.ne_of_lt hwr.lt
            have hwr := hwr.keep al
            refine hK _ _ (fun _ => ⟨hP1.ba, hP1.bb⟩) ?_
            clear hK K'
            try simp only [List.getElem_toArray, List.getElem_cons_succ, List.getElem_cons_zero, Act.put, List.setIfInBounds_toArray, List.set_cons_zero, List.set_cons_succ]
            clear hP al hS
            generalize W3.alloc (.cells #[.slice none 0 0, .int .i64 0] FmT) = W4 at *
            generalize W3.heap.size = fb at *
            have hP := hP1
            have hS : Bx W4 w.heap.size (.slice aa n ac) (.int .i64 ka) ∧ Bx W4 xb (.slice ba n bc) (.int .i64 kb) := ⟨hP.ba, hP.bb⟩
            clear hP1
            obtain ⟨f0, f1, f2, f3, f4⟩ := hbf
            refine anyE_ready [11] (by kernel_rfl) (by simp) (ReadyE.cons rfl (fun K' hK => ?_) ReadyE.nil)
            go_simp
            have hbf : Bx W4 fb (.slice none 0 0) (.int .i64 0) := ⟨f0, f1, f2, f3, f4⟩
            have hAS : AS w ((W4.setCell ⟨fb, 0, none⟩ (.slice (some ⟨q, 0, none⟩) n n)).setCell ⟨fb, 1, none⟩ (.int .i64 (fitV (ka + kb)))) w.heap.size xb rb fb q (.slice aa n ac) (.slice ba n bc) ka kb (fitV (ka + kb)) (!fitO (ka + kb)) (List.replicate n 0) := by
              have h2 := (hP.set ⟨fb, 0, none⟩ hf4 (by omega) (by omega) (by omega) (by omega) (.slice (some ⟨q, 0, none⟩) n n)).set ⟨fb, 1, none⟩ hf4 (by omega) (by omega) (by omega) (by omega) (.int .i64 (fitV (ka + kb)))
              exact ⟨h2.rs, h2.ba, h2.bb, by rw [List.length_replicate]; exact (hbf.set0 _).set1 _, (hwr.other ⟨fb, 0, none⟩ (Ne.symm hne) _).other ⟨fb, 1, none⟩ (Ne.symm hne) _⟩
            have hBR := ((hP.set ⟨fb, 0, none⟩ hf4 (by omega) (by omega) (by omega) (by omega) (.slice (some ⟨q, 0, none⟩) n n)).set ⟨fb, 1, none⟩ hf4 (by omega) (by omega) (by omega) (by omega) (.int .i64 (fitV (ka + kb)))).br
            refine hK _ _ (fun h => by exact absurd h (by decide)) ?_
            clear hK K' hbf hP hwr hS f0 f1 f2 f3 f4
            try simp only [List.getElem_toArray, List.getElem_cons_succ, List.getElem_cons_zero, Act.put, List.setIfInBounds_toArray, List.set_cons_zero, List.set_cons_succ]
            refine anyE_done (by kernel_rfl) ?_ _
            go_wp2_with fail
            go_meet
            case rel => exact ⟨fb, q, rfl, hf4, hq4, hne, hide hAS, hide hBR⟩
        ·
          go_simp
          have al := alloc_below W2 ZF
          have hP1 := hP.keep al
          have hbf0 := Bx.new W2 (.slice none 0 0) (.int .i64 0) FmT
          have hbf := hbf0
          have hf4 := hP.sz
          have hne : q ≠ W2.heap.size := Nat.ne_of_lt hwr.lt
          have hwr := hwr.keep al
          refine hK _ _ (fun _ => ⟨hP1.ba, hP1.bb⟩) ?_
          clear hK K'
          try simp only [List.getElem_toArray, List.getElem_cons_succ, List.getElem_cons_zero, Act.put, List.setIfInBounds_toArray, List.set_cons_zero, List.set_cons_succ]
          clear hP al hS
          generalize W2.alloc (.cells #[.slice none 0 0, .int .i64 0] FmT) = W3 at *
          generalize W2.heap.size = fb at *
          have hP := hP1
          have hS : Bx W3 w.heap.size (.slice aa n ac) (.int .i64 ka) ∧ Bx W3 xb (.slice ba n bc) (.int .i64 kb) := ⟨hP.ba, hP.bb⟩
          clear hP1
          refine anyE_ready [8] (by kernel_rfl) (by simp) (ReadyE.cons rfl (fun K' hK => ?_) ReadyE.nil)
          ·
            go_simp
            go_at_call 31
            have hra := radd_any W3 rb false ka kb hP.rs.ro hP.rs.rf ia ib
            rw [Bool.false_or] at hra
            refine hra.mono ?_
            rintro ev w5 ⟨rfl, hw⟩
            subst hw
            dsimp only
            try go_simp
            have hP1 := hP.mark (by omega) (by omega) (by omega) (!fitO (ka + kb))
            have hwr := hwr.other ⟨rb, 0, none⟩ (by show rb ≠ q; omega) (.bool (!fitO (ka + kb)))
            have hbf := hbf.other ⟨rb, 0, none⟩ (by show rb ≠ fb; omega) (.bool (!fitO (ka + kb)))
            refine hK _ _ (fun _ => ⟨hP1.ba, hP1.bb⟩) ?_
            clear hK K'
            try simp only [List.getElem_toArray, List.getElem_cons_succ, List.getElem_cons_zero, Act.put, List.setIfInBounds_toArray, List.set_cons_zero, List.set_cons_succ]
            clear hP hS hra
            generalize W3.setCell ⟨rb, 0, none⟩ (.bool (!fitO (ka + kb))) = W4 at *
            have hP := hP1
            have hS : Bx W4 w.heap.size (.slice aa n ac) (.int .i64 ka) ∧ Bx W4 xb (.slice ba n bc) (.int .i64 kb) := ⟨hP.ba, hP.bb⟩
            clear hP1
            refine anyE_take 9 (v := ?_) rfl (by kernel_rfl) (by kernel_rfl) (by kernel_rfl) (by kernel_rfl) (fun _ _ _ h => h) hS (Or.inl ⟨by rfl, ?_⟩) ?_
            rotate_left
            · intro w' hS'
              obtain ⟨⟨e0, e1, _, _, _⟩, ⟨g0, g1, _, _, _⟩⟩ := hS'
              go_simp
              try with_reducible rfl
            try simp only [List.getElem_toArray, List.getElem_cons_succ, List.getElem_cons_zero, Act.put, List.setIfInBounds_toArray, List.set_cons_zero, List.set_cons_succ]
            obtain ⟨f0, f1, f2, f3, f4⟩ := hbf
            refine anyE_ready [11] (by kernel_rfl) (by simp) (ReadyE.cons rfl (fun K' hK => ?_) ReadyE.nil)
            go_simp
            have hbf : Bx W4 fb (.slice none 0 0) (.int .i64 0) := ⟨f0, f1, f2, f3, f4⟩
            have hAS : AS w ((W4.setCell ⟨fb, 0, none⟩ (.slice (some ⟨q, 0, none⟩) n n)).setCell ⟨fb, 1, none⟩ (.int .i64 (fitV (ka + kb)))) w.heap.size xb rb fb q (.slice aa n ac) (.slice ba n bc) ka kb (fitV (ka + kb)) (!fitO (ka + kb)) (List.replicate n 0) := by
              have h2 := (hP.set ⟨fb, 0, none⟩ hf4 (by omega) (by omega) (by omega) (by omega) (.slice (some ⟨q, 0, none⟩) n n)).set ⟨fb, 1, none⟩ hf4 (by omega) (by omega) (by omega) (by omega) (.int .i64 (fitV (ka + kb)))
              exact ⟨h2.rs, h2.ba, h2.bb, by rw [List.length_replicate]; exact (hbf.set0 _).set1 _, (hwr.other ⟨fb, 0, none⟩ (Ne.symm hne) _).other ⟨fb, 1, none⟩ (Ne.symm hne) _⟩
            have hBR := ((hP.set ⟨fb, 0, none⟩ hf4 (by omega) (by omega) (by omega) (by omega) (.slice (some ⟨q, 0, none⟩) n n)).set ⟨fb, 1, none⟩ hf4 (by omega) (by omega) (by omega) (by omega) (.int .i64 (fitV (ka + kb)))).br
            refine hK _ _ (fun h => by exact absurd h (by decide)) ?_
            clear hK K' hbf hP hwr hS f0 f1 f2 f3 f4
            try simp only [List.getElem_toArray, List.getElem_cons_succ, List.getElem_cons_zero, Act.put, List.setIfInBounds_toArray, List.set_cons_zero, List.set_cons_succ]
            refine anyE_done (by kernel_rfl) ?_ _
            go_wp2_with fail
            go_meet
            case rel => exact ⟨fb, q, rfl, hf4, hq4, hne, hide hAS, hide hBR⟩
      ·
        go_simp
        go_at_call 31
        have hra := radd_any W1 rb false ka kb hP.rs.ro hP.rs.rf ia ib
        rw [Bool.false_or] at hra
        refine hra.mono ?_
        rintro ev w5 ⟨rfl, hw⟩
        subst hw
        dsimp only
        try go_simp
        have hP1 := hP.mark (by omega) (by omega) (by omega) (!fitO (ka + kb))
        refine hK _ _ (fun _ => ⟨hP1.ba, hP1.bb⟩) ?_
        clear hK K'
        try simp only [List.getElem_toArray, List.getElem_cons_succ, List.getElem_cons_zero, Act.put, List.setIfInBounds_toArray, List.set_cons_zero, List.set_cons_succ]
        clear hP hS hra
        generalize W1.setCell ⟨rb, 0, none⟩ (.bool (!fitO (ka + kb))) = W2 at *
        have hP := hP1
        have hS : Bx W2 w.heap.size (.slice aa n ac) (.int .i64 ka) ∧ Bx W2 xb (.slice ba n bc) (.int .i64 kb) := ⟨hP.ba, hP.bb⟩
        clear hP1
        refine anyE_ready [3, 10] (by kernel_rfl) (by simp) (ReadyE.cons rfl (fun K' hK => ?_) (ReadyE.cons rfl (fun K' hK => ?_) ReadyE.nil))
        ·
          go_simp
          have al := alloc_below W2 (.cells Z 2)
          have hP1 := hP.keep al
          have hwr := unhide HMK W2
          have hq4 := hP.sz
          refine hK _ _ (fun _ => ⟨hP1.ba, hP1.bb⟩) ?_
          clear hK K'
          try simp only [List.getElem_toArray, List.getElem_cons_succ, List.getElem_cons_zero, Act.put, List.setIfInBounds_toArray, List.set_cons_zero, List.set_cons_succ]
          clear hP al hS
          generalize W2.alloc (.cells Z 2) = W3 at *
          generalize W2.heap.size = q at *
          have hP := hP1
          have hS : Bx W3 w.heap.size (.slice aa n ac) (.int .i64 ka) ∧ Bx W3 xb (.slice ba n bc) (.int .i64 kb) := ⟨hP.ba, hP.bb⟩
          clear hP1
          refine anyE_take 9 (v := ?_) rfl (by kernel_rfl) (by kernel_rfl) (by kernel_rfl) (by kernel_rfl) (fun _ _ _ h => h) hS (Or.inl ⟨by rfl, ?_⟩) ?_
          rotate_left
          · intro w' hS'
            obtain ⟨⟨e0, e1, _, _, _⟩, ⟨g0, g1, _, _, _⟩⟩ := hS'
            go_simp
            try with_reducible rfl
          try simp only [List.getElem_toArray, List.getElem_cons_succ, List.getElem_cons_zero, Act.put, List.setIfInBounds_toArray, List.set_cons_zero, List.set_cons_succ]
          refine anyE_ready [10] (by kernel_rfl) (by simp) (ReadyE.cons rfl (fun K' hK => ?_) ReadyE.nil)
          ·
            go_simp
            have al := alloc_below W3 ZF
            have hP1 := hP.keep al
            have hbf0 := Bx.new W3 (.slice none 0 0) (.int .i64 0) FmT
            have hbf := hbf0
            have hf4 := hP.sz
            have hne : q ≠ W3.heap.size := Nat.ne_of_lt hwr.lt
            have hwr := hwr.keep al
            refine hK _ _ (fun _ => ⟨hP1.ba, hP1.bb⟩) ?_
            clear hK K'
            try simp only [List.getElem_toArray, List.getElem_cons_succ, List.getElem_cons_zero, Act.put, List.setIfInBounds_toArray, List.set_cons_zero, List.set_cons_succ]
            clear hP al hS
            generalize W3.alloc (.cells #[.slice none 0 0, .int .i64 0] FmT) = W4 at *
            generalize W3.heap.size = fb at *
            have hP := hP1
            have hS : Bx W4 w.heap.size (.slice aa n ac) (.int .i64 ka) ∧ Bx W4 xb (.slice ba n bc) (.int .i64 kb) := ⟨hP.ba, hP.bb⟩
            clear hP1
            obtain ⟨f0, f1, f2, f3, f4⟩ := hbf
            refine anyE_ready [11] (by kernel_rfl) (by simp) (ReadyE.cons rfl (fun K' hK => ?_) ReadyE.nil)
            go_simp
            have hbf : Bx W4 fb (.slice none 0 0) (.int .i64 0) := ⟨f0, f1, f2, f3, f4⟩
            have hAS : AS w ((W4.setCell ⟨fb, 0, none⟩ (.slice (some ⟨q, 0, none⟩) n n)).setCell ⟨fb, 1, none⟩ (.int .i64 (fitV (ka + kb)))) w.heap.size xb rb fb q (.slice aa n ac) (.slice ba n bc) ka kb (fitV (ka + kb)) (!fitO (ka + kb)) (List.replicate n 0) := by
              have h2 := (hP.set ⟨fb, 0, none⟩ hf4 (by omega) (by omega) (by omega) (by omega) (.slice (some ⟨q, 0, none⟩) n n)).set ⟨fb, 1, none⟩ hf4 (by omega) (by omega) (by omega) (by omega) (.int .i64 (fitV (ka + kb)))
              exact ⟨h2.rs, h2.ba, h2.bb, by rw [List.length_replicate]; exact (hbf.set0 _).set1 _, (hwr.other ⟨fb, 0, none⟩ (Ne.symm hne) _).other ⟨fb, 1, none⟩ (Ne.symm hne) _⟩
            have hBR := ((hP.set ⟨fb, 0, none⟩ hf4 (by omega) (by omega) (by omega) (by omega) (.slice (some ⟨q, 0, none⟩) n n)).set ⟨fb, 1, none⟩ hf4 (by omega) (by omega) (by omega) (by omega) (.int .i64 (fitV (ka + kb)))).br
            refine hK _ _ (fun h => by exact absurd h (by decide)) ?_
            clear hK K' hbf hP hwr hS f0 f1 f2 f3 f4
            try simp only [List.getElem_toArray, List.getElem_cons_succ, List.getElem_cons_zero, Act.put, List.setIfInBounds_toArray, List.set_cons_zero, List.set_cons_succ]
            refine anyE_done (by kernel_rfl) ?_ _
            go_wp2_with fail
            go_meet
            case rel => exact ⟨fb, q, rfl, hf4, hq4, hne, hide hAS, hide hBR⟩
        ·
          go_simp
          have al := alloc_below W2 ZF
          have hP1 := hP.keep al
          have hbf0 := Bx.new W2 (.slice none 0 0) (.int .i64 0) FmT
          have hbf := hbf0
          have hf4 := hP.sz
          refine hK _ _ (fun _ => ⟨hP1.ba, hP1.bb⟩) ?_
          clear hK K'
          try simp only [List.getElem_toArray, List.getElem_cons_succ, List.getElem_cons_zero, Act.put, List.setIfInBounds_toArray, List.set_cons_zero, List.set_cons_succ]
          clear hP al hS
          generalize W2.alloc (.cells #[.slice none 0 0, .int .i64 0] FmT) = W3 at *
          generalize W2.heap.size = fb at *
          have hP := hP1
          have hS : Bx W3 w.heap.size (.slice aa n ac) (.int .i64 ka) ∧ Bx W3 xb (.slice ba n bc) (.int .i64 kb) := ⟨hP.ba, hP.bb⟩
          clear hP1
          refine anyE_ready [3] (by kernel_rfl) (by simp) (ReadyE.cons rfl (fun K' hK => ?_) ReadyE.nil)
          ·
            go_simp
            have al := alloc_below W3 (.cells Z 2)
            have hP1 := hP.keep al
            have hwr := unhide HMK W3
            have hq4 := hP.sz
            have hbf := hbf.keep al
            have hne : W3.heap.size ≠ fb := Nat.ne_of_gt hbf0.lt
            refine hK _ _ (fun _ => ⟨hP1.ba, hP1.bb⟩) ?_
            clear hK K'
            try simp only [List.getElem_toArray, List.getElem_cons_succ, List.getElem_cons_zero, Act.put, List.setIfInBounds_toArray, List.set_cons_zero, List.set_cons_succ]
            clear hP al hS
            generalize W3.alloc (.cells Z 2) = W4 at *
            generalize W3.heap.size = q at *
            have hP := hP1
            have hS : Bx W4 w.heap.size (.slice aa n ac) (.int .i64 ka) ∧ Bx W4 xb (.slice ba n bc) (.int .i64 kb) := ⟨hP.ba, hP.bb⟩
            clear hP1
            refine anyE_take 9 (v := ?_) rfl (by kernel_rfl) (by kernel_rfl) (by kernel_rfl) (by kernel_rfl) (fun _ _ _ h => h) hS (Or.inl ⟨by rfl, ?_⟩) ?_
            rotate_left
            · intro w' hS'
              obtain ⟨⟨e0, e1, _, _, _⟩, ⟨g0, g1, _, _, _⟩⟩ := hS'
              go_simp
              try with_reducible rfl
            try simp only [List.getElem_toArray, List.getElem_cons_succ, List.getElem_cons_zero, Act.put, List.setIfInBounds_toArray, List.set_cons_zero, List.set_cons_succ]
            obtain ⟨f0, f1, f2, f3, f4⟩ := hbf
            refine anyE_ready [11] (by kernel_rfl) (by simp) (ReadyE.cons rfl (fun K' hK => ?_) ReadyE.nil)
            go_simp
            have hbf : Bx W4 fb (.slice none 0 0) (.int .i64 0) := ⟨f0, f1, f2, f3, f4⟩
            have hAS : AS w ((W4.setCell ⟨fb, 0, none⟩ (.slice (some ⟨q, 0, none⟩) n n)).setCell ⟨fb, 1, none⟩ (.int .i64 (fitV (ka + kb)))) w.heap.size xb rb fb q (.slice aa n ac) (.slice ba n bc) ka kb (fitV (ka + kb)) (!fitO (ka + kb)) (List.replicate n 0) := by
              have h2 := (hP.set ⟨fb, 0, none⟩ hf4 (by omega) (by omega) (by omega) (by omega) (.slice (some ⟨q, 0, none⟩) n n)).set ⟨fb, 1, none⟩ hf4 (by omega) (by omega) (by omega) (by omega) (.int .i64 (fitV (ka + kb)))
              exact ⟨h2.rs, h2.ba, h2.bb, by rw [List.length_replicate]; exact (hbf.set0 _).set1 _, (hwr.other ⟨fb, 0, none⟩ (Ne.symm hne) _).other ⟨fb, 1, none⟩ (Ne.symm hne) _⟩
            have hBR := ((hP.set ⟨fb, 0, none⟩ hf4 (by omega) (by omega) (by omega) (by omega) (.slice (some ⟨q, 0, none⟩) n n)).set ⟨fb, 1, none⟩ hf4 (by omega) (by omega) (by omega) (by omega) (.int .i64 (fitV (ka + kb)))).br
            refine hK _ _ (fun h => by exact absurd h (by decide)) ?_
            clear hK K' hbf hP hwr hS f0 f1 f2 f3 f4
            try simp only [List.getElem_toArray, List.getElem_cons_succ, List.getElem_cons_zero, Act.put, List.setIfInBounds_toArray, List.set_cons_zero, List.set_cons_succ]
            refine anyE_done (by kernel_rfl) ?_ _
            go_wp2_with fail
            go_meet
            case rel => exact ⟨fb, q, rfl, hf4, hq4, hne, hide hAS, hide hBR⟩
      ·
        go_simp
        have al := alloc_below W1 ZF
        have hP1 := hP.keep al
        have hbf0 := Bx.new W1 (.slice none 0 0) (.int .i64 0) FmT
        have hbf := hbf0
        have hf4 := hP.sz
        refine hK _ _ (fun _ => ⟨hP1.ba, hP1.bb⟩) ?_
        clear hK K'
        try simp only [List.getElem_toArray, List.getElem_cons_succ, List.getElem_cons_zero, Act.put, List.setIfInBounds_toArray, List.set_cons_zero, List.set_cons_succ]
        clear hP al hS
        generalize W1.alloc (.cells #[.slice none 0 0, .int .i64 0] FmT) = W2 at *
        generalize W1.heap.size = fb at *
        have hP := hP1
        have hS : Bx W2 w.heap.size (.slice aa n ac) (.int .i64 ka) ∧ Bx W2 xb (.slice ba n bc) (.int .i64 kb) := ⟨hP.ba, hP.bb⟩
        clear hP1
        refine anyE_ready [3, 8] (by kernel_rfl) (by simp) (ReadyE.cons rfl (fun K' hK => ?_) (ReadyE.cons rfl (fun K' hK => ?_) ReadyE.nil))
        ·
          go_simp
          have al := alloc_below W2 (.cells Z 2)
          have hP1 := hP.keep al
          have hwr := unhide HMK W2
          have hq4 := hP.sz
          have hbf := hbf.keep al
          have hne : W2.heap.size ≠ fb := Nat.ne_of_gt hbf0.lt
          refine hK _ _ (fun _ => ⟨hP1.ba, hP1.bb⟩) ?_
          clear hK K'
          try simp only [List.getElem_toArray, List.getElem_cons_succ, List.getElem_cons_zero, Act.put, List.setIfInBounds_toArray, List.set_cons_zero, List.set_cons_succ]
          clear hP al hS
          generalize W2.alloc (.cells Z 2) = W3 at *
          generalize W2.heap.size = q at *
          have hP := hP1
          have hS : Bx W3 w.heap.size (.slice aa n ac) (.int .i64 ka) ∧ Bx W3 xb (.slice ba n bc) (.int .i64 kb) := ⟨hP.ba, hP.bb⟩
          clear hP1
          refine anyE_ready [8] (by kernel_rfl) (by simp) (ReadyE.cons rfl (fun K' hK => ?_) ReadyE.nil)
          ·
            go_simp
            go_at_call 31
            have hra := radd_any W3 rb false ka kb hP.rs.ro hP.rs.rf ia ib
            rw [Bool.false_or] at hra
            refine hra.mono ?_
            rintro ev w5 ⟨rfl, hw⟩
            subst hw
            dsimp only
            try go_simp
            have hP1 := hP.mark (by omega) (by omega) (by omega) (!fitO (ka + kb))
            have hwr := hwr.other ⟨rb, 0, none⟩ (by show rb ≠ q; omega) (.bool (!fitO (ka + kb)))
            have hbf := hbf.other ⟨rb, 0, none⟩ (by show rb ≠ fb; omega) (.bool (!fitO (ka + kb)))
            refine hK _ _ (fun _ => ⟨hP1.ba, hP1.bb⟩) ?_
            clear hK K'
            try simp only [List.getElem_toArray, List.getElem_cons_succ, List.getElem_cons_zero, Act.put, List.setIfInBounds_toArray, List.set_cons_zero, List.set_cons_succ]
            clear hP hS hra
            generalize W3.setCell ⟨rb, 0, none⟩ (.bool (!fitO (ka + kb))) = W4 at *
            have hP := hP1
            have hS : Bx W4 w.heap.size (.slice aa n ac) (.int .i64 ka) ∧ Bx W4 xb (.slice ba n bc) (.int .i64 kb) := ⟨hP.ba, hP.bb⟩
            clear hP1
            refine anyE_take 9 (v := ?_) rfl (by kernel_rfl) (by kernel_rfl) (by kernel_rfl) (by kernel_rfl) (fun _ _ _ h => h) hS (Or.inl ⟨by rfl, ?_⟩) ?_
            rotate_left
            · intro w' hS'
              obtain ⟨⟨e0, e1, _, _, _⟩, ⟨g0, g1, _, _, _⟩⟩ := hS'
              go_simp
              try with_reducible rfl
            try simp only [List.getElem_toArray, List.getElem_cons_succ, List.getElem_cons_zero, Act.put, List.setIfInBounds_toArray, List.set_cons_zero, List.set_cons_succ]
            obtain ⟨f0, f1, f2, f3, f4⟩ := hbf
            refine anyE_ready [11] (by kernel_rfl) (by simp) (ReadyE.cons rfl (fun K' hK => ?_) ReadyE.nil)
            go_simp
            have hbf : Bx W4 fb (.slice none 0 0) (.int .i64 0) := ⟨f0, f1, f2, f3, f4⟩
            have hAS : AS w ((W4.setCell ⟨fb, 0, none⟩ (.slice (some ⟨q, 0, none⟩) n n)).setCell ⟨fb, 1, none⟩ (.int .i64 (fitV (ka + kb)))) w.heap.size xb rb fb q (.slice aa n ac) (.slice ba n bc) ka kb (fitV (ka + kb)) (!fitO (ka + kb)) (List.replicate n 0) := by
              have h2 := (hP.set ⟨fb, 0, none⟩ hf4 (by omega) (by omega) (by omega) (by omega) (.slice (some ⟨q, 0, none⟩) n n)).set ⟨fb, 1, none⟩ hf4 (by omega) (by omega) (by omega) (by omega) (.int .i64 (fitV (ka + kb)))
              exact ⟨h2.rs, h2.ba, h2.bb, by rw [List.length_replicate]; exact (hbf.set0 _).set1 _, (hwr.other ⟨fb, 0, none⟩ (Ne.symm hne) _).other ⟨fb, 1, none⟩ (Ne.symm hne) _⟩
            have hBR := ((hP.set ⟨fb, 0, none⟩ hf4 (by omega) (by omega) (by omega) (by omega) (.slice (some ⟨q, 0, none⟩) n n)).set ⟨fb, 1, none⟩ hf4 (by omega) (by omega) (by omega) (by omega) (.int .i64 (fitV (ka + kb)))).br
            refine hK _ _ (fun h => by exact absurd h (by decide)) ?_
            clear hK K' hbf hP hwr hS f0 f1 f2 f3 f4
            try simp only [List.getElem_toArray, List.getElem_cons_succ, List.getElem_cons_zero, Act.put, List.setIfInBounds_toArray, List.set_cons_zero, List.set_cons_succ]
            refine anyE_done (by kernel_rfl) ?_ _
            go_wp2_with fail
            go_meet
            case rel => exact ⟨fb, q, rfl, hf4, hq4, hne, hide hAS, hide hBR⟩
        ·
          go_simp
          go_at_call 31
          have hra := radd_any W2 rb false ka kb hP.rs.ro hP.rs.rf ia ib
          rw [Bool.false_or] at hra
          refine hra.mono ?_
          rintro ev w5 ⟨rfl, hw⟩
          subst hw
          dsimp only
          try go_simp
          have hP1 := hP.mark (by omega) (by omega) (by omega) (!fitO (ka + kb))
          have hbf0 := hbf0.other ⟨rb, 0, none⟩ (by show rb ≠ fb; omega) (.bool (!fitO (ka + kb)))
          have hbf := hbf0
          refine hK _ _ (fun _ => ⟨hP1.ba, hP1.bb⟩) ?_
          clear hK K'
          try simp only [List.getElem_toArray, List.getElem_cons_succ, List.getElem_cons_zero, Act.put, List.setIfInBounds_toArray, List.set_cons_zero, List.set_cons_succ]
          clear hP hS hra
          generalize W2.setCell ⟨rb, 0, none⟩ (.bool (!fitO (ka + kb))) = W3 at *
          have hP := hP1
          have hS : Bx W3 w.heap.size (.slice aa n ac) (.int .i64 ka) ∧ Bx W3 xb (.slice ba n bc) (.int .i64 kb) := ⟨hP.ba, hP.bb⟩
          clear hP1
          refine anyE_ready [3] (by kernel_rfl) (by simp) (ReadyE.cons rfl (fun K' hK => ?_) ReadyE.nil)
          ·
            go_simp
            have al := alloc_below W3 (.cells Z 2)
            have hP1 := hP.keep al
            have hwr := unhide HMK W3
            have hq4 := hP.sz
            have hbf := hbf.keep al
            have hne : W3.heap.size ≠ fb := Nat.ne_of_gt hbf0.lt
            refine hK _ _ (fun _ => ⟨hP1.ba, hP1.bb⟩) ?_
            clear hK K'
            try simp only [List.getElem_toArray, List.getElem_cons_succ, List.getElem_cons_zero, Act.put, List.setIfInBounds_toArray, List.set_cons_zero, List.set_cons_succ]
            clear hP al hS
            generalize W3.alloc (.cells Z 2) = W4 at *
            generalize W3.heap.size = q at *
            have hP := hP1
            have hS : Bx W4 w.heap.size (.slice aa n ac) (.int .i64 ka) ∧ Bx W4 xb (.slice ba n bc) (.int .i64 kb) := ⟨hP.ba, hP.bb⟩
            clear hP1
            refine anyE_take 9 (v := ?_) rfl (by kernel_rfl) (by kernel_rfl) (by kernel_rfl) (by kernel_rfl) (fun _ _ _ h => h) hS (Or.inl ⟨by rfl, ?_⟩) ?_
            rotate_left
            · intro w' hS'
              obtain ⟨⟨e0, e1, _, _, _⟩, ⟨g0, g1, _, _, _⟩⟩ := hS'
              go_simp
              try with_reducible rfl
            try simp only [List.getElem_toArray, List.getElem_cons_succ, List.getElem_cons_zero, Act.put, List.setIfInBounds_toArray, List.set_cons_zero, List.set_cons_succ]
            obtain ⟨f0, f1, f2, f3, f4⟩ := hbf
            refine anyE_ready [11] (by kernel_rfl) (by simp) (ReadyE.cons rfl (fun K' hK => ?_) ReadyE.nil)
            go_simp
            have hbf : Bx W4 fb (.slice none 0 0) (.int .i64 0) := ⟨f0, f1, f2, f3, f4⟩
            have hAS : AS w ((W4.setCell ⟨fb, 0, none⟩ (.slice (some ⟨q, 0, none⟩) n n)).setCell ⟨fb, 1, none⟩ (.int .i64 (fitV (ka + kb)))) w.heap.size xb rb fb q (.slice aa n ac) (.slice ba n bc) ka kb (fitV (ka + kb)) (!fitO (ka + kb)) (List.replicate n 0) := by
              have h2 := (hP.set ⟨fb, 0, none⟩ hf4 (by omega) (by omega) (by omega) (by omega) (.slice (some ⟨q, 0, none⟩) n n)).set ⟨fb, 1, none⟩ hf4 (by omega) (by omega) (by omega) (by omega) (.int .i64 (fitV (ka + kb)))
              exact ⟨h2.rs, h2.ba, h2.bb, by rw [List.length_replicate]; exact (hbf.set0 _).set1 _, (hwr.other ⟨fb, 0, none⟩ (Ne.symm hne) _).other ⟨fb, 1, none⟩ (Ne.symm hne) _⟩
            have hBR := ((hP.set ⟨fb, 0, none⟩ hf4 (by omega) (by omega) (by omega) (by omega) (.slice (some ⟨q, 0, none⟩) n n)).set ⟨fb, 1, none⟩ hf4 (by omega) (by omega) (by omega) (by omega) (.int .i64 (fitV (ka + kb)))).br
            refine hK _ _ (fun h => by exact absurd h (by decide)) ?_
            clear hK K' hbf hP hwr hS f0 f1 f2 f3 f4
            try simp only [List.getElem_toArray, List.getElem_cons_succ, List.getElem_cons_zero, Act.put, List.setIfInBounds_toArray, List.set_cons_zero, List.set_cons_succ]
            refine anyE_done (by kernel_rfl) ?_ _
            go_wp2_with fail
            go_meet
            case rel => exact ⟨fb, q, rfl, hf4, hq4, hne, hide hAS, hide hBR⟩
    case rest =>
      obtain ⟨fb, q, rfl, hf4, hq4, hne, HAS, HBR⟩ := hcut
      clear HST HMK hrun hd
      have hSL : (sumL a b).length = n := by rw [sumL_len a b (by omega), hna]
      have HE : Hid (∀ o : Bool, o = !(fitO (ka + kb) && allF (sumL a b)) → (o = true → addE a b ka kb = 5) ∧ (o = false → addE a b ka kb = 0 ∧ allF (sumL a b) = true ∧ fitO (ka + kb) = true)) := hide fun o ho => by
        unfold addE
        rw [if_neg (by omega)]
        subst ho
        constructor
        · intro h
          rw [if_neg]
          intro h2
          rw [Bool.and_comm, h2] at h
          cases h
        · intro h
          have h2 : (fitO (ka + kb) && allF (sumL a b)) = true := by simpa using h
          have h3 := h2
          rw [Bool.and_eq_true] at h3
          exact ⟨by rw [if_pos]; rw [Bool.and_comm]; exact h2, h3.2, h3.1⟩
      have HOLD := hide (And.intro ha hb)
      have HLS := hide (And.intro hna (And.intro hnb hSL))
      have HRN := hide (And.intro ra rb')
      obtain ⟨⟨ro0, rf0, rl0, rB0, bl0⟩, ⟨x0, x1, x2, x3, x4⟩, ⟨y0, y1, y2, y3, y4⟩, ⟨z0, z1, z2, z3, z4⟩, hwr0⟩ := unhide HAS
      clear ha hb ra rb' hwr0
      go_wp2_with fail
      clear ro0 rf0 rl0 rB0 bl0 x0 x1 x2 x3 x4 y0 y1 y2 y3 y4 z0 z1 z2 z3 z4
      go_loopw [32] (fun x wr => ∃ (i : Nat) (o : Bool) (l : List Int), x = .int .i64 i ∧ i ≤ n ∧ Hid (l.length = n) ∧ Hid (AS w wr w.heap.size xb rb fb q (.slice aa n ac) (.slice ba n bc) ka kb (fitV (ka + kb)) o l) ∧ Hid (Bx wr xr (.slice none 0 0) (.int .i64 0)) ∧ Hid (l.take i = ((sumL a b).take i).map fitV ∧ o = !(fitO (ka + kb) && allF ((sumL a b).take i)))) (fun x _ => n - (intOf x).toNat)
      case atStart => exact ⟨0, _, _, rfl, Nat.zero_le _, hide List.length_replicate, HAS, HBR, hide ⟨by simp, by simp [allF]⟩⟩
      case round =>
        obtain ⟨i, o, l, rfl, hi, HL, HA, HR, HI⟩ := hrel
        clear HAS HBR
        by_cases hlt : i < n
        · have hlt' : (i : Int) < (n : Int) := by omega
          have hn9 : n ≤ 9223372036854775807 := by omega
          have hi9 : i < 9223372036854775807 := by omega
          obtain ⟨⟨hro, hrf, hrl, hrB, hbl⟩, hba, hbb, hbf, hwr⟩ := unhide HA
          have hal := (unhide HLS).1
          have hbl2 := (unhide HLS).2.1
          have ha2 := (unhide HOLD).1.below hbl
          have hb2 := (unhide HOLD).2.below hbl
          have hx64 := (unhide HRN).1.at (i := i) (by omega)
          have hy64 := (unhide HRN).2.at (i := i) (by omega)
          have hq : (sumL a b)[i]'(by have := (unhide HLS).2.2; omega) = a[i]'(by omega) + b[i]'(by omega) := sumL_at a b i (by omega) (by omega)
          have hstep := allF_take (l := sumL a b) i (by have := (unhide HLS).2.2; omega)
          have htk : (sumL a b).take (i + 1) = (sumL a b).take i ++ [a[i]'(by omega) + b[i]'(by omega)] := by rw [List.take_succ_eq_append_getElem (by have := (unhide HLS).2.2; omega), hq]
          rw [hq] at hstep
          have HST2 := hide (And.intro hstep htk)
          rw [← hal] at ha2
          rw [← hbl2] at hb2
          obtain ⟨lb, lo, lcap, hv, hc1, hc2, hcl⟩ := ha2.at (by omega)
          injection hv with hv1 hv2 hv3
          subst hv1
          obtain ⟨db, do_, dcap, hv', hd1, hd2, hcd⟩ := hb2.at (by omega)
          injection hv' with hv1' hv2' hv3'
          subst hv1'
          have cl : wr.cell? ⟨lb, lo + i, none⟩ = some (.int .i64 (a[i]'(by omega))) := hcl i (by omega)
          have cd : wr.cell? ⟨db, do_ + i, none⟩ = some (.int .i64 (b[i]'(by omega))) := hcd i (by omega)
          have hlbw : lb < w.heap.size := by
            obtain ⟨b', o', c', e1, _, _, e3⟩ := (unhide HOLD).1.at (by omega)
            injection e1 with e1
            injection e1 with e1
            injection e1 with e1 e2
            rw [e1]
            exact cell_lt (e3 i (by omega))
          have hdbw : db < w.heap.size := by
            obtain ⟨b', o', c', e1, _, _, e3⟩ := (unhide HOLD).2.at (by omega)
            injection e1 with e1
            injection e1 with e1
            injection e1 with e1 e2
            rw [e1]
            exact cell_lt (e3 i (by omega))
          clear hcl hcd hv2 hv3 hv2' hv3' hc1 hc2 hd1 hd2 ha2 hb2 hstep htk hq hal hbl2
          generalize a[i]'(by have := (unhide HLS).1; omega) = x at *
          generalize b[i]'(by have := (unhide HLS).2.1; omega) = y at *
          have HX := hide (And.intro hx64 hy64)
          clear hx64 hy64
          go_wp2_with fail
          rw [unhide HL] at hbf
          have hd : Below wr.heap.size wr wr.drew := below_drewN (Below.refl _ _) 1
          have HAd := (unhide HA).drew
          have HRd := (unhide HR).keep hd
          have hbld : Below w.heap.size w wr.drew := hbl.trans (hd.mono hbl.size)
          have cy : wr.drew.cell? ⟨db, do_ + i, none⟩ = some (.int .i64 y) := cd
          refine wp_regionE (fun W => Bx W fb (.slice (some ⟨q, 0, none⟩) n n) (.int .i64 (fitV (ka + kb))) ∧ Bx W xb (.slice (some ⟨db, do_, none⟩) n bc) (.int .i64 kb) ∧ W.cell? ⟨db, do_ + i, none⟩ = some (.int .i64 y)) (fun j => decide (j < 11)) (by kernel_rfl) ⟨hbf.keep hd, hbb.keep hd, cy⟩ (fun hS => ?_)
          clear hro hrf hrl hrB hbl hba hbb hbf hwr cl cd hd
          generalize wr.drew = wd at *
          refine anyE_take 0 (v := ?_) rfl (by kernel_rfl) (by kernel_rfl) (by kernel_rfl) (by kernel_rfl) (fun _ _ _ h => h) hS (Or.inl ⟨by rfl, ?_⟩) ?_
          rotate_left
          · intro w' hS'
            obtain ⟨⟨e0, e1, _, _, _⟩, ⟨g0, g1, _, _, _⟩, d0⟩ := hS'
            go_simp
            try with_reducible rfl
          try simp only [List.getElem_toArray, List.getElem_cons_zero, Act.put, List.setIfInBounds_toArray, List.set_cons_zero, List.set_cons_succ]
          refine anyE_take 1 (v := ?_) rfl (by kernel_rfl) (by kernel_rfl) (by kernel_rfl) (by kernel_rfl) (fun _ _ _ h => h) hS (Or.inl ⟨by rfl, ?_⟩) ?_
          rotate_left
          · intro w' hS'
            obtain ⟨⟨e0, e1, _, _, _⟩, ⟨g0, g1, _, _, _⟩, d0⟩ := hS'
            go_simp
            try with_reducible rfl
          try simp only [List.getElem_toArray, List.getElem_cons_succ, List.getElem_cons_zero, Act.put, List.setIfInBounds_toArray, List.set_cons_zero, List.set_cons_succ]
          refine anyE_take 2 (v := ?_) rfl (by kernel_rfl) (by kernel_rfl) (by kernel_rfl) (by kernel_rfl) (fun _ _ _ h => h) hS (Or.inl ⟨by rfl, ?_⟩) ?_
          rotate_left
          · intro w' hS'
            obtain ⟨⟨e0, e1, _, _, _⟩, ⟨g0, g1, _, _, _⟩, d0⟩ := hS'
            go_simp
            try with_reducible rfl
          try simp only [List.getElem_toArray, List.getElem_cons_succ, List.getElem_cons_zero, Act.put, List.setIfInBounds_toArray, List.set_cons_zero, List.set_cons_succ]
          refine anyE_take 3 (v := ?_) rfl (by kernel_rfl) (by kernel_rfl) (by kernel_rfl) (by kernel_rfl) (fun _ _ _ h => h) hS (Or.inl ⟨by rfl, ?_⟩) ?_
          rotate_left
          · intro w' hS'
            obtain ⟨⟨e0, e1, _, _, _⟩, ⟨g0, g1, _, _, _⟩, d0⟩ := hS'
            go_simp
            try with_reducible rfl
          try simp only [List.getElem_toArray, List.getElem_cons_succ, List.getElem_cons_zero, Act.put, List.setIfInBounds_toArray, List.set_cons_zero, List.set_cons_succ]
          refine anyE_take 4 (v := ?_) rfl (by kernel_rfl) (by kernel_rfl) (by kernel_rfl) (by kernel_rfl) (fun _ _ _ h => h) hS (Or.inl ⟨by rfl, ?_⟩) ?_
          rotate_left
          · intro w' hS'
            obtain ⟨⟨e0, e1, _, _, _⟩, ⟨g0, g1, _, _, _⟩, d0⟩ := hS'
            go_simp
            try with_reducible rfl
          try simp only [List.getElem_toArray, List.getElem_cons_succ, List.getElem_cons_zero, Act.put, List.setIfInBounds_toArray, List.set_cons_zero, List.set_cons_succ]
          refine anyE_take 5 (v := ?_) rfl (by kernel_rfl) (by kernel_rfl) (by kernel_rfl) (by kernel_rfl) (fun _ _ _ h => h) hS (Or.inl ⟨by rfl, ?_⟩) ?_
          rotate_left
          · intro w' hS'
            obtain ⟨⟨e0, e1, _, _, _⟩, ⟨g0, g1, _, _, _⟩, d0⟩ := hS'
            go_simp
            try with_reducible rfl
          try simp only [List.getElem_toArray, List.getElem_cons_succ, List.getElem_cons_zero, Act.put, List.setIfInBounds_toArray, List.set_cons_zero, List.set_cons_succ]
          refine anyE_take 6 (v := ?_) rfl (by kernel_rfl) (by kernel_rfl) (by kernel_rfl) (by kernel_rfl) (fun _ _ _ h => h) hS (Or.inl ⟨by rfl, ?_⟩) ?_
          rotate_left
          · intro w' hS'
            obtain ⟨⟨e0, e1, _, _, _⟩, ⟨g0, g1, _, _, _⟩, d0⟩ := hS'
            go_simp
            try with_reducible rfl
          try simp only [List.getElem_toArray, List.getElem_cons_succ, List.getElem_cons_zero, Act.put, List.setIfInBounds_toArray, List.set_cons_zero, List.set_cons_succ]
          refine anyE_take 7 (v := ?_) rfl (by kernel_rfl) (by kernel_rfl) (by kernel_rfl) (by kernel_rfl) (fun _ _ _ h => h) hS (Or.inl ⟨by rfl, ?_⟩) ?_
          rotate_left
          · intro w' hS'
            obtain ⟨⟨e0, e1, _, _, _⟩, ⟨g0, g1, _, _, _⟩, d0⟩ := hS'
            go_simp
            try with_reducible rfl
          try simp only [List.getElem_toArray, List.getElem_cons_succ, List.getElem_cons_zero, Act.put, List.setIfInBounds_toArray, List.set_cons_zero, List.set_cons_succ]
          refine anyE_take 8 (v := ?_) rfl (by kernel_rfl) (by kernel_rfl) (by kernel_rfl) (by kernel_rfl) (fun _ _ _ h => h) hS (Or.inl ⟨by rfl, ?_⟩) ?_
          rotate_left
          · intro w' hS'
            obtain ⟨⟨e0, e1, _, _, _⟩, ⟨g0, g1, _, _, _⟩, d0⟩ := hS'
            go_simp
            try with_reducible rfl
          try simp only [List.getElem_toArray, List.getElem_cons_succ, List.getElem_cons_zero, Act.put, List.setIfInBounds_toArray, List.set_cons_zero, List.set_cons_succ]
          refine anyE_ready [9] (by kernel_rfl) (by simp) (ReadyE.cons rfl (fun K' hK => ?_) ReadyE.nil)
          go_simp
          go_at_call 31
          refine (radd_any wd rb o x y HAd.rs.ro HAd.rs.rf (unhide HX).1 (unhide HX).2).mono ?_
          rintro ev w5 ⟨rfl, hw⟩
          have HA5 := HAd.mark (by omega) (by omega) (by omega) (by omega) (o || !fitO (x + y))
          have hS5 : Bx w5 fb (.slice (some ⟨q, 0, none⟩) n n) (.int .i64 (fitV (ka + kb))) ∧ Bx w5 xb (.slice (some ⟨db, do_, none⟩) n bc) (.int .i64 kb) ∧ w5.cell? ⟨db, do_ + i, none⟩ = some (.int .i64 y) := by
            rw [hw]
            refine ⟨by have := HA5.bf; rwa [unhide HL] at this, HA5.bb, ?_⟩
            exact (World.cell?_of_block (a := ⟨db, do_ + i, none⟩) (Below.heap_setCell _ _ _ _ (by show db ≠ rb; omega))).trans cy
          have HR5 : Bx w5 xr (.slice none 0 0) (.int .i64 0) := by rw [hw]; exact HRd.other _ (by show rb ≠ xr; omega) _
          rw [← hw] at HA5
          clear hw
          dsimp only
          try go_simp
          refine hK _ _ (fun _ => hS5) ?_
          clear hK K' HAd HRd hS cy
          try simp only [List.getElem_toArray, List.getElem_cons_succ, List.getElem_cons_zero, Act.put, List.setIfInBounds_toArray, List.set_cons_zero, List.set_cons_succ]
          refine anyE_take 10 (v := ?_) rfl (by kernel_rfl) (by kernel_rfl) (by kernel_rfl) (by kernel_rfl) (fun _ _ _ h => h) hS5 (Or.inl ⟨by rfl, ?_⟩) ?_
          rotate_left
          · intro w' hS'
            obtain ⟨⟨e0, e1, _, _, _⟩, ⟨g0, g1, _, _, _⟩, d0⟩ := hS'
            go_simp
            try with_reducible rfl
          try simp only [List.getElem_toArray, List.getElem_cons_succ, List.getElem_cons_zero, Act.put, List.setIfInBounds_toArray, List.set_cons_zero, List.set_cons_succ]
          clear hS5
          obtain ⟨hwi, hwf, hwl⟩ := HA5.wr
          have cq := HA5.wr.at i (by rw [unhide HL]; omega)
          have fq := hwf i
          have HA6 := HA5.put (by omega) (by omega) (by omega) (by omega) (by omega) i (by rw [unhide HL]; omega) (fitV (x + y))
          have HR6 := HR5.other ⟨q, i, none⟩ (by show q ≠ xr; omega) (.int .i64 (fitV (x + y)))
          refine anyE_ready [11] (by kernel_rfl) (by simp) (ReadyE.cons rfl (fun K' hK => ?_) ReadyE.nil)
          go_simp
          refine hK _ _ (fun h => by exact absurd h (by decide)) ?_
          clear hK K' hwi hwf hwl cq fq HA5 HR5
          try simp only [List.getElem_toArray, List.getElem_cons_succ, List.getElem_cons_zero, Act.put, List.setIfInBounds_toArray, List.set_cons_zero, List.set_cons_succ]
          refine anyE_done (by kernel_rfl) ?_ _
          have HL6 : Hid ((l.set i (fitV (x + y))).length = n) := hide (by rw [List.length_set]; exact unhide HL)
          have HI6 : Hid ((l.set i (fitV (x + y))).take (i + 1) = ((sumL a b).take (i + 1)).map fitV ∧ (o || !fitO (x + y)) = !(fitO (ka + kb) && allF ((sumL a b).take (i + 1)))) := hide (by
            obtain ⟨h1, h2⟩ := unhide HI
            obtain ⟨h3, h4⟩ := unhide HST2
            refine ⟨?_, ?_⟩
            · rw [List.take_succ_eq_append_getElem (by rw [unhide HL6]; exact hlt), List.getElem_set_self, List.take_set_of_le (Nat.le_refl _), h1, h4, List.map_append]
              rfl
            · rw [h3, h2]
              cases fitO (ka + kb) <;> cases allF ((sumL a b).take i) <;> cases fitO (x + y) <;> rfl)
          go_wp2_with fail
          go_roundw
          case rel => exact ⟨i + 1, _, _, by go_num, by omega, HL6, hide HA6, hide HR6, HI6⟩
          case measure => simp [intOf]; omega
        · have hin : i = n := by omega
          subst hin
          have hlt' : ¬ (i : Int) < (i : Int) := by omega
          have hS : (sumL a b).take i = sumL a b := List.take_of_length_le (by rw [(unhide HLS).2.2]; exact Nat.le_refl _)
          have ho := (unhide HI).2
          rw [hS] at ho
          have HEo := hide (unhide HE o ho)
          have hl : l = (sumL a b).map fitV := by
            have h1 := (unhide HI).1
            rw [hS, List.take_of_length_le (by rw [unhide HL]; exact Nat.le_refl _)] at h1
            exact h1
          have HLL := hide hl
          obtain ⟨⟨hro, hrf, hrl, hrB, hbl⟩, hba, hbb, hbf, hwr⟩ := unhide HA
          obtain ⟨z0, z1, z2, z3, z4⟩ := unhide HR
          clear ho hS hba hbb hl
          cases o
          · obtain ⟨h5, h6, h7⟩ := (unhide HEo).2 rfl
            have HV := hide (fitV_eq h7)
            have HM := hide ((unhide HLL).trans (map_fitV h6))
            have HQ := hide h5
            obtain ⟨b0, b1, b2, b3, b4⟩ := hbf
            have HWR := hide hwr
            have HBL := hide hbl
            rw [unhide HL] at b0
            clear h5 h6 h7 hwr hbl HEo HLL
            go_wp2_with fail
            have HI2 : Ints ((wr.setCell ⟨xr, 0, none⟩ (.slice (some ⟨q, 0, none⟩) i i)).setCell ⟨xr, 1, none⟩ (.int .i64 (fitV (ka + kb)))) (.slice (some ⟨q, 0, none⟩) i i) l := by
              have := (((unhide HWR).other ⟨xr, 0, none⟩ (by show xr ≠ q; omega) (.slice (some ⟨q, 0, none⟩) i i)).other ⟨xr, 1, none⟩ (by show xr ≠ q; omega) (.int .i64 (fitV (ka + kb)))).ints
              rwa [unhide HL] at this
            exact bodyPost_ret (v := .tuple #[formV (.slice (some ⟨q, 0, none⟩) i i) (fitV (ka + kb)), .nilIface]) (by simp [results, Tryd.results11, go_sem, z0, z1]) rfl ⟨.slice (some ⟨q, 0, none⟩) i i, .nilIface, by rw [addK, if_pos (unhide HQ), unhide HV], by rw [addC, if_pos (unhide HQ), ← unhide HM]; exact HI2, by rw [unhide HQ]; exact .inl ⟨rfl, rfl⟩, ((unhide HBL).setCell (p := ⟨xr, 0, none⟩) (by show w.heap.size ≤ xr; omega) _).setCell (p := ⟨xr, 1, none⟩) (by show w.heap.size ≤ xr; omega) _⟩
          · have h5 := (unhide HEo).1 rfl
            have HQ := hide h5
            have HBL := hide hbl
            have HBR := hide (Bx.mk z0 z1 z2 z3 z4)
            clear h5 hwr hbl hbf HEo HLL z0 z1 z2 z3 z4
            go_wp2_with fail
            refine (unhide HF 5 (by decide) _).mono ?_
            rintro e w2 ⟨f, rfl, hs, hB⟩
            obtain ⟨z0, z1, z2, z3, z4⟩ := (unhide HBR).keep hB
            have HSY := hide (((hs.setCell ⟨xr, 0, none⟩ (unhide HBR).lt (.slice none 0 0)).setCell ⟨xr, 1, none⟩ (unhide HBR).lt (.int .i64 0)).mono (unhide HBL).size)
            have HBL2 := hide ((((unhide HBL).trans (hB.mono (unhide HBL).size)).setCell (p := ⟨xr, 0, none⟩) (by show w.heap.size ≤ xr; omega) (.slice none 0 0)).setCell (p := ⟨xr, 1, none⟩) (by show w.heap.size ≤ xr; omega) (.int .i64 0))
            clear hs hB
            go_wp2_with fail
            exact bodyPost_ret (v := .tuple #[formV (.slice none 0 0) 0, f]) (by simp [results, Tryd.results11, go_sem, z0, z1]) rfl ⟨.slice none 0 0, f, by rw [addK, if_neg (by rw [unhide HQ]; decide)], by rw [addC, if_neg (by rw [unhide HQ]; decide)]; exact Ints.nil _, by rw [unhide HQ]; exact unhide HSY, unhide HBL2⟩
  · have hE : Hid (addE a b ka kb = 1) := hide (by unfold addE; rw [if_pos hlen])
    have hne : (a.length : Int) ≠ (b.length : Int) := by omega
    have hne' : ((a.length : Int) != (b.length : Int)) = true := by simp; omega
    have hC : Hid (addC a b ka kb = [] ∧ addK a b ka kb = 0) := hide ⟨by unfold addC; rw [unhide hE]; rfl, by unfold addK; rw [unhide hE]; rfl⟩
    clear hn hm ra rb'
    generalize addE a b ka kb = E at *
    generalize addC a b ka kb = C at *
    generalize addK a b ka kb = K at *
    generalize a.length = n at *
    generalize b.length = m at *
    go_enter Tryd.func11, Tryd.ntmps11
    go_wp2_with fail
    refine (unhide HF 1 (by decide) _).mono ?_
    rintro e w2 ⟨f, rfl, hs, hB⟩
    have h3 := Bx.new ((w.alloc (.cells #[.slice aa n ac, .int .i64 ka] FmT)).alloc (.cells #[.slice ba m bc, .int .i64 kb] FmT)) (.slice none 0 0) (.int .i64 0) FmT
    have h4 := bthen (bthen (alloc_below w (.cells #[.slice aa n ac, .int .i64 ka] FmT)) (alloc_below _ (.cells #[.slice ba m bc, .int .i64 kb] FmT))) (alloc_below _ ZF)
    have hz3 : w.heap.size + 2 < (((w.alloc (.cells #[.slice aa n ac, .int .i64 ka] FmT)).alloc (.cells #[.slice ba m bc, .int .i64 kb] FmT)).alloc ZF).heap.size := by simp
    simp only [size_al] at h3
    obtain ⟨z0, z1, z2, z3, z4⟩ := h3.keep hB
    have HSY := hide (((hs.setCell ⟨w.heap.size + 2, 0, none⟩ hz3 (.slice none 0 0)).setCell ⟨w.heap.size + 2, 1, none⟩ hz3 (.int .i64 0)).mono h4.size)
    have HBL2 := hide (((bthen h4 hB).setCell (p := ⟨w.heap.size + 2, 0, none⟩) (by show w.heap.size ≤ w.heap.size + 2; omega) (.slice none 0 0)).setCell (p := ⟨w.heap.size + 2, 1, none⟩) (by show w.heap.size ≤ w.heap.size + 2; omega) (.int .i64 0))
    clear hs hB h3 h4 hz3
    go_wp2_with fail
    exact bodyPost_ret (v := .tuple #[formV (.slice none 0 0) 0, f]) (by simp [results, Tryd.results11, go_sem, z0, z1]) rfl ⟨.slice none 0 0, f, by rw [(unhide hC).2], by rw [(unhide hC).1]; exact Ints.nil _, by rw [unhide hE]; exact unhide HSY, unhide HBL2⟩
end Go.Proofs.YtmbhamnkbpcljaaDoor.Line
