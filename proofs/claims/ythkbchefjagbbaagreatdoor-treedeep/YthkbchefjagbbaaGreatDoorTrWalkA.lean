/- The contract of tree.walk: each node is told, in order, till it is told to end.
   tree.Count: a walk that counts. -/
import Derived.Test.YthkbchefjagbbaaGreatDoorWkA
import Derived.Test.YthkbchefjagbbaaGreatDoorTrEndA
import Derived.Deep.LoopGhost
namespace Go.Proofs.YthkbchefjagbbaaGreatDoor.Line
open Go.ChangeShapes Go.WideShapes Go.ChangeAt Go.RowKit
open Ex (E St)
set_option linter.unusedVariables false

def WalkPost (w : World) (A0 : Nat → Prop) (J Jend : List (PN × Nat) → (Nat → Prop) → World → Prop) (l0 : List PN) (e : Ending) (w' : World) : Prop :=
  Upd (fun b => ¬ A0 b) w w' ∧ ((e = .returned (.bool true) ∧ J (preL l0 0) A0 w') ∨ (e = .returned (.bool false) ∧ ∃ vis rest, preL l0 0 = vis ++ rest ∧ Jend vis A0 w'))
set_option maxHeartbeats 8000000 in
set_option maxRecDepth 100000 in
theorem walk_any {F : FuncId} {caps : Array Value} {S0 A0 : Nat → Prop} {J Jend : List (PN × Nat) → (Nat → Prop) → World → Prop} (w : World) (l0 : List PN) (V : Visitor F caps (preL l0 0) (fun b => S0 b ∧ b < w.heap.size) J Jend) (v : Value) (hN : Nodes w S0 l0 v) (hA : ∀ b, A0 b → b < w.heap.size) (hS : ∀ b, S0 b → b < w.heap.size → A0 b) (hJ : J [] A0 w) (hlen : (preL l0 0).length ≤ 100000) :
    Calls Tryz.prog 77 #[v, .func (.func F) #[] caps] w fun e w' => WalkPost w A0 J Jend l0 e w' := by
  obtain ⟨va, vcap, hv⟩ := hN.shape
  have hN1 : Nodes w (fun b => S0 b ∧ b < w.heap.size) l0 v := hN.mono (fun b h hl => ⟨h, hl⟩)
  have ba := alloc_below w (.cells #[v, .int .i64 0] RST)
  have HW0 : Hid (WInv w (w.alloc (.cells #[v, .int .i64 0] RST)) (fun b => S0 b ∧ b < w.heap.size) A0 J l0 (.slice (some ⟨w.heap.size, 0, none⟩) 1 1) [(l0, 0, v)] []) := hide ⟨World.ownsRow_lit w #[v, .int .i64 0] 1 (Nat.le_refl _) (by decide) rfl, fun x hx => by
    rw [List.mem_singleton.1 hx]; exact hN1.old ba, fun x hx => by rw [List.mem_singleton.1 hx]; exact Nat.zero_le _, by rw [List.nil_append]; exact (restP_one l0 0).symm, V.frame _ _ _ _ (V.fresh _ _ _ _ hJ (fun b hb => by
      rcases hb with hb | hb
      · exact .inl hb
      · injection hb with hb
        have hb : b = w.heap.size := hb
        exact .inr (by omega))) (Upd.below ba), Upd.below ba, by simp⟩
  have HV := hide V
  have HA := hide (And.intro hA (And.intro hS hlen))
  subst hv
  clear V hN hN1 hA hS hJ hlen ba
  go_enter Tryz.func77, Tryz.ntmps77
  go_wp2_with fail
  generalize hW1 : w.alloc (.cells #[.slice va l0.length vcap, .int .i64 0] RST) = W1 at *
  go_loopg [5] (1 + 3 * (preL l0 0).length) (fun k sv wr => ∃ lv K vis, sv = lv ∧ K.length + 3 * (restP (K.map fun x => (x.1, x.2.1))).length ≤ k ∧ Hid (WInv w wr (fun b => S0 b ∧ b < w.heap.size) A0 J l0 lv K vis))
  case atStart => exact ⟨_, _, _, rfl, by rw [List.map_singleton, restP_one]; exact Nat.le_refl _, HW0⟩
  case round =>
    obtain ⟨lv, K, vis, hlv, hk, HI⟩ := hrel
    cases K with
    | nil =>
      obtain ⟨a, cap, hx⟩ : ∃ a cap, lv = .slice a 0 cap := by
        rcases (unhide HI).row.2 with ⟨hx, _⟩ | ⟨g, cap, cur, hx, _⟩
        · exact ⟨none, 0, hx⟩
        · exact ⟨_, cap, hx⟩
      subst hx
      subst hlv
      go_wp2
      go_ret
      have ht := (unhide HI).total
      rw [show restP (([] : List Ent).map fun x => (x.1, x.2.1)) = [] from rfl, List.append_nil] at ht
      refine ⟨(unhide HI).upd, .inl ⟨rfl, ?_⟩⟩
      rw [ht]
      exact (unhide HV).fresh _ _ _ _ (unhide HI).j (fun b hb => .inl (.inl hb))
    | cons x K =>
      obtain ⟨l, d, v⟩ := x
      obtain ⟨g, cap, hx, hcap, hgb, hgl, c0, c1, cf⟩ := (unhide HI).shape
      subst hx
      subst hlv
      cases l with
      | nil =>
        obtain ⟨a, c, hv⟩ := ((unhide HI).nodes _ List.mem_cons_self).shape
        dsimp only at hv c0 c1
        subst hv
        have c0 : wr.cell? ⟨g, K.length * 2, none⟩ = some (.slice a 0 c) := c0
        have HP := hide (unhide HI).pop
        rw [List.length_cons, List.map_cons, restP_nil] at hk
        clear HI cf
        have hkl : K.length ≤ 300000 := by have := (unhide HP).klen; have h2 := (unhide HP).total; have h3 := congrArg List.length h2; rw [List.length_append] at h3; have := (unhide HA).2.2; omega
        have HKN := hide hk
        clear hk
        generalize hkl2 : K.length = kl at *
        have i1 : (kl : Int) ≤ cap := by omega
        have i2 : (0 : Int) ≤ kl := by omega
        have i3 : (kl : Int) < kl + 1 := by omega
        have i4 : IntKind.i64.wrap (kl : Int) = kl := by rw [IntKind.wrap_i64]; omega
        have i5 : (0 : Int) < (kl : Int) + 1 := by omega
        go_wp2
        go_roundg (kl + 3 * (restP (K.map fun x => (x.1, x.2.1))).length)
        case measure => have := unhide HKN; omega
        case rel => exact ⟨_, K, vis, rfl, by rw [hkl2]; exact Nat.le_refl _, HP⟩
      | cons n l' =>
        obtain ⟨b, off, ncap, c, hv, hcap2, hmax, hS, hbl, hrng, hnode⟩ := ((unhide HI).nodes _ List.mem_cons_self).head
        dsimp only at hv c0 c1
        subst hv
        have hcl := NC.len hnode.st.size.1
        have HI2 := hide (And.intro hnode (And.intro hrng hbl))
        have hkl : K.length ≤ 300000 := by
          have h1 := (unhide HI).klen
          have h2 := congrArg List.length (unhide HI).total
          rw [List.length_append] at h2
          have h3 := (unhide HA).2.2
          rw [List.length_cons] at h1
          omega
        have HKN := hide hk
        have gb : ¬ g = b := by have := hS.2; omega
        have HCF := hide cf
        clear hk hnode cf hS
        generalize hkl2 : K.length = kl at *
        generalize hll : l'.length = ll at *
        have i1 : (kl : Int) ≤ cap := by omega
        have i2 : (0 : Int) ≤ kl := by omega
        have i3 : (kl : Int) < kl + 1 := by omega
        have i4 : IntKind.i64.wrap (kl : Int) = kl := by rw [IntKind.wrap_i64]; omega
        have i5 : (0 : Int) < (kl : Int) + 1 := by omega
        have i6 : ((ll : Int) + 1 == 0) = false := by rw [beq_eq_false_iff_ne]; omega
        have i7 : (0 : Int) < (ll : Int) + 1 := by omega
        have hgz : ∀ W : World, W.heap.size = wr.heap.size → g ≠ W.heap.size := fun W e => by omega
        go_upto_region 6 with (fail)
        have hZ : Below wr.heap.size wr (wr.alloc (.cells zeroND NDT)).drew := (alloc_below wr _).drew
        have HSZ : Hid ((wr.alloc (.cells zeroND NDT)).drew.cell? ⟨g, kl * 2, none⟩ = some (.slice (some ⟨b, off, none⟩) (ll + 1) ncap) ∧ (wr.alloc (.cells zeroND NDT)).drew.cell? ⟨g, kl * 2 + 1, none⟩ = some (.int .i64 d) ∧ (wr.alloc (.cells zeroND NDT)).drew.rangeAt b off c.cells) := hide ⟨(hZ.cell (p := ⟨g, kl * 2, none⟩) hgl).trans c0, (hZ.cell (p := ⟨g, kl * 2 + 1, none⟩) hgl).trans c1, range_keep hrng (hZ.block _ hbl)⟩
        have hthere : (wr.alloc (.cells zeroND NDT)).drew.there wr.heap.size 0 34 := fun j hj => by
          rw [Nat.zero_add]
          refine ⟨?_, by simp⟩
          show ((wr.alloc (.cells zeroND NDT)).cell? ⟨wr.heap.size, j, none⟩).isSome = true
          rw [cell_of_row _ _ j zeroND NDT (0, 0) (heap_alloc_last wr _), Array.getElem?_eq_getElem (show j < zeroND.size from hj)]
          rfl
        have HTH := hide hthere
        have HON : Hid (∀ v ∈ c.cells, v.oneCell' = true) := hide (unhide HI2).1.one
        have HS3 : Hid (((wr.alloc (.cells zeroND NDT)).drew.setCells wr.heap.size 0 c.cells).cell? ⟨g, kl * 2, none⟩ = some (.slice (some ⟨b, off, none⟩) (ll + 1) ncap) ∧ ((wr.alloc (.cells zeroND NDT)).drew.setCells wr.heap.size 0 c.cells).cell? ⟨g, kl * 2 + 1, none⟩ = some (.int .i64 d) ∧ ((wr.alloc (.cells zeroND NDT)).drew.setCells wr.heap.size 0 c.cells).rangeAt b off c.cells) := hide ⟨(World.cell?_of_block (a := ⟨g, kl * 2, none⟩) (heap_setCells _ _ (show g ≠ wr.heap.size by omega) _ _ _)).trans (unhide HSZ).1, (World.cell?_of_block (a := ⟨g, kl * 2 + 1, none⟩) (heap_setCells _ _ (show g ≠ wr.heap.size by omega) _ _ _)).trans (unhide HSZ).2.1, range_keep (unhide HSZ).2.2 (heap_setCells _ _ (show b ≠ wr.heap.size by omega) _ _ _)⟩
        have HW3 : Hid (Below wr.heap.size wr ((wr.alloc (.cells zeroND NDT)).drew.setCells wr.heap.size 0 c.cells) ∧ ((wr.alloc (.cells zeroND NDT)).drew.setCells wr.heap.size 0 c.cells).rangeAt wr.heap.size 0 c.cells ∧ wr.heap.size < ((wr.alloc (.cells zeroND NDT)).drew.setCells wr.heap.size 0 c.cells).heap.size) := hide (by
          obtain ⟨m1, m2, m3, m4⟩ := meta_setCells wr.heap.size c.cells 0 (wr.alloc (.cells zeroND NDT)).drew
          refine ⟨⟨m1.trans hZ.os, m2.trans hZ.tape, m3.trans hZ.output, by rw [m4]; exact hZ.size, fun q hq => (heap_setCells _ _ (by omega) _ _ _).trans (hZ.block q hq)⟩, World.rangeAt_setCells_same _ _ _ _ (by rw [hcl]; exact hthere), by rw [m4]; simp⟩)
        clear hZ hthere
        refine wp_regionE (fun W => W.cell? ⟨g, kl * 2, none⟩ = some (.slice (some ⟨b, off, none⟩) (ll + 1) ncap) ∧ W.cell? ⟨g, kl * 2 + 1, none⟩ = some (.int .i64 d) ∧ W.rangeAt b off c.cells) (fun _ => true) (by kernel_rfl) ⟨c0, c1, range_keep hrng rfl⟩ (fun hS => ?_)
        refine anyE_take 0 (v := ?_) rfl (by kernel_rfl) (by kernel_rfl) (by kernel_rfl) (by kernel_rfl) (fun _ _ _ h => h) hS (Or.inl ⟨by rfl, ?_⟩) ?_
        rotate_left
        · intro w' hS'
          obtain ⟨e1, e2, e3⟩ := hS'
          go_simp
          try with_reducible rfl
        try simp only [List.getElem_toArray, List.getElem_cons_zero, Act.put, List.setIfInBounds_toArray, List.set_cons_zero, List.set_cons_succ]
        refine anyE_take 1 (v := ?_) rfl (by kernel_rfl) (by kernel_rfl) (by kernel_rfl) (by kernel_rfl) (fun _ _ _ h => h) hS (Or.inl ⟨by rfl, ?_⟩) ?_
        rotate_left
        · intro w' hS'
          obtain ⟨e1, e2, e3⟩ := hS'
          go_simp
          try with_reducible rfl
        try simp only [List.getElem_toArray, List.getElem_cons_succ, List.getElem_cons_zero, Act.put, List.setIfInBounds_toArray, List.set_cons_zero, List.set_cons_succ]
        refine anyE_take 2 (v := ?_) rfl (by kernel_rfl) (by kernel_rfl) (by kernel_rfl) (by kernel_rfl) (fun _ _ _ h => h) hS (Or.inl ⟨by rfl, ?_⟩) ?_
        rotate_left
        · intro w' hS'
          obtain ⟨e1, e2, e3⟩ := hS'
          go_simp
          try with_reducible rfl
        try simp only [List.getElem_toArray, List.getElem_cons_succ, List.getElem_cons_zero, Act.put, List.setIfInBounds_toArray, List.set_cons_zero, List.set_cons_succ]
        refine anyE_take 3 (v := ?_) rfl (by kernel_rfl) (by kernel_rfl) (by kernel_rfl) (by kernel_rfl) (fun _ _ _ h => h) hS (Or.inl ⟨by rfl, ?_⟩) ?_
        rotate_left
        · intro w' hS'
          obtain ⟨e1, e2, e3⟩ := hS'
          go_simp
          try with_reducible rfl
        try simp only [List.getElem_toArray, List.getElem_cons_succ, List.getElem_cons_zero, Act.put, List.setIfInBounds_toArray, List.set_cons_zero, List.set_cons_succ]
        refine anyE_take 4 (v := ?_) rfl (by kernel_rfl) (by kernel_rfl) (by kernel_rfl) (by kernel_rfl) (fun _ _ _ h => h) hS (Or.inl ⟨by rfl, ?_⟩) ?_
        rotate_left
        · intro w' hS'
          obtain ⟨e1, e2, e3⟩ := hS'
          go_simp
          try with_reducible rfl
        try simp only [List.getElem_toArray, List.getElem_cons_succ, List.getElem_cons_zero, Act.put, List.setIfInBounds_toArray, List.set_cons_zero, List.set_cons_succ]
        refine anyE_take 5 (v := ?_) rfl (by kernel_rfl) (by kernel_rfl) (by kernel_rfl) (by kernel_rfl) (fun _ _ _ h => h) hS (Or.inl ⟨by rfl, ?_⟩) ?_
        rotate_left
        · intro w' hS'
          obtain ⟨e1, e2, e3⟩ := hS'
          go_simp
          try with_reducible rfl
        try simp only [List.getElem_toArray, List.getElem_cons_succ, List.getElem_cons_zero, Act.put, List.setIfInBounds_toArray, List.set_cons_zero, List.set_cons_succ]
        refine anyE_take 6 rfl (by kernel_rfl) (by kernel_rfl) (by kernel_rfl) (by kernel_rfl) (fun _ _ _ h => h) hS (yieldsN_load rfl (.tmp 33) rfl _ _ rfl c.cells hcl (fun _ h => h.2.2)) ?_
        try simp only [List.getElem_toArray, List.getElem_cons_succ, List.getElem_cons_zero, Act.put, List.setIfInBounds_toArray, List.set_cons_zero, List.set_cons_succ]
        refine anyE_take 7 (v := ?_) rfl (by kernel_rfl) (by kernel_rfl) (by kernel_rfl) (by kernel_rfl) (fun _ _ _ h => h) hS (Or.inl ⟨by rfl, ?_⟩) ?_
        rotate_left
        · intro w' hS'
          obtain ⟨e1, e2, e3⟩ := hS'
          go_simp
          try with_reducible rfl
        try simp only [List.getElem_toArray, List.getElem_cons_succ, List.getElem_cons_zero, Act.put, List.setIfInBounds_toArray, List.set_cons_zero, List.set_cons_succ]
        refine anyE_take 8 (v := ?_) rfl (by kernel_rfl) (by kernel_rfl) (by kernel_rfl) (by kernel_rfl) (fun _ _ _ h => h) hS (Or.inl ⟨by rfl, ?_⟩) ?_
        rotate_left
        · intro w' hS'
          obtain ⟨e1, e2, e3⟩ := hS'
          go_simp
          try with_reducible rfl
        try simp only [List.getElem_toArray, List.getElem_cons_succ, List.getElem_cons_zero, Act.put, List.setIfInBounds_toArray, List.set_cons_zero, List.set_cons_succ]
        refine anyE_take 9 (v := ?_) rfl (by kernel_rfl) (by kernel_rfl) (by kernel_rfl) (by kernel_rfl) (fun _ _ _ h => h) hS (Or.inl ⟨by rfl, ?_⟩) ?_
        rotate_left
        · intro w' hS'
          obtain ⟨e1, e2, e3⟩ := hS'
          go_simp
          try with_reducible rfl
        try simp only [List.getElem_toArray, List.getElem_cons_succ, List.getElem_cons_zero, Act.put, List.setIfInBounds_toArray, List.set_cons_zero, List.set_cons_succ]
        refine anyE_take 10 (v := ?_) rfl (by kernel_rfl) (by kernel_rfl) (by kernel_rfl) (by kernel_rfl) (fun _ _ _ h => h) hS (Or.inl ⟨by rfl, ?_⟩) ?_
        rotate_left
        · intro w' hS'
          obtain ⟨e1, e2, e3⟩ := hS'
          go_simp
          try with_reducible rfl
        try simp only [List.getElem_toArray, List.getElem_cons_succ, List.getElem_cons_zero, Act.put, List.setIfInBounds_toArray, List.set_cons_zero, List.set_cons_succ]
        refine anyE_take 11 (v := ?_) rfl (by kernel_rfl) (by kernel_rfl) (by kernel_rfl) (by kernel_rfl) (fun _ _ _ h => h) hS (Or.inl ⟨by rfl, ?_⟩) ?_
        rotate_left
        · intro w' hS'
          obtain ⟨e1, e2, e3⟩ := hS'
          go_simp
          try with_reducible rfl
        try simp only [List.getElem_toArray, List.getElem_cons_succ, List.getElem_cons_zero, Act.put, List.setIfInBounds_toArray, List.set_cons_zero, List.set_cons_succ]
        refine anyE_ready [12] (by kernel_rfl) (by simp) (ReadyE.cons rfl (fun K' hK => ?_) ReadyE.nil)
        go_simp
        refine hK _ _ (fun _ => unhide HSZ) ?_
        clear hK K'
        try simp only [List.getElem_toArray, List.getElem_cons_succ, List.getElem_cons_zero, Act.put, List.setIfInBounds_toArray, List.set_cons_zero, List.set_cons_succ]
        refine anyE_ready [13] (by kernel_rfl) (by simp) (ReadyE.cons rfl (fun K' hK => ?_) ReadyE.nil)
        refine stepN_store rfl _ _ rfl _ _ _ rfl rfl (unhide HTH) hcl (unhide HON) ?_
        refine hK _ _ (fun _ => unhide HS3) ?_
        clear hK K' hS
        try simp only [List.getElem_toArray, List.getElem_cons_succ, List.getElem_cons_zero, Act.put]
        have hS := unhide HS3
        refine anyE_take 14 (v := ?_) rfl (by kernel_rfl) (by kernel_rfl) (by kernel_rfl) (by kernel_rfl) (fun _ _ _ h => h) hS (Or.inl ⟨by rfl, ?_⟩) ?_
        rotate_left
        · intro w' hS'
          obtain ⟨e1, e2, e3⟩ := hS'
          go_simp
          try with_reducible rfl
        try simp only [List.getElem_toArray, List.getElem_cons_succ, List.getElem_cons_zero, Act.put, List.setIfInBounds_toArray, List.set_cons_zero, List.set_cons_succ]
        refine anyE_done (by kernel_rfl) ?_ _
        refine at_worldN (F := fun W => Below wr.heap.size wr W ∧ W.rangeAt wr.heap.size 0 c.cells ∧ wr.heap.size < W.heap.size) (unhide HW3) ?_
        intro W3 hW3
        have HB3 := hide hW3
        have d0 := (hW3.1.cell (p := ⟨g, kl * 2, none⟩) hgl).trans c0
        have d1 := (hW3.1.cell (p := ⟨g, kl * 2 + 1, none⟩) hgl).trans c1
        have df := (hW3.1.frozen (p := ⟨g, kl * 2, none⟩) hgl).trans (unhide HCF (kl * 2))
        clear hW3 HSZ HTH HS3 HW3 hS hrng c0 c1
        have i8 : (ll : Int) + 1 ≤ ncap := by omega
        have i9 : (1 : Int) ≤ (ll : Int) + 1 := by omega
        go_upto_region 8 with (fail)
        obtain ⟨TV, hTV⟩ : ∃ TV, TV = Value.slice (if ncap = 1 then some ⟨b, off, none⟩ else some ⟨b, off + 34, none⟩) ll (ncap - 1) := ⟨_, rfl⟩
        rw [← hTV]
        subst hll
        have hT1 := WInv.take1 (unhide HV) (by rw [← hkl2] at HI; exact unhide HI) (unhide HI2).1 hgb (fun q h => h.2) (unhide HA).1 (unhide HB3).1 (unhide HB3).2.2 (unhide HB3).2.1 TV hTV
        rw [hkl2] at hT1
        have HT1 := hide hT1
        have hvis : vis.length + 1 ≤ 100000 := by
          have h2 := congrArg List.length (unhide HI).total
          rw [List.map_cons, restP_cons, List.length_append, List.length_cons] at h2
          have := (unhide HA).2.2
          omega
        have hdv : d ≤ vis.length := (unhide HI).deep _ List.mem_cons_self
        clear hT1 d0 d1 df
        have HQ := hide (And.intro hvis (And.intro hdv hTV))
        generalize W3.setCell ⟨g, kl * 2, none⟩ TV = W4 at *
        have hrg4 := (unhide HT1).2.2.2.2.2.2.1
        have HC := hide ((unhide HV).call vis _ W4 n d c (unhide HT1).2.2.2.2.1 (fun q h => .inl ((unhide HA).2.1 q h.1 h.2)) (unhide HT1).2.2.2.1 (by omega) (by omega) ⟨_, by have ht := (unhide HI).total; rw [List.map_cons, restP_cons] at ht; exact ht⟩)
        clear hTV
        have hen := (unhide HV).enter
        go_wp2_with (first | (refine wpListN_load rfl _ rfl _ _ rfl _ hcl hrg4 ?_))
        clear hen
        refine (unhide HC).mono ?_
        rintro e W5 ⟨r, rfl, hU, hT, hF⟩
        cases r with
        | false =>
          have HF := hide (And.intro hU (hF rfl))
          clear hU hT hF
          go_wp2
          go_ret
          have ht := (unhide HI).total
          rw [List.map_cons, restP_cons] at ht
          exact ⟨(unhide HT1).2.2.2.2.2.1.trans ((unhide HF).1.mono (fun q _ h hx => h (.inl hx))), .inr ⟨rfl, vis ++ [(n, d)], _, by rw [ht, List.append_assoc]; rfl, (unhide HV).endLess _ _ _ _ (unhide HF).2 (fun q hq => .inl hq)⟩⟩
        | true =>
          have HF := hide (And.intro hU (hT rfl))
          clear hU hT hF
          obtain ⟨hrow4, htl4, hK4, hn4, hj4, hu4, hr4, hq4, hgq⟩ := unhide HT1
          have hin : ∀ q, ((fun b => S0 b ∧ b < w.heap.size) q) → ¬ ¬ (A0 q ∨ q = g ∨ q = wr.heap.size) := fun q h hx => hx (.inl ((unhide HA).2.1 q h.1 h.2))
          have hU := (unhide HF).1
          have hr5 : W5.rangeAt wr.heap.size 0 c.cells := range_keep hr4 (hU.block _ hq4 (fun hx => hx (.inr (.inr rfl))))
          have hrow5 : W5.ownsRow w.heap.size RST 2 (.slice (some ⟨g, 0, none⟩) (kl + 1) cap) (kl + 1) (flatQ ((l', d, TV) :: K).reverse) := ownsRow_of hrow4 (fun k hk => by
            have : g = k := Option.some.inj hk
            subst this
            exact hU.block g (by omega) (fun hx => hx (.inr (.inl rfl))))
          have hn5 : Node1 W5 (fun b => S0 b ∧ b < w.heap.size) c n := hn4.keep (fun q hq hl => hU.block q hl (hin q hq)) (fun _ h _ => h)
          obtain ⟨q0, q1, q2, q3, q4, q5⟩ := cells_at c hn5.st.size.1
          obtain ⟨ba, bc, hbv⟩ := hn5.body.shape
          obtain ⟨ea, ec, hev⟩ := hn5.els.shape
          have m31 := hr5 31 _ q3
          have m32 := hr5 32 _ q4
          rw [Nat.zero_add] at m31 m32
          have hU5 : Upd (fun b => ¬ A0 b) w W5 := hu4.trans (hU.mono (fun q _ h hx => h (.inl hx)))
          have ht := (unhide HI).total
          rw [List.map_cons, restP_cons] at ht
          have hlv : (vis ++ [(n, d)]).length = vis.length + 1 := by simp
          have hkl0 := (unhide HI).klen
          rw [List.length_cons, hkl2] at hkl0
          have hdeep := (unhide HI).deep
          rw [← hkl2] at hrow5
          obtain ⟨v', w9, hr9, hW9⟩ := WInv.push2 (g := g) (q := wr.heap.size) (n := n) (l' := l') (d := d) (tv := TV) (unhide HV) hrow5 hn5.body hn5.els (htl4.upd hU hin) (fun x hx => (hK4 x hx).upd hU hin) hgb (fun q h => h.2) (fun x hx => by rw [hlv]; have := hdeep x (List.mem_cons_of_mem _ hx); omega) (by rw [hlv]; have := (unhide HQ).2.1; omega) (by rw [ht, List.append_assoc]; rfl) (unhide HF).2 hU5 (unhide HA).1 (by rw [hlv, hkl2]; omega) (by rw [hlv]; omega)
          rw [hkl2, hbv, hev] at hr9
          rw [hbv] at m31
          rw [hev] at m32
          have HW9 := hide hW9
          have HMS : Hid ((((n.body, d + 1, c.bv) :: (n.els, d + 1, c.ev) :: (l', d, TV) :: K : List Ent).length + 3 * (restP (((n.body, d + 1, c.bv) :: (n.els, d + 1, c.ev) :: (l', d, TV) :: K : List Ent).map fun x => (x.1, x.2.1))).length) < gk) := hide (by
            have h5 : K.length + 1 + 3 * ((restP ((n.body, d + 1) :: (n.els, d + 1) :: (l', d) :: K.map fun x => (x.1, x.2.1))).length + 1) ≤ gk := by
              have h6 := unhide HKN
              rw [List.map_cons, restP_cons, List.length_cons, List.length_cons] at h6
              exact h6
            show K.length + 1 + 1 + 1 + 3 * (restP ((n.body, d + 1) :: (n.els, d + 1) :: (l', d) :: K.map fun x => (x.1, x.2.1))).length < gk
            omega)
          have hsv : ∀ (o : Nat), o = o := fun _ => rfl
          clear hrow4 htl4 hK4 hn4 hj4 hu4 hr4 hq4 hgq hin hU hr5 hrow5 hn5 q0 q1 q2 q3 q4 q5 hU5 ht hlv hkl0 hdeep hW9 hsv HT1 HC HI2 hrg4
          have hd1 : (d : Int) + 1 ≤ 9223372036854775807 := by omega
          have hkk1 : kl + 1 ≤ 1000000 := by omega
          have HR9 := hide hr9
          clear hr9
          go_wp2_with (at_builtin; refine wpList_append_runG RSS rfl _ _ rfl rfl _ _ rfl rfl _ _ (unhide HR9) ?_)
          go_roundg ((((n.body, d + 1, c.bv) :: (n.els, d + 1, c.ev) :: (l', d, TV) :: K : List Ent).length + 3 * (restP (((n.body, d + 1, c.bv) :: (n.els, d + 1, c.ev) :: (l', d, TV) :: K : List Ent).map fun x => (x.1, x.2.1))).length))
          case measure => exact unhide HMS
          case rel => exact ⟨_, _, vis ++ [(n, d)], rfl, Nat.le_refl _, HW9⟩
end Go.Proofs.YthkbchefjagbbaaGreatDoor.Line

namespace Go.Proofs.YthkbchefjagbbaaGreatDoor.Line
open Go.ChangeShapes Go.WideShapes Go.ChangeAt Go.RowKit
open Ex (E St)
set_option linter.unusedVariables false

theorem upd_below {X : Nat → Prop} {w w1 w2 : World} (hb : Below w.heap.size w w1) (hu : Upd X w1 w2) (hx : ∀ b, b < w.heap.size → ¬ X b) : Below w.heap.size w w2 :=
  ⟨hu.os.trans hb.os, hu.tape.trans hb.tape, hu.output.trans hb.output, Nat.le_trans hb.size hu.size, fun b hl => (hu.block b (Nat.lt_of_lt_of_le hl hb.size) (hx b hl)).trans (hb.block b hl)⟩
/-- so many were told -/
structure JCnt (cb : Nat) (vis : List (PN × Nat)) (A : Nat → Prop) (W : World) : Prop where
  na : ¬ A cb
  cell : W.cell? ⟨cb, 0, none⟩ = some (.int .i64 vis.length)
  fr : W.frozen? ⟨cb, 0, none⟩ = false
theorem enter_of {f : FuncId} {fn : Func} {c : Code} (hf : Tryz.prog.funcs[f]? = some fn) (hname : (fn.name == "runtime.NumGoroutine") = false) (hb : fn.body = some c) (args : Array Value) (w : World) : (callFunc f args).run Tryz.prog w = .ok (.enter f args) w := by
  have h1 : fn.name ≠ "runtime.NumGoroutine" := by simpa using hname
  simp [callFunc, hf, h1, hb]
theorem enter_count (args : Array Value) (W : World) : (callFunc 82 args).run Tryz.prog W = .ok (.enter 82 args) W := enter_of Tryz.func82 (by kernel_rfl) rfl args W
set_option maxHeartbeats 4000000 in
theorem count_call (cb : Nat) (vis : List (PN × Nat)) (A S : Nat → Prop) (W : World) (n : PN) (d : Nat) (c : NC) (hJ : JCnt cb vis A W) (hn : Node1 W S c n) (hv : vis.length ≤ 1000000) :
    Calls Tryz.prog 82 #[.agg c.cells.toArray, .int .i64 d, .pointer (some ⟨cb, 0, none⟩)] W fun e W' => ∃ r, e = .returned (.bool r) ∧ Upd (fun b => ¬ A b) W W' ∧ (r = true → JCnt cb (vis ++ [(n, d)]) A W') ∧ (r = false → False) := by
  obtain ⟨hna, hc, hf⟩ := hJ
  have hcl := cell_lt hc
  have ba := alloc_below W (.cells c.cells.toArray 85)
  have c1 := (ba.cell (p := ⟨cb, 0, none⟩) hcl).trans hc
  have f1 := (ba.frozen (p := ⟨cb, 0, none⟩) hcl).trans hf
  have i1 : IntKind.i64.wrap ((vis.length : Int) + 1) = vis.length + 1 := by rw [IntKind.wrap_i64]; omega
  have HB := hide ba
  clear ba
  go_enter Tryz.func82, Tryz.ntmps82
  go_wp2_with fail
  go_ret
  have hb2 := alloc_below (W.setCell ⟨cb, 0, none⟩ (.int .i64 ((vis.length : Int) + 1))) (.cells c.cells.toArray 85)
  have hcs := World.cell?_setCell_same W ⟨cb, 0, none⟩ (.int .i64 ((vis.length : Int) + 1)) hc
  refine ⟨true, rfl, (Upd.set _ _ _ hna).trans (Upd.below hb2), fun _ => ⟨hna, ?_, ?_⟩, fun h => by cases h⟩
  · rw [hb2.cell (p := ⟨cb, 0, none⟩) (cell_lt hcs), hcs]
    simp
  · rw [hb2.frozen (p := ⟨cb, 0, none⟩) (cell_lt hcs), World.frozen?_setCell]; exact hf
theorem vis_count (cb : Nat) (L0 : List (PN × Nat)) (S : Nat → Prop) : Visitor 82 #[.pointer (some ⟨cb, 0, none⟩)] L0 S (JCnt cb) (fun _ _ _ => False) :=
  ⟨fun vis A W W' h hu => ⟨h.na, (World.cell?_of_block (a := ⟨cb, 0, none⟩) (hu.block cb (cell_lt h.cell) h.na)).trans h.cell, (World.frozen?_of_block (a := ⟨cb, 0, none⟩) (hu.block cb (cell_lt h.cell) h.na)).trans h.fr⟩,
   fun vis A A' W h hs => ⟨fun hb => (hs cb hb).elim h.na (fun hl => by have := cell_lt h.cell; omega), h.cell, h.fr⟩,
   enter_count, fun _ _ _ _ h _ => h,
   fun vis A W n d c hJ hS hn hd hv _ => count_call cb vis A S W n d c hJ hn hv⟩
set_option maxHeartbeats 4000000 in
theorem count_any (w : World) (S : Nat → Prop) (l : List PN) (v : Value) (h : Nodes w S l v) (hlen : (preL l 0).length ≤ 100000) :
    Calls Tryz.prog 38 #[v] w fun e w' => e = .returned (.int .i64 (preL l 0).length) ∧ Below w.heap.size w w' := by
  obtain ⟨va, vc, hv⟩ := h.shape
  have ba := alloc_below w (.cells #[.int .i64 0] 3)
  have s1 : (w.alloc (.cells #[.int .i64 0] 3)).heap.size = w.heap.size + 1 := by simp
  have hB : (w.alloc (.cells #[.int .i64 0] 3)).heap[w.heap.size]? = some (.cells #[.int .i64 0] 3 (0, 0)) := heap_alloc_new w _
  have hc : (w.alloc (.cells #[.int .i64 0] 3)).cell? ⟨w.heap.size, 0, none⟩ = some (.int .i64 0) := by unfold World.cell?; rw [hB]; rfl
  have hf : (w.alloc (.cells #[.int .i64 0] 3)).frozen? ⟨w.heap.size, 0, none⟩ = false := by unfold World.frozen?; rw [hB]; rfl
  have hN : Nodes (w.alloc (.cells #[.int .i64 0] 3)) (fun b => S b ∧ b < w.heap.size) l v := h.keep (fun b _ hl => ba.block b hl) (fun b hb hl => ⟨hb, hl⟩)
  have HW := hide (walk_any (F := 82) (S0 := fun b => S b ∧ b < w.heap.size) (A0 := fun b => b < w.heap.size) (w.alloc (.cells #[.int .i64 0] 3)) l (vis_count w.heap.size _ _) v hN (fun b hb => by omega) (fun b hb _ => hb.2) ⟨Nat.lt_irrefl _, hc, hf⟩ hlen)
  subst hv
  have HB := hide (And.intro ba s1)
  clear ba s1 hN h
  go_enter Tryz.func38, Tryz.ntmps38
  go_wp2_with fail
  refine (unhide HW).mono ?_
  rintro e w2 ⟨hu, ⟨rfl, hJ⟩ | ⟨rfl, vis, rest, _, hx⟩⟩
  · have c2 := hJ.cell
    have HU := hide (upd_below (unhide HB).1 hu (fun b hb h => h hb))
    clear hu hJ
    go_wp2
    go_ret
    exact ⟨rfl, unhide HU⟩
  · exact hx.elim
end Go.Proofs.YthkbchefjagbbaaGreatDoor.Line
