/- StmtItems, walked. -/
import Derived.Test.YthkbchefjagbbaaGreatDoorPlainMk
import Derived.Test.YthkbchefjagbbaaGreatDoorKnSixA
import Derived.Test.YthkbchefjagbbaaGreatDoorRegE
import Derived.Test.YthkbchefjagbbaaGreatDoorTokRef
namespace Go.Proofs.YthkbchefjagbbaaGreatDoor.Line
open Go.ChangeShapes Go.WideShapes Go.ChangeAt Go.RowKit
open Ex (E St)
set_option linter.unusedVariables false

theorem undS1 : ∃ d, Tryz.prog.underlying STT = some d ∧ d.isRow = true := ⟨_, Tryz.underlying67, rfl⟩
/-- a load of a whole statement yields the same in every world that has it -/
theorem yieldsS_load (t : TypeId) (hd : ∃ d, Tryz.prog.underlying t = some d ∧ d.isRow = true) (hsz : (Tryz.prog.info? t).map (·.size) = some 29) {ops : Array Oper} {S : World → Prop} {op : Oper} {a : Act} (hw : Region.wanted op (yielded ops a.tmps) = true) (x : Operand) (ho : op.op = .load t x) (b o : Nat) (hx : a.eval x = .pointer (some ⟨b, o, none⟩)) (cs : List Value) (hl : cs.length = 29) (hS : ∀ w, S w → w.rangeAt b o cs) :
    YieldsIf Tryz.prog ops S op (.agg cs.toArray) a := by
  obtain ⟨d, hu, hd⟩ := hd
  exact yieldsIf_load_mid hw t x ho b o hx cs d hS hu hd (by rw [hl]; exact hsz)
theorem items_below {base : Nat} {w w' : World} {v : Value} {M : List Itm} (h : ItemsAt base w v M) (hb : Below w.heap.size w w') : ItemsAt base w' v M := ⟨ownsRow_below h.own hb, fun x hx => (h.dims x hx).below hb⟩
theorem okItem_of {x : List UInt8 × List Nat} (h : ItOk x ∧ SizeOk x) : OkItem x := ⟨fun n hn => by have := h.1.2.2 n hn; omega, h.2.1, by have := h.1.1.2.2; omega⟩
theorem tab_below {w w' : World} (h : Tab w) (hb : Below w.heap.size w w') : Tab w' := by
  obtain ⟨t, f, h⟩ := h
  refine ⟨t, f, (hb.block _ ?_).trans h⟩
  rcases Nat.lt_or_ge 2 w.heap.size with h' | h'
  · exact h'
  · rw [Array.getElem?_eq_none h'] at h; cases h
def TwoR (q1 : Nat) (c1 : List Value) (q2 : Nat) (c2 : List Value) (W : World) : Prop := W.rangeAt q1 0 c1 ∧ W.rangeAt q2 0 c2 ∧ q1 < W.heap.size ∧ q2 < W.heap.size
theorem TwoR.below {q1 q2 : Nat} {c1 c2 : List Value} {W W' : World} (h : TwoR q1 c1 q2 c2 W) (hb : Below W.heap.size W W') : TwoR q1 c1 q2 c2 W' :=
  ⟨range_of h.1 (hb.block q1 h.2.2.1), range_of h.2.1 (hb.block q2 h.2.2.2), Nat.lt_of_lt_of_le h.2.2.1 hb.size, Nat.lt_of_lt_of_le h.2.2.2 hb.size⟩
theorem range_ltS {W : World} {q : Nat} {v : Value} {l : List Value} (h : W.rangeAt q 0 (v :: l)) : q < W.heap.size := cell_lt (h 0 v rfl)
set_option maxHeartbeats 16000000 in
set_option maxRecDepth 100000 in
theorem stmtItems_walk (v : Value) (M : List (List Nat)) (w : World) (hM : Rw w v M) (hG : Glob w) (hT : Tab w) : Calls Tryz.prog 4 #[v] w fun e w' => e = .returned (.bool true) ∧ Below w.heap.size w w' := by
  have HKN := hide (known6_any w hG hT)
  have HG := hide (And.intro hG hT)
  have HM := hide hM
  obtain ⟨va, vc, hv⟩ := hM.shape
  subst hv
  clear hG hT hM
  obtain ⟨n, hn⟩ : ∃ n, M.length = n := ⟨_, rfl⟩
  have HN := hide hn
  rw [hn] at HM ⊢
  clear hn
  go_enter Tryz.func4, Tryz.ntmps4
  go_wp2_with fail
  refine (unhide HKN).mono ?_
  rintro e w1 ⟨rfl, hb1⟩
  have HB1 := hide hb1
  clear hb1
  by_cases h1 : n < 1
  · have i1 : (n : Int) < 1 := by omega
    go_wp2_with fail
    go_ret
    exact ⟨rfl, unhide HB1⟩
  by_cases h8 : 8 < n
  · have i1 : ¬ (n : Int) < 1 := by omega
    have i2 : (8 : Int) < n := by omega
    go_wp2_with fail
    go_ret
    exact ⟨rfl, unhide HB1⟩
  have i1 : ¬ (n : Int) < 1 := by omega
  have i2 : ¬ (8 : Int) < n := by omega
  go_wp2_with (first | (refine wpListS_storeNew rfl _ _ rfl _ _ w1.heap.size rfl rfl rfl rfl rfl (by kernel_rfl) ?_))
  have HL0 := hide (LI.start w1 M)
  generalize w1.alloc (.cells (rfV (.slice none 0 0)) RST2) = W1 at *
  go_loopw [4] (fun i wr => ∃ (j : Nat) (xv : Value) (its : List Itr), i = .int .i64 j ∧ j ≤ n ∧ Hid (LI w1 w1.heap.size M j wr xv its)) (fun i _ => n - (intOf i).toNat)
  case atStart => exact ⟨0, _, _, rfl, Nat.zero_le _, HL0⟩
  case round =>
    clear HL0
    obtain ⟨j, xv, its, rfl, hj, HL⟩ := hrel
    by_cases hlt : j < n
    · have i3 : (j : Int) < n := by omega
      have hjl : j < M.length := by rw [unhide HN]; exact hlt
      obtain ⟨D, hD⟩ : ∃ D, M[j] = D := ⟨_, rfl⟩
      have HMJ : Hid (M[j]? = some D) := hide (by rw [List.getElem?_eq_getElem hjl, hD])
      have HBW : Hid (Below w.heap.size w wr) := hide (by have h := (unhide HL).old; exact bthen (unhide HB1) h)
      have hrw : ∃ b off x a c, va = some ⟨b, off, none⟩ ∧ n ≤ vc ∧ wr.cell? ⟨b, off + j, none⟩ = some x ∧ x = .slice a D.length c ∧ RwE wr x D := by
        rcases (unhide HM).below (unhide HBW) with ⟨a, c, _, h0⟩ | ⟨b, off, c, e, hc, h⟩
        · rw [h0] at hjl; simp at hjl
        · injection e with e1 e2 e3
          obtain ⟨x, h1, h2⟩ := h j hjl
          rw [hD] at h2
          obtain ⟨a, c', hx⟩ := h2.shape
          exact ⟨b, off, x, a, c', e1, by omega, h1, hx, h2⟩
      obtain ⟨ab, aoff, x, xa, xc, hva, hnc, hxc, hxs, hxe⟩ := hrw
      subst hva
      subst hxs
      have HXE := hide hxe
      obtain ⟨dl, hdl⟩ : ∃ dl, D.length = dl := ⟨_, rfl⟩
      have HDL := hide hdl
      rw [hdl] at hxc HXE
      clear hxe hdl hD hjl
      by_cases h4 : 4 < dl
      · have i4 : (4 : Int) < dl := by omega
        go_wp2_with fail
        go_ret
        exact ⟨rfl, unhide HBW⟩
      have i4 : ¬ (4 : Int) < dl := by omega
      have HDC := hide (fun W => decimal_any j (by omega) W)
      have hdc := dec_len j (by omega)
      have c1 : (⟨#[118]⟩ : ByteArray) ++ ⟨(Words.dec j).toArray⟩ = ⟨(nmI j).toArray⟩ := cat2 [118] _
      generalize Words.dec j = dj at *
      go_wp2_with fail
      refine (unhide HDC _).mono ?_
      rintro e w2 ⟨rfl, hb2⟩
      have HB2 := hide hb2
      clear hb2
      go_wp2_with fail
      have HL2 := hide ((unhide HL).keep (unhide HB2))
      have HXC := hide (((unhide HB2).cell (p := ⟨ab, aoff + j, none⟩) (cell_lt hxc)).trans hxc)
      have HXE2 := hide ((unhide HXE).below (unhide HB2))
      have HBW2 : Hid (Below w.heap.size w w2) := hide (bthen (unhide HBW) (unhide HB2))
      have HLD := hide (LD.start w2 (nmI j) D)
      clear hxc HXE HL HDC hdc c1 HBW HB2
      go_loopw [6] (fun k wv => ∃ (q : Nat) (dv : Value), k = .int .i64 q ∧ q ≤ dl ∧ Hid (LD (w2.alloc (.cells #[.string ⟨(nmI j).toArray⟩, .slice none 0 0] RIT)) w2.heap.size (nmI j) D q wv dv)) (fun k _ => dl - (intOf k).toNat)
      case atStart => exact ⟨0, _, rfl, Nat.zero_le _, HLD⟩
      case round =>
        clear HLD
        obtain ⟨q, dv, rfl, hq, HLD⟩ := hrel
        have hbl := (unhide HLD).below
        have hxc := (hbl.cell (p := ⟨ab, aoff + j, none⟩) (cell_lt (unhide HXC))).trans (unhide HXC)
        have hxe := (unhide HXE2).below hbl
        by_cases hlq : q < dl
        · have i5 : (q : Int) < dl := by omega
          have hqD : q < D.length := by rw [unhide HDL]; exact hlq
          obtain ⟨xg, xo, hxa, hxl, hxq, hd5, hxg⟩ : ∃ g o, xa = some ⟨g, o, none⟩ ∧ dl ≤ xc ∧ wr.cell? ⟨g, o + q, none⟩ = some (.int .u16 ((D[q] : Nat) : Int)) ∧ D[q] ≤ 65535 ∧ g < w2.heap.size := by
            have hd5 := hxe.1 D[q] (List.getElem_mem _)
            rcases (unhide HXE2).2 with ⟨a, c, _, h0⟩ | ⟨g, o, c, e, hc, h⟩
            · rw [h0] at hqD; simp at hqD
            · injection e with e1 e2 e3
              exact ⟨g, o, e1, by omega, (hbl.cell (p := ⟨g, o + q, none⟩) (cell_lt (h q hqD))).trans (h q hqD), hd5, cell_lt (h q hqD)⟩
          subst hxa
          have hdr : Below wr.heap.size wr wr.drew := below_drewN (Below.refl _ _) 1
          obtain ⟨v', w9, hr9, hld9, k1, k2, hB9⟩ := (unhide HLD).step hdr hqD (by rw [unhide HDL]; omega)
          have HR9 := hide hr9
          have HN9 := hide hld9
          obtain ⟨na, nn, nc, hv9⟩ : ∃ a n c, v' = .slice a n c := by
            obtain ⟨a, c, e⟩ := hld9.own.shape
            exact ⟨a, _, c, e⟩
          have hbc := (unhide HLD).c1
          obtain ⟨da, dn, dc, hdv⟩ : ∃ a n c, dv = .slice a n c := by
            obtain ⟨a, c, e⟩ := (unhide HLD).own.shape
            exact ⟨a, _, c, e⟩
          generalize hdq : D[q] = d at *
          generalize hd1 : d + 1 = d1 at *
          subst hdv
          subst hv9
          have HK := hide (And.intro k1 k2)
          have ha1 := alloc_below wr.drew (.cells #[.int .i64 ((d1 : Nat) : Int)] I64)
          have c0d : wr.drew.cell? ⟨w2.heap.size, 1, none⟩ = some (.slice da dn dc) := hbc
          have c1d : wr.drew.cell? ⟨ab, aoff + j, none⟩ = some (.slice (some ⟨xg, xo, none⟩) dl xc) := hxc
          have c2d : wr.drew.cell? ⟨xg, xo + q, none⟩ = some (.int .u16 (d : Int)) := hxq
          have HSZ := hide (And.intro ((ha1.cell (p := ⟨w2.heap.size, 1, none⟩) (cell_lt c0d)).trans c0d) (And.intro ((ha1.cell (p := ⟨ab, aoff + j, none⟩) (cell_lt c1d)).trans c1d) ((ha1.cell (p := ⟨xg, xo + q, none⟩) (cell_lt c2d)).trans c2d)))
          have i6 : (d : Int) ≤ 65535 := by omega
          have i7 : (0 : Int) ≤ d := by omega
          have i8 : IntKind.i64.wrap ((1 : Int) + d) = ((d1 : Nat) : Int) := by rw [IntKind.wrap_i64]; omega
          have i9 : IntKind.i64.wrap (d : Int) = d := by rw [IntKind.wrap_i64]; omega
          have hdl2 := (unhide HLD).below.size
          have HS9 := hide (And.intro k1 (And.intro ((hB9.cell (p := ⟨ab, aoff + j, none⟩) (by have := cell_lt (unhide HXC); show ab < _; have : ab < w2.heap.size := this; omega)).trans c1d) ((hB9.cell (p := ⟨xg, xo + q, none⟩) (by have h1 := hxg; show xg < _; omega)).trans c2d)))
          clear hd1 hld9 hr9 k1 k2 hB9 hdl2 hxg hbl hxe hqD hdr ha1 hdq
          go_wp2_with fail
          clear hbc hxc hxq
          refine wp_regionE (fun W => W.cell? ⟨w2.heap.size, 1, none⟩ = some (.slice da dn dc) ∧ W.cell? ⟨ab, aoff + j, none⟩ = some (.slice (some ⟨xg, xo, none⟩) dl xc) ∧ W.cell? ⟨xg, xo + q, none⟩ = some (.int .u16 (d : Int))) (fun j => decide (j < 14)) (by kernel_rfl) ⟨c0d, c1d, c2d⟩ (fun hS => ?_)
          clear c0d c1d c2d
          refine anyE_take 0 (v := ?_) rfl (by kernel_rfl) (by kernel_rfl) (by kernel_rfl) (by kernel_rfl) (fun _ _ _ h => h) hS (Or.inl ⟨by rfl, ?_⟩) ?_
          rotate_left
          · intro w' hS'
            obtain ⟨e1, e2, e3⟩ := hS'
            go_simp
            try with_reducible rfl
          try simp only [List.getElem_toArray, List.getElem_cons_zero, Act.put, List.setIfInBounds_toArray, List.set_cons_zero, List.set_cons_succ]
          refine anyE_take 1 (v := ?_) rfl (by kernel_rfl) (by kernel_rfl) (by kernel_rfl) (by kernel_rfl) (fun _ _ _ h => h) hS (Or.inl ⟨by rfl, ?_⟩) ?_
          rotate_left
          · intro w' hS'
            obtain ⟨e1, e2, e3⟩ := hS'
            go_simp
            try with_reducible rfl
          try simp only [List.getElem_toArray, List.getElem_cons_succ, List.getElem_cons_zero, Act.put, List.setIfInBounds_toArray, List.set_cons_zero, List.set_cons_succ]
          refine anyE_take 2 (v := ?_) rfl (by kernel_rfl) (by kernel_rfl) (by kernel_rfl) (by kernel_rfl) (fun _ _ _ h => h) hS (Or.inl ⟨by rfl, ?_⟩) ?_
          rotate_left
          · intro w' hS'
            obtain ⟨e1, e2, e3⟩ := hS'
            go_simp
            try with_reducible rfl
          try simp only [List.getElem_toArray, List.getElem_cons_succ, List.getElem_cons_zero, Act.put, List.setIfInBounds_toArray, List.set_cons_zero, List.set_cons_succ]
          refine anyE_take 3 (v := ?_) rfl (by kernel_rfl) (by kernel_rfl) (by kernel_rfl) (by kernel_rfl) (fun _ _ _ h => h) hS (Or.inl ⟨by rfl, ?_⟩) ?_
          rotate_left
          · intro w' hS'
            obtain ⟨e1, e2, e3⟩ := hS'
            go_simp
            try with_reducible rfl
          try simp only [List.getElem_toArray, List.getElem_cons_succ, List.getElem_cons_zero, Act.put, List.setIfInBounds_toArray, List.set_cons_zero, List.set_cons_succ]
          refine anyE_take 4 (v := ?_) rfl (by kernel_rfl) (by kernel_rfl) (by kernel_rfl) (by kernel_rfl) (fun _ _ _ h => h) hS (Or.inl ⟨by rfl, ?_⟩) ?_
          rotate_left
          · intro w' hS'
            obtain ⟨e1, e2, e3⟩ := hS'
            go_simp
            try with_reducible rfl
          try simp only [List.getElem_toArray, List.getElem_cons_succ, List.getElem_cons_zero, Act.put, List.setIfInBounds_toArray, List.set_cons_zero, List.set_cons_succ]
          refine anyE_take 5 (v := ?_) rfl (by kernel_rfl) (by kernel_rfl) (by kernel_rfl) (by kernel_rfl) (fun _ _ _ h => h) hS (Or.inl ⟨by rfl, ?_⟩) ?_
          rotate_left
          · intro w' hS'
            obtain ⟨e1, e2, e3⟩ := hS'
            go_simp
            try with_reducible rfl
          try simp only [List.getElem_toArray, List.getElem_cons_succ, List.getElem_cons_zero, Act.put, List.setIfInBounds_toArray, List.set_cons_zero, List.set_cons_succ]
          refine anyE_take 6 (v := ?_) rfl (by kernel_rfl) (by kernel_rfl) (by kernel_rfl) (by kernel_rfl) (fun _ _ _ h => h) hS (Or.inl ⟨by rfl, ?_⟩) ?_
          rotate_left
          · intro w' hS'
            obtain ⟨e1, e2, e3⟩ := hS'
            go_simp
            try with_reducible rfl
          try simp only [List.getElem_toArray, List.getElem_cons_succ, List.getElem_cons_zero, Act.put, List.setIfInBounds_toArray, List.set_cons_zero, List.set_cons_succ]
          refine anyE_take 7 (v := ?_) rfl (by kernel_rfl) (by kernel_rfl) (by kernel_rfl) (by kernel_rfl) (fun _ _ _ h => h) hS (Or.inl ⟨by rfl, ?_⟩) ?_
          rotate_left
          · intro w' hS'
            obtain ⟨e1, e2, e3⟩ := hS'
            go_simp
            try with_reducible rfl
          try simp only [List.getElem_toArray, List.getElem_cons_succ, List.getElem_cons_zero, Act.put, List.setIfInBounds_toArray, List.set_cons_zero, List.set_cons_succ]
          refine anyE_take 8 (v := ?_) rfl (by kernel_rfl) (by kernel_rfl) (by kernel_rfl) (by kernel_rfl) (fun _ _ _ h => h) hS (Or.inl ⟨by rfl, ?_⟩) ?_
          rotate_left
          · intro w' hS'
            obtain ⟨e1, e2, e3⟩ := hS'
            go_simp
            try with_reducible rfl
          try simp only [List.getElem_toArray, List.getElem_cons_succ, List.getElem_cons_zero, Act.put, List.setIfInBounds_toArray, List.set_cons_zero, List.set_cons_succ]
          refine anyE_take 9 (v := ?_) rfl (by kernel_rfl) (by kernel_rfl) (by kernel_rfl) (by kernel_rfl) (fun _ _ _ h => h) hS (Or.inl ⟨by rfl, ?_⟩) ?_
          rotate_left
          · intro w' hS'
            obtain ⟨e1, e2, e3⟩ := hS'
            go_simp
            try with_reducible rfl
          try simp only [List.getElem_toArray, List.getElem_cons_succ, List.getElem_cons_zero, Act.put, List.setIfInBounds_toArray, List.set_cons_zero, List.set_cons_succ]
          refine anyE_take 10 (v := ?_) rfl (by kernel_rfl) (by kernel_rfl) (by kernel_rfl) (by kernel_rfl) (fun _ _ _ h => h) hS (Or.inl ⟨by rfl, ?_⟩) ?_
          rotate_left
          · intro w' hS'
            obtain ⟨e1, e2, e3⟩ := hS'
            go_simp
            try with_reducible rfl
          try simp only [List.getElem_toArray, List.getElem_cons_succ, List.getElem_cons_zero, Act.put, List.setIfInBounds_toArray, List.set_cons_zero, List.set_cons_succ]
          refine anyE_ready [11] (by kernel_rfl) (by simp) (ReadyE.cons rfl (fun K' hK => ?_) ReadyE.nil)
          go_simp
          refine hK _ _ (fun _ => unhide HSZ) ?_
          clear hK K'
          try simp only [List.getElem_toArray, List.getElem_cons_succ, List.getElem_cons_zero, Act.put, List.setIfInBounds_toArray, List.set_cons_zero, List.set_cons_succ]
          refine anyE_ready [12] (by kernel_rfl) (by simp) (ReadyE.cons rfl (fun K' hK => ?_) ReadyE.nil)
          refine step_append_any IST rfl _ _ rfl rfl _ _ rfl rfl _ _ (unhide HR9) ?_
          refine hK _ _ (fun _ => unhide HS9) ?_
          have hS := unhide HS9
          clear hK K'
          try simp only [List.getElem_toArray, List.getElem_cons_succ, List.getElem_cons_zero, Act.put, List.setIfInBounds_toArray, List.set_cons_zero, List.set_cons_succ]
          refine anyE_take 13 (v := ?_) rfl (by kernel_rfl) (by kernel_rfl) (by kernel_rfl) (by kernel_rfl) (fun _ _ _ h => h) hS (Or.inl ⟨by rfl, ?_⟩) ?_
          rotate_left
          · intro w' hS'
            obtain ⟨e1, e2, e3⟩ := hS'
            go_simp
            try with_reducible rfl
          try simp only [List.getElem_toArray, List.getElem_cons_succ, List.getElem_cons_zero, Act.put, List.setIfInBounds_toArray, List.set_cons_zero, List.set_cons_succ]
          refine any_to_E (by kernel_rfl) ?_
          have x1 := (unhide HK).1
          have x2 := (unhide HK).2
          refine wpAny_ready (rs := [14]) (by kernel_rfl) (by simp) ?_
          refine AllReady.cons rfl (fun K' hK => ?_) AllReady.nil
          go_simp
          refine hK _ _ ?_
          clear hK K'
          try simp only [List.getElem_toArray, List.getElem_cons_succ, List.getElem_cons_zero, Act.put]
          refine wpAny_done (by kernel_rfl) ?_ _
          generalize w9.setCell ⟨w2.heap.size, 1, none⟩ (.slice na nn nc) = w10 at *
          clear x1 x2 HK HS9 HSZ HR9
          go_wp2
          go_roundw
          case rel => exact ⟨q + 1, _, by go_num, by omega, HN9⟩
          case measure => simp [intOf]; omega
        · have hqd : q = dl := by omega
          subst hqd
          have i5 : ¬ (q : Int) < q := by omega
          have hld := unhide HLD
          rw [show q = D.length from (unhide HDL).symm] at hld
          obtain ⟨ia, ic, v', w9, hdv, hr9, hli, k1, k2⟩ := (unhide HL2).step hld (unhide HMJ) (by omega) (by rw [unhide HDL]; omega)
          rw [unhide HDL] at hdv hr9
          subst hdv
          have hlw := (unhide HL2).keep hbl
          have m0 := (unhide HLD).c0
          have m1 := (unhide HLD).c1
          have m2 := hlw.box 1 _ (rfV_at xv)
          rw [Nat.zero_add] at m2
          obtain ⟨ya, yc, hyv⟩ := row_shape hlw.own
          obtain ⟨za, zc, hzv⟩ := row_shape hli.own
          subst hyv
          subst hzv
          have HR9 := hide hr9
          have HLI := hide hli
          have HK := hide (And.intro k1 k2)
          clear hld hr9 hli hlw hbl hxe HLD HL2
          go_wp2_with (at_builtin; refine wpList_append_runG RIS rfl _ _ rfl rfl _ _ rfl rfl _ _ (unhide HR9) ?_; have x1 := (unhide HK).1; have x2 := (unhide HK).2)
          exact ⟨⟨j + 1, _, _, by go_num, by omega, HLI⟩, by simp [intOf]; omega⟩
    · have hjn : j = n := by omega
      subst hjn
      have i3 : ¬ (j : Int) < j := by omega
      have hM0 : 0 < M.length := by rw [unhide HN]; omega
      have hli := unhide HL
      rw [show j = M.length from (unhide HN).symm] at hli
      obtain ⟨b, cap, sl, hxv, hcap, hrf, hsc⟩ := hli.rf hM0
      have hsm : SmallM M := ⟨by rw [unhide HN]; omega, fun i D hD => by
        have hil := (List.getElem?_eq_some_iff.1 hD).1
        refine ⟨hli.sm i D hil hD, ?_⟩
        rcases unhide HM with ⟨a, c, _, h0⟩ | ⟨b, off, c, e, hc, h⟩
        · rw [h0] at hil; simp at hil
        · obtain ⟨x, _, h2⟩ := h i hil
          rw [List.getElem?_eq_getElem hil] at hD
          injection hD with hD
          rw [hD] at h2
          exact h2.1⟩
      have hok := mkM_ok hsm
      have hml := mkM_len M
      have hm8 := hsm.1
      generalize mkM M = m at *
      obtain ⟨x0, m', hm⟩ : ∃ x0 m', m = x0 :: m' := by
        cases m with
        | nil => simp at hml; omega
        | cons x m => exact ⟨x, m, rfl⟩
      subst hm
      have hm7 : m'.length ≤ 7 := by rw [List.length_cons] at hml; omega
      have hbox := hli.box
      have hold := hli.old
      subst hxv
      have HBW : Hid (Below w.heap.size w wr) := hide (bthen (unhide HB1) hold)
      have HTX := hide (refText_decl (x0 :: m') b cap sl wr hrf (by omega) (fun x hx => itemP_len (hok x hx).1) (fun x hx => ⟨by have := (hok x hx).1.1.2.2; omega, by have := (hok x hx).1.2.1; omega, (hok x hx).1.2.2⟩))
      rw [outA_text] at HTX
      have HGD := hide (mk_good x0 m' hm7 hok)
      have HZR := hide (mk_zero x0 m' hm7 hok)
      have HFV := hide (mk_five x0 m' hm7 hok)
      have HTK := hide (mk_toks x0 m' hok)
      have HRF := hide (And.intro hrf (And.intro hsc (And.intro hcap (And.intro hli.box hok))))
      have hsl : (stText (.decl (x0 :: m'))).length ≤ 3000 := (mk_good x0 m' hm7 hok).2.2
      have hdw : (declW x0 m').length ≤ 3000 := by
        have h1 := (mk_good x0 m' hm7 hok).2.1
        have h2 := (mk_good x0 m' hm7 hok).1.many
        have h3 := (ok_decl x0 m' (hok x0 List.mem_cons_self).1 (fun y hy => (hok y (List.mem_cons_of_mem _ hy)).1)).2
        omega
      generalize hdwn : (declW x0 m').length = dw at *
      generalize hs : stText (.decl (x0 :: m')) = s at *
      clear hli hrf hsc hsm hml hold hM0 hm8 HL
      go_wp2_with (first | (refine wpListS_load rfl _ rfl _ _ rfl _ rfl hbox ?_))
      refine (unhide HTX).mono ?_
      rintro e w2 ⟨rfl, hb2⟩
      have HB2 : Hid (Below w.heap.size w w2) := hide (bthen (unhide HBW) hb2)
      have HRF2 := hide hb2
      clear hb2 hbox
      have hw0 : 0 < w.heap.size := by
        obtain ⟨t, f, h⟩ := (unhide HG).2
        rcases Nat.lt_or_ge 0 w.heap.size with h' | h'
        · exact h'
        · rw [Array.getElem?_eq_none (by omega)] at h; cases h
      have HP1 := hide (parse_good (unhide HGD).1 (by rw [(unhide HGD).2.1]; exact Nat.le_refl _) w2 ((unhide HG).1.below (unhide HB2)) (by have := (unhide HB2).size; omega))
      go_wp2_with fail
      refine (unhide HP1).mono ?_
      rintro e w3 ⟨B, cs, hB, hh, hb3, rfl⟩
      obtain ⟨yv, YM, rfl, ⟨ya, yn, yc, rfl⟩, hit, hpl⟩ := hh
      have HY := hide (And.intro hB (And.intro hit (And.intro hpl hb3)))
      have HB3 : Hid (Below w.heap.size w w3) := hide (bthen (unhide HB2) hb3)
      clear hB hit hpl hb3 HP1
      have cz : (⟨s.toArray⟩ : ByteArray) ++ ⟨#[44, 32, 122, 40, 48, 41]⟩ = ⟨(s ++ [44, 32, 122, 40, 48, 41]).toArray⟩ := cat2 _ _
      have cf : (⟨s.toArray⟩ : ByteArray) ++ ⟨#[44, 32, 122, 40, 49, 44, 32, 50, 44, 32, 51, 44, 32, 52, 44, 32, 53, 41]⟩ = ⟨(s ++ [44, 32, 122, 40, 49, 44, 32, 50, 44, 32, 51, 44, 32, 52, 44, 32, 53, 41]).toArray⟩ := cat2 _ _
      generalize s ++ [44, 32, 122, 40, 48, 41] = sz at *
      generalize s ++ [44, 32, 122, 40, 49, 44, 32, 50, 44, 32, 51, 44, 32, 52, 44, 32, 53, 41] = sf at *
      go_wp2_with (first | (refine wpList_storeNew rfl _ _ rfl _ _ rfl rfl rfl rfl (by kernel_rfl) ?_))
      have HSA : Hid (StAt (w3.alloc (.cells (ofV (.slice ya yn yc)) STT)) w3.heap.size (ofV (.slice ya yn yc)) ∧ Below w3.heap.size w3 (w3.alloc (.cells (ofV (.slice ya yn yc)) STT))) := hide ⟨⟨heap_alloc_new w3 _, rfl⟩, alloc_below w3 _⟩
      generalize w3.alloc (.cells (ofV (.slice ya yn yc)) STT) = W4 at *
      have HB4 : Hid (Below w.heap.size w W4) := hide (bthen (unhide HB3) (unhide HSA).2)
      refine (parse_fail (unhide HZR) (.leaf (dw + 2 + 1) 1) (end_bad _ _ _ _) (by simp) W4 ((unhide HG).1.below (unhide HB4)) (by have := (unhide HB4).size; omega)).mono ?_
      rintro e w5 ⟨gz, hse, hb5, rfl⟩
      have HZ5 : Hid (Says W4.heap.size w5 gz wStmt (dw + 3) 1 ∧ Below W4.heap.size W4 w5) := hide ⟨by
        obtain ⟨q, hq, e1, k1, k2, k3⟩ := hse
        exact .inr ⟨by decide, q, by omega, e1, k1, k2, k3⟩, hb5⟩
      have HB5 : Hid (Below w.heap.size w w5) := hide (bthen (unhide HB4) hb5)
      clear hse hb5
      go_wp2_with (first | (refine wpList_storeNew rfl _ _ rfl _ _ rfl rfl rfl rfl (by kernel_rfl) ?_))
      have HB6 : Hid (Below w.heap.size w (w5.alloc (.cells (stZ 0) STT)) ∧ Below w5.heap.size w5 (w5.alloc (.cells (stZ 0) STT))) := hide ⟨bthen (unhide HB5) (alloc_below w5 _), alloc_below w5 _⟩
      generalize w5.alloc (.cells (stZ 0) STT) = W6 at *
      refine (parse_fail (unhide HFV) (.leaf (dw + 2 + 8) 4) (end_bad _ _ _ _) (by simp) W6 ((unhide HG).1.below (unhide HB6).1) (by have := (unhide HB6).1.size; omega)).mono ?_
      rintro e w7 ⟨gf, hse, hb7, rfl⟩
      have HF7 : Hid (Says W6.heap.size w7 gf wStmt (dw + 10) 4 ∧ Below W6.heap.size W6 w7) := hide ⟨by
        obtain ⟨q, hq, e1, k1, k2, k3⟩ := hse
        exact .inr ⟨by decide, q, by omega, e1, k1, k2, k3⟩, hb7⟩
      have HB7 : Hid (Below w.heap.size w w7) := hide (bthen (unhide HB6).1 hb7)
      clear hse hb7
      go_wp2_with (first | (refine wpList_storeNew rfl _ _ rfl _ _ rfl rfl rfl rfl (by kernel_rfl) ?_))
      have HB8 : Hid (Below w.heap.size w (w7.alloc (.cells (stZ 0) STT)) ∧ Below w7.heap.size w7 (w7.alloc (.cells (stZ 0) STT))) := hide ⟨bthen (unhide HB7) (alloc_below w7 _), alloc_below w7 _⟩
      generalize w7.alloc (.cells (stZ 0) STT) = W8 at *
      obtain ⟨T, hT, hTl⟩ := unhide HTK
      refine (refToks_any s (by omega) W8).mono ?_
      rintro e w9 ⟨tu, tg, rfl, hot, htd, hb9⟩
      rw [hT] at hot htd
      obtain ⟨ta, tc, htu⟩ := row_shape hot
      subst htu
      have htg : tg = .agg #[.slice none 0 0, .int .i64 0] := by
        rcases htd with ⟨_, h⟩ | ⟨h, _⟩
        · exact h
        · exact absurd rfl h
      subst htg
      rw [show T.length = dw from hTl]
      have HB9 : Hid (Below w.heap.size w w9 ∧ Below W8.heap.size W8 w9) := hide ⟨bthen (unhide HB8).1 hb9, hb9⟩
      clear hot htd hb9 hT hTl
      go_wp2_with fail
      have HBA : Hid (Below w.heap.size w (w9.alloc (.cells #[.slice none 0 0, .int .i64 0] 37)) ∧ Below w9.heap.size w9 (w9.alloc (.cells #[.slice none 0 0, .int .i64 0] 37))) := hide ⟨bthen (unhide HB9).1 (alloc_below w9 _), alloc_below w9 _⟩
      generalize w9.alloc (.cells #[.slice none 0 0, .int .i64 0] 37) = WA at *
      obtain ⟨hB, hit, hpl, hb3⟩ := unhide HY
      have hyl : 0 < YM.length := by
        have := congrArg List.length hpl
        unfold plainI at this
        rw [List.length_map, List.length_cons] at this
        omega
      obtain ⟨g2, cap2, hyv, hin, hcap2⟩ := items_row hit hyl
      injection hyv with y1 y2 y3
      subst y1; subst y2; subst y3
      have h34 : Below w3.heap.size w3 WA := bthen (bthen (bthen (bthen (bthen (bthen (unhide HSA).2 (unhide HZ5).2) (unhide HB6).2) (unhide HF7).2) (unhide HB8).2) (unhide HB9).2) (unhide HBA).2
      have h3A : Below wr.heap.size wr WA := bthen (bthen (unhide HRF2) hb3) h34
      have hd : Below WA.heap.size WA WA.drew := below_drewN (Below.refl _ _) 1
      have hrow1 : WA.drew.rangeAt w3.heap.size 0 (ofV (.slice (some ⟨g2, 0, none⟩) (toL YM).length yc)).toList := fun k u hu => by
        have h4 := (unhide HSA).1.1
        have hsz : w3.heap.size < W4.heap.size := by
          rcases Nat.lt_or_ge w3.heap.size W4.heap.size with h | h
          · exact h
          · rw [Array.getElem?_eq_none h] at h4; cases h4
        have h5 : Below W4.heap.size W4 WA := bthen (bthen (bthen (bthen (bthen (unhide HZ5).2 (unhide HB6).2) (unhide HF7).2) (unhide HB8).2) (unhide HB9).2) (unhide HBA).2
        have h6 : WA.drew.heap[w3.heap.size]? = some (.cells (ofV (.slice (some ⟨g2, 0, none⟩) (toL YM).length yc)) STT (0, 0)) := (h5.block _ hsz).trans h4
        rw [Nat.zero_add]
        exact cells_of h6 k u (by simpa using hu)
      have hrow2 : WA.drew.rangeAt w1.heap.size 0 (rfV (.slice (some ⟨b, 0, none⟩) (x0 :: m').length cap)).toList := range_of (unhide HRF).2.2.2.1 (h3A.block _ (range_ltS (unhide HRF).2.2.2.1))
      have hq1 : w3.heap.size < WA.drew.heap.size := by have := (unhide HSA).2.size; exact range_ltS hrow1
      have hq2 : w1.heap.size < WA.drew.heap.size := range_ltS hrow2
      have HIN := hide (And.intro (hin.below (bthen h34 hd)) (And.intro hit (And.intro hyl (And.intro (bthen h34 hd) (bthen h3A hd)))))
      have HDR := hide (bthen (unhide HBA).1 hd)
      have HZA := hide ((unhide HZ5).1.below (bthen (bthen (bthen (bthen (bthen (unhide HB6).2 (unhide HF7).2) (unhide HB8).2) (unhide HB9).2) (unhide HBA).2) hd))
      have HFA := hide ((unhide HF7).1.below (bthen (bthen (bthen (unhide HB8).2 (unhide HB9).2) (unhide HBA).2) hd))
      have HPL := hide hpl
      have HSS := hide hs
      generalize hd3 : dw + 3 = d3 at *
      generalize hd10 : dw + 10 = d10 at *
      have z3 : IntKind.i64.wrap ((dw : Int) + 3) = d3 := by rw [IntKind.wrap_i64]; omega
      have z10 : IntKind.i64.wrap ((dw : Int) + 10) = d10 := by rw [IntKind.wrap_i64]; omega
      clear hB hit hpl hb3 hyl hin hcap2 h34 h3A hd hs HY HSA HZ5 HF7 HB9 HBA HB8 HB7 HB6 HB5 HB4 HB3 HB2 HBW HTX HGD HZR HFV HTK HRF2 cz cf hd3 hd10
      generalize hlen : (x0 :: m').length = lm at *
      have HLM := hide hlen
      clear hlen
      refine wp_regionE (TwoR w3.heap.size (ofV (.slice (some ⟨g2, 0, none⟩) (toL YM).length yc)).toList w1.heap.size (rfV (.slice (some ⟨b, 0, none⟩) lm cap)).toList) (fun j => decide (j < 30)) (by kernel_rfl) ⟨hrow1, hrow2, hq1, hq2⟩ (fun hS => ?_)
      clear hrow1 hrow2 hq1 hq2
      generalize WA.drew = v0 at *
      refine anyE_take 0 (v := ?_) rfl (by kernel_rfl) (by kernel_rfl) (by kernel_rfl) (by kernel_rfl) (fun _ _ _ h => h) hS (Or.inl ⟨by rfl, ?_⟩) ?_
      rotate_left
      · intro w' hS'
        obtain ⟨e1, e2, e3, e4⟩ := hS'
        go_simp
        try with_reducible rfl
      try simp only [List.getElem_toArray, List.getElem_cons_zero, Act.put, List.setIfInBounds_toArray, List.set_cons_zero, List.set_cons_succ]
      refine anyE_take 1 (v := ?_) rfl (by kernel_rfl) (by kernel_rfl) (by kernel_rfl) (by kernel_rfl) (fun _ _ _ h => h) hS (Or.inl ⟨by rfl, ?_⟩) ?_
      rotate_left
      · intro w' hS'
        obtain ⟨e1, e2, e3, e4⟩ := hS'
        go_simp
        try with_reducible rfl
      try simp only [List.getElem_toArray, List.getElem_cons_succ, List.getElem_cons_zero, Act.put, List.setIfInBounds_toArray, List.set_cons_zero, List.set_cons_succ]
      refine anyE_take 2 (v := ?_) rfl (by kernel_rfl) (by kernel_rfl) (by kernel_rfl) (by kernel_rfl) (fun _ _ _ h => h) hS (Or.inl ⟨by rfl, ?_⟩) ?_
      rotate_left
      · intro w' hS'
        obtain ⟨e1, e2, e3, e4⟩ := hS'
        go_simp
        try with_reducible rfl
      try simp only [List.getElem_toArray, List.getElem_cons_succ, List.getElem_cons_zero, Act.put, List.setIfInBounds_toArray, List.set_cons_zero, List.set_cons_succ]
      refine anyE_take 3 rfl (by kernel_rfl) (by kernel_rfl) (by kernel_rfl) (by kernel_rfl) (fun _ _ _ h => h) hS (yieldsS_load STT undS1 infoS (by kernel_rfl) (.tmp 8) (by kernel_rfl) w3.heap.size 0 (by kernel_rfl) (ofV (.slice (some ⟨g2, 0, none⟩) (toL YM).length yc)).toList rfl (fun _ h => h.1)) ?_
      try simp only [List.getElem_toArray, List.getElem_cons_succ, List.getElem_cons_zero, Act.put, List.setIfInBounds_toArray, List.set_cons_zero, List.set_cons_succ]
      refine anyE_take 5 rfl (by kernel_rfl) (by kernel_rfl) (by kernel_rfl) (by kernel_rfl) (fun _ _ _ h => h) hS (yieldsS_load RST2 undS2 sizeS2 (by kernel_rfl) (.tmp 3) (by kernel_rfl) w1.heap.size 0 (by kernel_rfl) (rfV (.slice (some ⟨b, 0, none⟩) lm cap)).toList rfl (fun _ h => h.2.1)) ?_
      try simp only [List.getElem_toArray, List.getElem_cons_succ, List.getElem_cons_zero, Act.put, List.setIfInBounds_toArray, List.set_cons_zero, List.set_cons_succ]
      have HYL : Hid ((toL YM).length = lm ∧ lm ≤ 8) := hide ⟨by rw [toL_len, ← unhide HLM, ← unhide HPL]; exact (List.length_map ..).symm, by rw [← unhide HLM, List.length_cons]; omega⟩
      refine anyE_ready [4] (by kernel_rfl) (by simp) (ReadyE.cons rfl (fun K' hK => ?_) ReadyE.nil)
      go_simp
      go_at_call 26
      refine (stOf_decl (toL YM) g2 yc v0 (unhide HIN).1 (by have := (unhide HYL).1; have := (unhide HYL).2; omega)).mono ?_
      rintro e v1 ⟨ov, a1, c1, a2, c2, a3, c3, a4, c4, a5, c5, a6, c6, rfl, how, hb1⟩
      obtain ⟨b4, cap4, sl4, hov, hc4, hr4, hs4⟩ := items_rf (unhide HIN).2.1 (unhide HIN).2.2.1 (bthen (unhide HIN).2.2.2.1 hb1) how
      rw [unhide HPL] at hov hc4 hr4 hs4
      rw [unhide HLM] at hov hc4
      subst hov
      have HOF := hide (And.intro hr4 (And.intro hc4 hs4))
      have HV1 := hide hb1
      replace hS := hS.below hb1
      clear how hc4 hr4 hs4 hb1
      dsimp only
      try go_simp
      refine hK _ _ (fun _ => hS) ?_
      clear hK K'
      try simp only [List.getElem_toArray, List.getElem_cons_succ, List.getElem_cons_zero, Act.put, List.setIfInBounds_toArray, List.set_cons_zero, List.set_cons_succ]
      refine anyE_ready [6] (by kernel_rfl) (by simp) (ReadyE.cons rfl (fun K' hK => ?_) ReadyE.nil)
      go_simp
      go_at_call 25
      have hsame := stSame_decl (x0 :: m') b4 cap4 sl4 b cap sl a1 c1 a2 c2 a3 c3 a4 c4 a5 c5 a6 c6 v1 (unhide HOF).1 ((unhide HRF).1.below (bthen (unhide HIN).2.2.2.2 (unhide HV1))) (by have h1 := unhide HLM; have h2 := (unhide HYL).2; omega) (fun x hx => by have h1 := ((unhide HRF).2.2.2.2 x hx).1.2.1; omega) (by rw [unhide HLM]; exact (unhide HOF).2.1) (by rw [unhide HLM]; exact (unhide HRF).2.2.1) (unhide HOF).2.2 (unhide HRF).2.1
      rw [unhide HLM] at hsame
      refine hsame.mono ?_
      clear hsame
      rintro e v2 ⟨rfl, hb2⟩
      have HV2 := hide (bthen (unhide HV1) hb2)
      replace hS := hS.below hb2
      clear hb2 HOF HV1
      dsimp only
      try go_simp
      refine hK _ _ (fun _ => hS) ?_
      clear hK K'
      try simp only [List.getElem_toArray, List.getElem_cons_succ, List.getElem_cons_zero, Act.put, List.setIfInBounds_toArray, List.set_cons_zero, List.set_cons_succ]
      refine anyE_take 7 (v := ?_) rfl (by kernel_rfl) (by kernel_rfl) (by kernel_rfl) (by kernel_rfl) (fun _ _ _ h => h) hS (Or.inl ⟨by rfl, ?_⟩) ?_
      rotate_left
      · intro w' hS'
        obtain ⟨e1, e2, e3, e4⟩ := hS'
        go_simp
        try with_reducible rfl
      try simp only [List.getElem_toArray, List.getElem_cons_succ, List.getElem_cons_zero, Act.put, List.setIfInBounds_toArray, List.set_cons_zero, List.set_cons_succ]
      refine anyE_take 8 (v := ?_) rfl (by kernel_rfl) (by kernel_rfl) (by kernel_rfl) (by kernel_rfl) (fun _ _ _ h => h) hS (Or.inl ⟨by rfl, ?_⟩) ?_
      rotate_left
      · intro w' hS'
        obtain ⟨e1, e2, e3, e4⟩ := hS'
        go_simp
        try with_reducible rfl
      try simp only [List.getElem_toArray, List.getElem_cons_succ, List.getElem_cons_zero, Act.put, List.setIfInBounds_toArray, List.set_cons_zero, List.set_cons_succ]
      refine anyE_take 9 rfl (by kernel_rfl) (by kernel_rfl) (by kernel_rfl) (by kernel_rfl) (fun _ _ _ h => h) hS (yieldsS_load STT undS1 infoS (by kernel_rfl) (.tmp 8) (by kernel_rfl) w3.heap.size 0 (by kernel_rfl) (ofV (.slice (some ⟨g2, 0, none⟩) (toL YM).length yc)).toList rfl (fun _ h => h.1)) ?_
      try simp only [List.getElem_toArray, List.getElem_cons_succ, List.getElem_cons_zero, Act.put, List.setIfInBounds_toArray, List.set_cons_zero, List.set_cons_succ]
      refine anyE_take 11 (v := ?_) rfl (by kernel_rfl) (by kernel_rfl) (by kernel_rfl) (by kernel_rfl) (fun _ _ _ h => h) hS (Or.inl ⟨by rfl, ?_⟩) ?_
      rotate_left
      · intro w' hS'
        obtain ⟨e1, e2, e3, e4⟩ := hS'
        go_simp
        try with_reducible rfl
      try simp only [List.getElem_toArray, List.getElem_cons_succ, List.getElem_cons_zero, Act.put, List.setIfInBounds_toArray, List.set_cons_zero, List.set_cons_succ]
      refine anyE_ready [10] (by kernel_rfl) (by simp) (ReadyE.cons rfl (fun K' hK => ?_) ReadyE.nil)
      go_simp
      go_at_call 27
      have htext : Calls Tryz.prog 27 #[.agg (ofV (.slice (some ⟨g2, 0, none⟩) (toL YM).length yc))] v2 fun e w' => e = .returned (.string ⟨(stText (.decl (x0 :: m'))).toArray⟩) ∧ Below v2.heap.size v2 w' := text_decl (x0 :: m') _ YM (B + 1) v2 (items_below (unhide HIN).2.1 (bthen (unhide HIN).2.2.2.1 (unhide HV2))) (unhide HPL) (by simp) (fun x hx => okItem_of ((unhide HRF).2.2.2.2 x hx)) (by have h1 := unhide HLM; have h2 := (unhide HYL).2; omega) (by have h1 := unhide HSS; have h2 : (stText (.decl (x0 :: m'))).length ≤ 3000 := (by rw [h1]; exact hsl); have h3 : (stText (.decl (x0 :: m'))).length = (headT 1).length + (Lib.join ((x0 :: m').map itemP) [44, 32]).length := List.length_append ..; omega) (tab_below (unhide HG).2 (bthen (unhide HDR) (unhide HV2)))
      rw [unhide HSS] at htext
      refine htext.mono ?_
      clear htext
      rintro e v3 ⟨rfl, hb3⟩
      have HV3 := hide (bthen (unhide HV2) hb3)
      replace hS := hS.below hb3
      clear hb3 HV2
      dsimp only
      try go_simp
      refine hK _ _ (fun _ => hS) ?_
      clear hK K'
      try simp only [List.getElem_toArray, List.getElem_cons_succ, List.getElem_cons_zero, Act.put, List.setIfInBounds_toArray, List.set_cons_zero, List.set_cons_succ]
      refine anyE_take 12 (v := ?_) rfl (by kernel_rfl) (by kernel_rfl) (by kernel_rfl) (by kernel_rfl) (fun _ _ _ h => h) hS (Or.inl ⟨by rfl, ?_⟩) ?_
      rotate_left
      · intro w' hS'
        obtain ⟨e1, e2, e3, e4⟩ := hS'
        go_simp
        try with_reducible rfl
      try simp only [List.getElem_toArray, List.getElem_cons_succ, List.getElem_cons_zero, Act.put, List.setIfInBounds_toArray, List.set_cons_zero, List.set_cons_succ]
      refine anyE_take 13 (v := ?_) rfl (by kernel_rfl) (by kernel_rfl) (by kernel_rfl) (by kernel_rfl) (fun _ _ _ h => h) hS (Or.inl ⟨by rfl, ?_⟩) ?_
      rotate_left
      · intro w' hS'
        obtain ⟨e1, e2, e3, e4⟩ := hS'
        go_simp
        try with_reducible rfl
      try simp only [List.getElem_toArray, List.getElem_cons_succ, List.getElem_cons_zero, Act.put, List.setIfInBounds_toArray, List.set_cons_zero, List.set_cons_succ]
      refine anyE_take 14 (v := ?_) rfl (by kernel_rfl) (by kernel_rfl) (by kernel_rfl) (by kernel_rfl) (fun _ _ _ h => h) hS (Or.inl ⟨by rfl, ?_⟩) ?_
      rotate_left
      · intro w' hS'
        obtain ⟨e1, e2, e3, e4⟩ := hS'
        go_simp
        try with_reducible rfl
      try simp only [List.getElem_toArray, List.getElem_cons_succ, List.getElem_cons_zero, Act.put, List.setIfInBounds_toArray, List.set_cons_zero, List.set_cons_succ]
      refine anyE_take 15 (v := ?_) rfl (by kernel_rfl) (by kernel_rfl) (by kernel_rfl) (by kernel_rfl) (fun _ _ _ h => h) hS (Or.inl ⟨by rfl, ?_⟩) ?_
      rotate_left
      · intro w' hS'
        obtain ⟨e1, e2, e3, e4⟩ := hS'
        go_simp
        try with_reducible rfl
      try simp only [List.getElem_toArray, List.getElem_cons_succ, List.getElem_cons_zero, Act.put, List.setIfInBounds_toArray, List.set_cons_zero, List.set_cons_succ]
      refine anyE_take 16 (v := ?_) rfl (by kernel_rfl) (by kernel_rfl) (by kernel_rfl) (by kernel_rfl) (fun _ _ _ h => h) hS (Or.inl ⟨by rfl, ?_⟩) ?_
      rotate_left
      · intro w' hS'
        obtain ⟨e1, e2, e3, e4⟩ := hS'
        go_simp
        try with_reducible rfl
      try simp only [List.getElem_toArray, List.getElem_cons_succ, List.getElem_cons_zero, Act.put, List.setIfInBounds_toArray, List.set_cons_zero, List.set_cons_succ]
      refine anyE_take 17 (v := ?_) rfl (by kernel_rfl) (by kernel_rfl) (by kernel_rfl) (by kernel_rfl) (fun _ _ _ h => h) hS (Or.inl ⟨by rfl, ?_⟩) ?_
      rotate_left
      · intro w' hS'
        obtain ⟨e1, e2, e3, e4⟩ := hS'
        go_simp
        try with_reducible rfl
      try simp only [List.getElem_toArray, List.getElem_cons_succ, List.getElem_cons_zero, Act.put, List.setIfInBounds_toArray, List.set_cons_zero, List.set_cons_succ]
      refine anyE_take 18 (v := ?_) rfl (by kernel_rfl) (by kernel_rfl) (by kernel_rfl) (by kernel_rfl) (fun _ _ _ h => h) hS (Or.inl ⟨by rfl, ?_⟩) ?_
      rotate_left
      · intro w' hS'
        obtain ⟨e1, e2, e3, e4⟩ := hS'
        go_simp
        try with_reducible rfl
      try simp only [List.getElem_toArray, List.getElem_cons_succ, List.getElem_cons_zero, Act.put, List.setIfInBounds_toArray, List.set_cons_zero, List.set_cons_succ]
      refine anyE_ready [19] (by kernel_rfl) (by simp) (ReadyE.cons rfl (fun K' hK => ?_) ReadyE.nil)
      go_simp
      go_at_call 29
      refine (at_any [115, 116, 109, 116] d3 1 v3).mono ?_
      rintro e v4 ⟨tbv4, rfl, htb, ht0, ht1, hb⟩
      have HTv4 := hide (And.intro ht0 (And.intro ht1 hb))
      replace hS := hS.below hb
      clear htb ht0 ht1 hb
      dsimp only
      try go_simp
      refine hK _ _ (fun _ => hS) ?_
      clear hK K'
      try simp only [List.getElem_toArray, List.getElem_cons_succ, List.getElem_cons_zero, Act.put, List.setIfInBounds_toArray, List.set_cons_zero, List.set_cons_succ]
      refine anyE_ready [20] (by kernel_rfl) (by simp) (ReadyE.cons rfl (fun K' hK => ?_) ReadyE.nil)
      go_simp
      go_at_call 28
      refine (tells_any (B' := 0) v4 gz _ wStmt d3 1 ((unhide HG).1.below (bthen (unhide HDR) (bthen (unhide HV3) (unhide HTv4).2.2))) ((unhide HZA).below (bthen (unhide HV3) (unhide HTv4).2.2)) (.inr ⟨by decide, tbv4, Nat.zero_le _, rfl, (unhide HTv4).1, (unhide HTv4).2.1⟩)).mono ?_
      rintro e v5 ⟨rfl, hb⟩
      have HVv5 := hide (bthen (unhide HV3) (bthen (unhide HTv4).2.2 hb))
      replace hS := hS.below hb
      clear hb HTv4 HV3
      dsimp only
      try go_simp
      refine hK _ _ (fun _ => hS) ?_
      clear hK K'
      try simp only [List.getElem_toArray, List.getElem_cons_succ, List.getElem_cons_zero, Act.put, List.setIfInBounds_toArray, List.set_cons_zero, List.set_cons_succ]
      refine anyE_take 21 (v := ?_) rfl (by kernel_rfl) (by kernel_rfl) (by kernel_rfl) (by kernel_rfl) (fun _ _ _ h => h) hS (Or.inl ⟨by rfl, ?_⟩) ?_
      rotate_left
      · intro w' hS'
        obtain ⟨e1, e2, e3, e4⟩ := hS'
        go_simp
        try with_reducible rfl
      try simp only [List.getElem_toArray, List.getElem_cons_succ, List.getElem_cons_zero, Act.put, List.setIfInBounds_toArray, List.set_cons_zero, List.set_cons_succ]
      refine anyE_take 22 (v := ?_) rfl (by kernel_rfl) (by kernel_rfl) (by kernel_rfl) (by kernel_rfl) (fun _ _ _ h => h) hS (Or.inl ⟨by rfl, ?_⟩) ?_
      rotate_left
      · intro w' hS'
        obtain ⟨e1, e2, e3, e4⟩ := hS'
        go_simp
        try with_reducible rfl
      try simp only [List.getElem_toArray, List.getElem_cons_succ, List.getElem_cons_zero, Act.put, List.setIfInBounds_toArray, List.set_cons_zero, List.set_cons_succ]
      refine anyE_take 23 (v := ?_) rfl (by kernel_rfl) (by kernel_rfl) (by kernel_rfl) (by kernel_rfl) (fun _ _ _ h => h) hS (Or.inl ⟨by rfl, ?_⟩) ?_
      rotate_left
      · intro w' hS'
        obtain ⟨e1, e2, e3, e4⟩ := hS'
        go_simp
        try with_reducible rfl
      try simp only [List.getElem_toArray, List.getElem_cons_succ, List.getElem_cons_zero, Act.put, List.setIfInBounds_toArray, List.set_cons_zero, List.set_cons_succ]
      refine anyE_take 24 (v := ?_) rfl (by kernel_rfl) (by kernel_rfl) (by kernel_rfl) (by kernel_rfl) (fun _ _ _ h => h) hS (Or.inl ⟨by rfl, ?_⟩) ?_
      rotate_left
      · intro w' hS'
        obtain ⟨e1, e2, e3, e4⟩ := hS'
        go_simp
        try with_reducible rfl
      try simp only [List.getElem_toArray, List.getElem_cons_succ, List.getElem_cons_zero, Act.put, List.setIfInBounds_toArray, List.set_cons_zero, List.set_cons_succ]
      refine anyE_take 25 (v := ?_) rfl (by kernel_rfl) (by kernel_rfl) (by kernel_rfl) (by kernel_rfl) (fun _ _ _ h => h) hS (Or.inl ⟨by rfl, ?_⟩) ?_
      rotate_left
      · intro w' hS'
        obtain ⟨e1, e2, e3, e4⟩ := hS'
        go_simp
        try with_reducible rfl
      try simp only [List.getElem_toArray, List.getElem_cons_succ, List.getElem_cons_zero, Act.put, List.setIfInBounds_toArray, List.set_cons_zero, List.set_cons_succ]
      refine anyE_take 26 (v := ?_) rfl (by kernel_rfl) (by kernel_rfl) (by kernel_rfl) (by kernel_rfl) (fun _ _ _ h => h) hS (Or.inl ⟨by rfl, ?_⟩) ?_
      rotate_left
      · intro w' hS'
        obtain ⟨e1, e2, e3, e4⟩ := hS'
        go_simp
        try with_reducible rfl
      try simp only [List.getElem_toArray, List.getElem_cons_succ, List.getElem_cons_zero, Act.put, List.setIfInBounds_toArray, List.set_cons_zero, List.set_cons_succ]
      refine anyE_ready [27] (by kernel_rfl) (by simp) (ReadyE.cons rfl (fun K' hK => ?_) ReadyE.nil)
      go_simp
      go_at_call 29
      refine (at_any [115, 116, 109, 116] d10 4 v5).mono ?_
      rintro e v6 ⟨tbv6, rfl, htb, ht0, ht1, hb⟩
      have HTv6 := hide (And.intro ht0 (And.intro ht1 hb))
      replace hS := hS.below hb
      clear htb ht0 ht1 hb
      dsimp only
      try go_simp
      refine hK _ _ (fun _ => hS) ?_
      clear hK K'
      try simp only [List.getElem_toArray, List.getElem_cons_succ, List.getElem_cons_zero, Act.put, List.setIfInBounds_toArray, List.set_cons_zero, List.set_cons_succ]
      refine anyE_ready [28] (by kernel_rfl) (by simp) (ReadyE.cons rfl (fun K' hK => ?_) ReadyE.nil)
      go_simp
      go_at_call 28
      refine (tells_any (B' := 0) v6 gf _ wStmt d10 4 ((unhide HG).1.below (bthen (unhide HDR) (bthen (unhide HVv5) (unhide HTv6).2.2))) ((unhide HFA).below (bthen (unhide HVv5) (unhide HTv6).2.2)) (.inr ⟨by decide, tbv6, Nat.zero_le _, rfl, (unhide HTv6).1, (unhide HTv6).2.1⟩)).mono ?_
      rintro e v7 ⟨rfl, hb⟩
      have HVv7 := hide (bthen (unhide HVv5) (bthen (unhide HTv6).2.2 hb))
      replace hS := hS.below hb
      clear hb HTv6 HVv5
      dsimp only
      try go_simp
      refine hK _ _ (fun _ => hS) ?_
      clear hK K'
      try simp only [List.getElem_toArray, List.getElem_cons_succ, List.getElem_cons_zero, Act.put, List.setIfInBounds_toArray, List.set_cons_zero, List.set_cons_succ]
      refine anyE_take 29 (v := ?_) rfl (by kernel_rfl) (by kernel_rfl) (by kernel_rfl) (by kernel_rfl) (fun _ _ _ h => h) hS (Or.inl ⟨by rfl, ?_⟩) ?_
      rotate_left
      · intro w' hS'
        obtain ⟨e1, e2, e3, e4⟩ := hS'
        go_simp
        try with_reducible rfl
      try simp only [List.getElem_toArray, List.getElem_cons_succ, List.getElem_cons_zero, Act.put, List.setIfInBounds_toArray, List.set_cons_zero, List.set_cons_succ]
      refine anyE_take 30 (v := ?_) rfl (by kernel_rfl) (by kernel_rfl) (by kernel_rfl) (by kernel_rfl) (fun _ _ _ h => h) hS (Or.inl ⟨by rfl, ?_⟩) ?_
      rotate_left
      · intro w' hS'
        obtain ⟨e1, e2, e3, e4⟩ := hS'
        go_simp
        try with_reducible rfl
      try simp only [List.getElem_toArray, List.getElem_cons_succ, List.getElem_cons_zero, Act.put, List.setIfInBounds_toArray, List.set_cons_zero, List.set_cons_succ]
      refine anyE_done (by kernel_rfl) ?_ _
      go_wp2
      go_ret
      exact ⟨rfl, bthen (unhide HDR) (unhide HVv7)⟩
end Go.Proofs.YthkbchefjagbbaaGreatDoor.Line
