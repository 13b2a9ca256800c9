/- FormRing, walked. -/
import Derived.Test.YtmbhamnkbpcljaaDoorLnFRm
import Derived.Test.YtmbhamnkbpcljaaDoorLnArgK
import Derived.Test.YtmbhamnkbpcljaaDoorLnOk
namespace Go.Proofs.YtmbhamnkbpcljaaDoor.Line
open Go.ChangeShapes Go.WideShapes Go.ChangeAt Go.RowKit
set_option linter.unusedVariables false

theorem step_appendI {ops : Array Oper} {o : Oper} {a : Act} {w : World} {K : Act → World → Prop} {Q : Exit → Act → World → Prop} {P : Prop} (hgd : o.guard = none) (s x : Operand)
    (ho : o.op = .call { callee := .builtin .append, args := #[s, x], argTypes := #[IST, IST] }) (hty : o.type = IST) (sv xv : Value) (hs : a.eval s = sv) (hx : a.eval x = xv) (v' : Value) (w' : World)
    (hr : (Builtin.append_ #[IST, IST] IST #[sv, xv]).run Tryd.prog w = .ok v' w') (h : K (a.put o.dst v') w') : if Region.wanted o (yielded ops a.tmps) = true then Oper.wp Tryd.prog o a w K Q else P := by
  have hw : Region.wanted o (yielded ops a.tmps) = true := by simp [Region.wanted, hgd]
  rw [if_pos hw]
  unfold Oper.wp execOp
  simp only [ho, hty, resolve, invoke, builtin, Sem.run_bind, Sem.run_pure, Result.andThen_ok, List.map_toArray, List.map_cons, List.map_nil, hs, hx, hr]
  exact h
theorem wpList_appendI {ops : Array Oper} {rest : List Oper} {o : Oper} {a : Act} {w : World} {Q : Exit → Act → World → Prop} (hgd : o.guard = none) (s x : Operand)
    (ho : o.op = .call { callee := .builtin .append, args := #[s, x], argTypes := #[IST, IST] }) (hty : o.type = IST) (sv xv : Value) (hs : a.eval s = sv) (hx : a.eval x = xv) (v' : Value) (w' : World)
    (hr : (Builtin.append_ #[IST, IST] IST #[sv, xv]).run Tryd.prog w = .ok v' w') (h : wpList Tryd.prog ops Q rest (a.put o.dst v') w') : wpList Tryd.prog ops Q (o :: rest) a w := by
  refine wpList_plain hgd fun K hK => ?_
  unfold Oper.wp execOp
  simp only [ho, hty, resolve, invoke, builtin, Sem.run_bind, Sem.run_pure, Result.andThen_ok, List.map_toArray, List.map_cons, List.map_nil, hs, hx, hr]
  exact hK _ _ h
theorem take_nextR {l : List Int} {i : Nat} (h : i < l.length) : l.take (i + 1) = l.take i ++ [l[i]] := List.take_succ_eq_append_getElem h
def Sm16 (l : List Int) : Prop := ∀ y ∈ l, -32768 ≤ y ∧ y ≤ 32767

set_option maxHeartbeats 32000000 in
set_option maxRecDepth 1000000 in
theorem formRing_walk (w : World) (av bv xv : Value) (a b x : List Int) (p q k : Int) (HKN0 : Calls Tryd.prog 9 #[] w fun e w' => e = .returned (.bool true) ∧ Below w.heap.size w w') (ha : IntsK .i16 w av a) (hb : IntsK .i16 w bv b) (hx : IntsK .i16 w xv x) (ra : Sm16 a) (rb : Sm16 b) (rx : Sm16 x) (ip : -32768 ≤ p ∧ p ≤ 32767) (iq : -32768 ≤ q ∧ q ≤ 32767) (ik : -32768 ≤ k ∧ k ≤ 32767) :
    Calls Tryd.prog 7 #[av, bv, .int .i16 p, .int .i16 q, .int .i16 k, xv] w fun e w' => e = .returned (.bool true) ∧ Below w.heap.size w w' := by
  have HKN := hide HKN0
  have HO := hide (And.intro ha (And.intro hb hx))
  have HR := hide (And.intro ra (And.intro rb (And.intro rx (And.intro ip (And.intro iq ik)))))
  obtain ⟨aa, ac, rfl⟩ := ha.shape
  obtain ⟨ba, bc, rfl⟩ := hb.shape
  obtain ⟨xa, xc, rfl⟩ := hx.shape
  have wp : IntKind.i64.wrap p = p := by rw [IntKind.wrap_i64]; omega
  have wq : IntKind.i64.wrap q = q := by rw [IntKind.wrap_i64]; omega
  have wk : IntKind.i64.wrap k = k := by rw [IntKind.wrap_i64]; omega
  clear HKN0 ha hb hx ra rb rx ip iq ik
  generalize hna : a.length = n at *
  generalize hnb : b.length = m at *
  generalize hnx : x.length = l at *
  have HLS := hide (And.intro hna (And.intro hnb hnx))
  clear hna hnb hnx
  go_enter Tryd.func7, Tryd.ntmps7
  go_wp2_with fail
  refine (unhide HKN).mono ?_
  rintro ev w1 ⟨rfl, hb1⟩
  have HB1 := hide hb1
  clear hb1 HKN
  by_cases t1 : 6 < n
  · have d1 : decide ((6 : Int) < (n : Int)) = true := decide_eq_true (by omega)
    go_wp2_with fail
    go_ret
    exact ⟨rfl, unhide HB1⟩
  have d1 : decide ((6 : Int) < (n : Int)) = false := decide_eq_false (by omega)
  by_cases t2 : m < n
  · have d2 : decide ((m : Int) < (n : Int)) = true := decide_eq_true (by omega)
    go_wp2_with fail
    go_ret
    exact ⟨rfl, unhide HB1⟩
  have d2 : decide ((m : Int) < (n : Int)) = false := decide_eq_false (by omega)
  by_cases t3 : l < n
  · have d3 : decide ((l : Int) < (n : Int)) = true := decide_eq_true (by omega)
    go_wp2_with fail
    go_ret
    exact ⟨rfl, unhide HB1⟩
  have d3 : decide ((l : Int) < (n : Int)) = false := decide_eq_false (by omega)
  have HST := hide (LR.start w1 p q FmT)
  have HN6 := hide (And.intro t1 (And.intro t2 t3))
  go_wp2_with fail
  generalize (w1.alloc (.cells #[.slice none 0 0, .int .i64 p] FmT)).alloc (.cells #[.slice none 0 0, .int .i64 q] FmT) = W0 at *
  generalize hgb : w1.heap.size + 1 = gb at *
  have HGB := hide hgb
  clear hgb d1 d2 d3 t1 t2 t3
  go_loopw [15, 16] (fun y i wr => ∃ (j : Nat) (fv gv yv : Value), y = yv ∧ i = .int .i64 j ∧ j ≤ n ∧ Hid (LR (w1.heap.size + 2) w1.heap.size gb w1 wr fv gv yv p q (a.take j) (b.take j) (x.take j))) (fun _ i _ => n - (intOf i).toNat)
  case atStart => exact ⟨0, _, _, _, rfl, rfl, Nat.zero_le _, HST⟩
  case round =>
    clear HST
    obtain ⟨j, fv, gv, yv, hy, rfl, hj, HL⟩ := hrel
    have hy := hy.symm
    subst hy
    by_cases hlt : j < n
    · have hlt' : (j : Int) < (n : Int) := by omega
      have hj6 : j < 9223372036854775807 := by have := (unhide HN6).1; omega
      have hmn := (unhide HN6).2.1
      have hln := (unhide HN6).2.2
      have hjm : j < m := by omega
      have hjl : j < l := by omega
      have hgbe := unhide HGB
      have hbw : Below w1.heap.size w1 wr := (unhide HL).bl w1.heap.size (Nat.le_refl _) (by omega)
      obtain ⟨cab, cao, cacap, hcav, hca1, hca2, hcac⟩ := ((unhide HO).1.below (unhide HB1)).at (by rw [(unhide HLS).1]; omega)
      rw [(unhide HLS).1] at hcav
      injection hcav with hcav hcav2 hcav3
      subst hcav
      subst hcav3
      have hica : j < a.length := by rw [(unhide HLS).1]; omega
      have kca := hcac j hica
      have cca := (hbw.cell (p := ⟨cab, cao + j, none⟩) (cell_lt kca)).trans kca
      have HCca := hide kca
      have rca := (unhide HR).1 _ (List.getElem_mem hica)
      have HEca := hide (take_nextR hica)
      clear hcac hca1 hca2 hcav2 kca
      generalize a[j]'hica = caj at *
      have wca : IntKind.i64.wrap caj = caj := by rw [IntKind.wrap_i64]; omega
      clear rca hica
      obtain ⟨cbb, cbo, cbcap, hcbv, hcb1, hcb2, hcbc⟩ := ((unhide HO).2.1.below (unhide HB1)).at (by rw [(unhide HLS).2.1]; omega)
      rw [(unhide HLS).2.1] at hcbv
      injection hcbv with hcbv hcbv2 hcbv3
      subst hcbv
      subst hcbv3
      have hicb : j < b.length := by rw [(unhide HLS).2.1]; omega
      have kcb := hcbc j hicb
      have ccb := (hbw.cell (p := ⟨cbb, cbo + j, none⟩) (cell_lt kcb)).trans kcb
      have HCcb := hide kcb
      have rcb := (unhide HR).2.1 _ (List.getElem_mem hicb)
      have HEcb := hide (take_nextR hicb)
      clear hcbc hcb1 hcb2 hcbv2 kcb
      generalize b[j]'hicb = cbj at *
      have wcb : IntKind.i64.wrap cbj = cbj := by rw [IntKind.wrap_i64]; omega
      clear rcb hicb
      obtain ⟨cxb, cxo, cxcap, hcxv, hcx1, hcx2, hcxc⟩ := ((unhide HO).2.2.below (unhide HB1)).at (by rw [(unhide HLS).2.2]; omega)
      rw [(unhide HLS).2.2] at hcxv
      injection hcxv with hcxv hcxv2 hcxv3
      subst hcxv
      subst hcxv3
      have hicx : j < x.length := by rw [(unhide HLS).2.2]; omega
      have kcx := hcxc j hicx
      have ccx := (hbw.cell (p := ⟨cxb, cxo + j, none⟩) (cell_lt kcx)).trans kcx
      have HCcx := hide kcx
      have rcx := (unhide HR).2.2.1 _ (List.getElem_mem hicx)
      have HEcx := hide (take_nextR hicx)
      clear hcxc hcx1 hcx2 hcxv2 kcx
      generalize x[j]'hicx = cxj at *
      have wcx : IntKind.i64.wrap cxj = cxj := by rw [IntKind.wrap_i64]; omega
      clear rcx hicx
      go_wp2_with fail
      obtain ⟨w9v, w9, hr, hB, hbx, hL⟩ := ((unhide HL).drewN 1).stepF caj (Nat.le_trans (List.length_take_le _ _) (by have := (unhide HN6).1; omega))
      obtain ⟨w9a, w9n, w9c, hv⟩ : ∃ a n c, w9v = .slice a n c := by
        obtain ⟨a, c, e⟩ := hL.oF.shape
        exact ⟨a, _, c, e⟩
      subst hv
      have c0 : wr.drew.cell? ⟨w1.heap.size, 0, none⟩ = some fv := (unhide HL).bf.c0
      have f0 : wr.drew.frozen? ⟨w1.heap.size, 0, none⟩ = false := (unhide HL).bf.f0
      have c1 : wr.drew.cell? ⟨cab, cao + j, none⟩ = some (.int .i16 caj) := cca
      have ha1 := alloc_below wr.drew (.cells #[.int .i64 caj] I64)
      have HSZ := hide (And.intro ((ha1.cell (p := ⟨w1.heap.size, 0, none⟩) (cell_lt c0)).trans c0) ((ha1.cell (p := ⟨cab, cao + j, none⟩) (cell_lt c1)).trans c1))
      have HS9 := hide (And.intro hbx.c0 ((hB.cell (p := ⟨cab, cao + j, none⟩) (Nat.lt_of_lt_of_le (cell_lt (unhide HCca)) (by omega))).trans c1))
      have HR9 := hide hr
      have HF9 := hide (And.intro hbx.c0 hbx.f0)
      have HL9 := hide hL
      clear hr hB hbx hL ha1 f0
      refine wp_regionE (fun W => W.cell? ⟨w1.heap.size, 0, none⟩ = some fv ∧ W.cell? ⟨cab, cao + j, none⟩ = some (.int .i16 caj)) (fun j => decide (j < 10)) (by kernel_rfl) ⟨c0, c1⟩ (fun hS => ?_)
      clear c0 c1
      refine anyE_take 0 (v := ?_) rfl (by kernel_rfl) (by kernel_rfl) (by kernel_rfl) (by kernel_rfl) (fun _ _ _ h => h) hS (Or.inl ⟨by rfl, ?_⟩) ?_
      rotate_left
      · intro w' hS'
        obtain ⟨e1, e2⟩ := hS'
        go_simp
        try with_reducible rfl
      try simp only [List.getElem_toArray, List.getElem_cons_zero, Act.put, List.setIfInBounds_toArray, List.set_cons_zero, List.set_cons_succ]
      refine anyE_take 1 (v := ?_) rfl (by kernel_rfl) (by kernel_rfl) (by kernel_rfl) (by kernel_rfl) (fun _ _ _ h => h) hS (Or.inl ⟨by rfl, ?_⟩) ?_
      rotate_left
      · intro w' hS'
        obtain ⟨e1, e2⟩ := hS'
        go_simp
        try with_reducible rfl
      try simp only [List.getElem_toArray, List.getElem_cons_succ, List.getElem_cons_zero, Act.put, List.setIfInBounds_toArray, List.set_cons_zero, List.set_cons_succ]
      refine anyE_take 2 (v := ?_) rfl (by kernel_rfl) (by kernel_rfl) (by kernel_rfl) (by kernel_rfl) (fun _ _ _ h => h) hS (Or.inl ⟨by rfl, ?_⟩) ?_
      rotate_left
      · intro w' hS'
        obtain ⟨e1, e2⟩ := hS'
        go_simp
        try with_reducible rfl
      try simp only [List.getElem_toArray, List.getElem_cons_succ, List.getElem_cons_zero, Act.put, List.setIfInBounds_toArray, List.set_cons_zero, List.set_cons_succ]
      refine anyE_take 3 (v := ?_) rfl (by kernel_rfl) (by kernel_rfl) (by kernel_rfl) (by kernel_rfl) (fun _ _ _ h => h) hS (Or.inl ⟨by rfl, ?_⟩) ?_
      rotate_left
      · intro w' hS'
        obtain ⟨e1, e2⟩ := hS'
        go_simp
        try with_reducible rfl
      try simp only [List.getElem_toArray, List.getElem_cons_succ, List.getElem_cons_zero, Act.put, List.setIfInBounds_toArray, List.set_cons_zero, List.set_cons_succ]
      refine anyE_take 4 (v := ?_) rfl (by kernel_rfl) (by kernel_rfl) (by kernel_rfl) (by kernel_rfl) (fun _ _ _ h => h) hS (Or.inl ⟨by rfl, ?_⟩) ?_
      rotate_left
      · intro w' hS'
        obtain ⟨e1, e2⟩ := hS'
        go_simp
        try with_reducible rfl
      try simp only [List.getElem_toArray, List.getElem_cons_succ, List.getElem_cons_zero, Act.put, List.setIfInBounds_toArray, List.set_cons_zero, List.set_cons_succ]
      refine anyE_take 5 (v := ?_) rfl (by kernel_rfl) (by kernel_rfl) (by kernel_rfl) (by kernel_rfl) (fun _ _ _ h => h) hS (Or.inl ⟨by rfl, ?_⟩) ?_
      rotate_left
      · intro w' hS'
        obtain ⟨e1, e2⟩ := hS'
        go_simp
        try with_reducible rfl
      try simp only [List.getElem_toArray, List.getElem_cons_succ, List.getElem_cons_zero, Act.put, List.setIfInBounds_toArray, List.set_cons_zero, List.set_cons_succ]
      refine anyE_take 6 (v := ?_) rfl (by kernel_rfl) (by kernel_rfl) (by kernel_rfl) (by kernel_rfl) (fun _ _ _ h => h) hS (Or.inl ⟨by rfl, ?_⟩) ?_
      rotate_left
      · intro w' hS'
        obtain ⟨e1, e2⟩ := hS'
        go_simp
        try with_reducible rfl
      try simp only [List.getElem_toArray, List.getElem_cons_succ, List.getElem_cons_zero, Act.put, List.setIfInBounds_toArray, List.set_cons_zero, List.set_cons_succ]
      refine anyE_ready [7] (by kernel_rfl) (by simp) (ReadyE.cons rfl (fun K' hK => ?_) ReadyE.nil)
      go_simp
      refine hK _ _ (fun _ => unhide HSZ) ?_
      clear hK K'
      try simp only [List.getElem_toArray, List.getElem_cons_succ, List.getElem_cons_zero, Act.put, List.setIfInBounds_toArray, List.set_cons_zero, List.set_cons_succ]
      refine anyE_ready [8] (by kernel_rfl) (by simp) (ReadyE.cons rfl (fun K' hK => ?_) ReadyE.nil)
      refine step_appendI rfl _ _ rfl rfl _ _ rfl rfl _ _ (unhide HR9) ?_
      refine hK _ _ (fun _ => unhide HS9) ?_
      have hS := unhide HS9
      clear hK K'
      try simp only [List.getElem_toArray, List.getElem_cons_succ, List.getElem_cons_zero, Act.put, List.setIfInBounds_toArray, List.set_cons_zero, List.set_cons_succ]
      refine anyE_take 9 (v := ?_) rfl (by kernel_rfl) (by kernel_rfl) (by kernel_rfl) (by kernel_rfl) (fun _ _ _ h => h) hS (Or.inl ⟨by rfl, ?_⟩) ?_
      rotate_left
      · intro w' hS'
        obtain ⟨e1, e2⟩ := hS'
        go_simp
        try with_reducible rfl
      try simp only [List.getElem_toArray, List.getElem_cons_succ, List.getElem_cons_zero, Act.put, List.setIfInBounds_toArray, List.set_cons_zero, List.set_cons_succ]
      refine any_to_E (by kernel_rfl) ?_
      obtain ⟨x1, x2⟩ := unhide HF9
      refine wpAny_ready (rs := [10]) (by kernel_rfl) (by simp) ?_
      refine AllReady.cons rfl (fun K' hK => ?_) AllReady.nil
      go_simp
      refine hK _ _ ?_
      clear hK K'
      try simp only [List.getElem_toArray, List.getElem_cons_succ, List.getElem_cons_zero, Act.put, List.setIfInBounds_toArray, List.set_cons_zero, List.set_cons_succ]
      refine wpAny_done (by kernel_rfl) ?_ _
      generalize w9.setCell ⟨w1.heap.size, 0, none⟩ (.slice w9a w9n w9c) = w10 at *
      clear x1 x2 HS9 HSZ HR9 HF9 hS
      have HL10 := HL9
      clear HL9 HL
      have hbw2 : Below w1.heap.size w1 w10 := (unhide HL10).bl w1.heap.size (Nat.le_refl _) (by omega)
      have ccb := (hbw2.cell (p := ⟨cbb, cbo + j, none⟩) (cell_lt (unhide HCcb))).trans (unhide HCcb)
      go_wp2_with fail
      obtain ⟨w11v, w11, hr, hB, hbx, hL⟩ := ((unhide HL10).drewN 1).stepG cbj (Nat.le_trans (List.length_take_le _ _) (by have := (unhide HN6).1; omega))
      obtain ⟨w11a, w11n, w11c, hv⟩ : ∃ a n c, w11v = .slice a n c := by
        obtain ⟨a, c, e⟩ := hL.oG.shape
        exact ⟨a, _, c, e⟩
      subst hv
      have c0 : w10.drew.cell? ⟨gb, 0, none⟩ = some gv := (unhide HL10).bg.c0
      have f0 : w10.drew.frozen? ⟨gb, 0, none⟩ = false := (unhide HL10).bg.f0
      have c1 : w10.drew.cell? ⟨cbb, cbo + j, none⟩ = some (.int .i16 cbj) := ccb
      have ha1 := alloc_below w10.drew (.cells #[.int .i64 cbj] I64)
      have HSZ := hide (And.intro ((ha1.cell (p := ⟨gb, 0, none⟩) (cell_lt c0)).trans c0) ((ha1.cell (p := ⟨cbb, cbo + j, none⟩) (cell_lt c1)).trans c1))
      have HS9 := hide (And.intro hbx.c0 ((hB.cell (p := ⟨cbb, cbo + j, none⟩) (Nat.lt_of_lt_of_le (cell_lt (unhide HCcb)) (by omega))).trans c1))
      have HR9 := hide hr
      have HF9 := hide (And.intro hbx.c0 hbx.f0)
      have HL9 := hide hL
      clear hr hB hbx hL ha1 f0
      refine wp_regionE (fun W => W.cell? ⟨gb, 0, none⟩ = some gv ∧ W.cell? ⟨cbb, cbo + j, none⟩ = some (.int .i16 cbj)) (fun j => decide (j < 10)) (by kernel_rfl) ⟨c0, c1⟩ (fun hS => ?_)
      clear c0 c1
      refine anyE_take 0 (v := ?_) rfl (by kernel_rfl) (by kernel_rfl) (by kernel_rfl) (by kernel_rfl) (fun _ _ _ h => h) hS (Or.inl ⟨by rfl, ?_⟩) ?_
      rotate_left
      · intro w' hS'
        obtain ⟨e1, e2⟩ := hS'
        go_simp
        try with_reducible rfl
      try simp only [List.getElem_toArray, List.getElem_cons_zero, Act.put, List.setIfInBounds_toArray, List.set_cons_zero, List.set_cons_succ]
      refine anyE_take 1 (v := ?_) rfl (by kernel_rfl) (by kernel_rfl) (by kernel_rfl) (by kernel_rfl) (fun _ _ _ h => h) hS (Or.inl ⟨by rfl, ?_⟩) ?_
      rotate_left
      · intro w' hS'
        obtain ⟨e1, e2⟩ := hS'
        go_simp
        try with_reducible rfl
      try simp only [List.getElem_toArray, List.getElem_cons_succ, List.getElem_cons_zero, Act.put, List.setIfInBounds_toArray, List.set_cons_zero, List.set_cons_succ]
      refine anyE_take 2 (v := ?_) rfl (by kernel_rfl) (by kernel_rfl) (by kernel_rfl) (by kernel_rfl) (fun _ _ _ h => h) hS (Or.inl ⟨by rfl, ?_⟩) ?_
      rotate_left
      · intro w' hS'
        obtain ⟨e1, e2⟩ := hS'
        go_simp
        try with_reducible rfl
      try simp only [List.getElem_toArray, List.getElem_cons_succ, List.getElem_cons_zero, Act.put, List.setIfInBounds_toArray, List.set_cons_zero, List.set_cons_succ]
      refine anyE_take 3 (v := ?_) rfl (by kernel_rfl) (by kernel_rfl) (by kernel_rfl) (by kernel_rfl) (fun _ _ _ h => h) hS (Or.inl ⟨by rfl, ?_⟩) ?_
      rotate_left
      · intro w' hS'
        obtain ⟨e1, e2⟩ := hS'
        go_simp
        try with_reducible rfl
      try simp only [List.getElem_toArray, List.getElem_cons_succ, List.getElem_cons_zero, Act.put, List.setIfInBounds_toArray, List.set_cons_zero, List.set_cons_succ]
      refine anyE_take 4 (v := ?_) rfl (by kernel_rfl) (by kernel_rfl) (by kernel_rfl) (by kernel_rfl) (fun _ _ _ h => h) hS (Or.inl ⟨by rfl, ?_⟩) ?_
      rotate_left
      · intro w' hS'
        obtain ⟨e1, e2⟩ := hS'
        go_simp
        try with_reducible rfl
      try simp only [List.getElem_toArray, List.getElem_cons_succ, List.getElem_cons_zero, Act.put, List.setIfInBounds_toArray, List.set_cons_zero, List.set_cons_succ]
      refine anyE_take 5 (v := ?_) rfl (by kernel_rfl) (by kernel_rfl) (by kernel_rfl) (by kernel_rfl) (fun _ _ _ h => h) hS (Or.inl ⟨by rfl, ?_⟩) ?_
      rotate_left
      · intro w' hS'
        obtain ⟨e1, e2⟩ := hS'
        go_simp
        try with_reducible rfl
      try simp only [List.getElem_toArray, List.getElem_cons_succ, List.getElem_cons_zero, Act.put, List.setIfInBounds_toArray, List.set_cons_zero, List.set_cons_succ]
      refine anyE_take 6 (v := ?_) rfl (by kernel_rfl) (by kernel_rfl) (by kernel_rfl) (by kernel_rfl) (fun _ _ _ h => h) hS (Or.inl ⟨by rfl, ?_⟩) ?_
      rotate_left
      · intro w' hS'
        obtain ⟨e1, e2⟩ := hS'
        go_simp
        try with_reducible rfl
      try simp only [List.getElem_toArray, List.getElem_cons_succ, List.getElem_cons_zero, Act.put, List.setIfInBounds_toArray, List.set_cons_zero, List.set_cons_succ]
      refine anyE_ready [7] (by kernel_rfl) (by simp) (ReadyE.cons rfl (fun K' hK => ?_) ReadyE.nil)
      go_simp
      refine hK _ _ (fun _ => unhide HSZ) ?_
      clear hK K'
      try simp only [List.getElem_toArray, List.getElem_cons_succ, List.getElem_cons_zero, Act.put, List.setIfInBounds_toArray, List.set_cons_zero, List.set_cons_succ]
      refine anyE_ready [8] (by kernel_rfl) (by simp) (ReadyE.cons rfl (fun K' hK => ?_) ReadyE.nil)
      refine step_appendI rfl _ _ rfl rfl _ _ rfl rfl _ _ (unhide HR9) ?_
      refine hK _ _ (fun _ => unhide HS9) ?_
      have hS := unhide HS9
      clear hK K'
      try simp only [List.getElem_toArray, List.getElem_cons_succ, List.getElem_cons_zero, Act.put, List.setIfInBounds_toArray, List.set_cons_zero, List.set_cons_succ]
      refine anyE_take 9 (v := ?_) rfl (by kernel_rfl) (by kernel_rfl) (by kernel_rfl) (by kernel_rfl) (fun _ _ _ h => h) hS (Or.inl ⟨by rfl, ?_⟩) ?_
      rotate_left
      · intro w' hS'
        obtain ⟨e1, e2⟩ := hS'
        go_simp
        try with_reducible rfl
      try simp only [List.getElem_toArray, List.getElem_cons_succ, List.getElem_cons_zero, Act.put, List.setIfInBounds_toArray, List.set_cons_zero, List.set_cons_succ]
      refine any_to_E (by kernel_rfl) ?_
      obtain ⟨x1, x2⟩ := unhide HF9
      refine wpAny_ready (rs := [10]) (by kernel_rfl) (by simp) ?_
      refine AllReady.cons rfl (fun K' hK => ?_) AllReady.nil
      go_simp
      refine hK _ _ ?_
      clear hK K'
      try simp only [List.getElem_toArray, List.getElem_cons_succ, List.getElem_cons_zero, Act.put, List.setIfInBounds_toArray, List.set_cons_zero, List.set_cons_succ]
      refine wpAny_done (by kernel_rfl) ?_ _
      generalize w11.setCell ⟨gb, 0, none⟩ (.slice w11a w11n w11c) = w12 at *
      clear x1 x2 HS9 HSZ HR9 HF9 hS
      have HL12 := HL9
      clear HL9 HL10
      have hbw3 : Below w1.heap.size w1 w12 := (unhide HL12).bl w1.heap.size (Nat.le_refl _) (by omega)
      have ccx := (hbw3.cell (p := ⟨cxb, cxo + j, none⟩) (cell_lt (unhide HCcx))).trans (unhide HCcx)
      obtain ⟨w13v, w13, hr, hB, hL⟩ := (unhide HL12).stepY cxj (Nat.le_trans (List.length_take_le _ _) (by have := (unhide HN6).1; omega))
      have HR9 := hide hr
      have HL13 : Hid (LR (w1.heap.size + 2) w1.heap.size gb w1 w13 (.slice w9a w9n w9c) (.slice w11a w11n w11c) w13v p q (a.take (j + 1)) (b.take (j + 1)) (x.take (j + 1))) := hide (by rw [unhide HEca, unhide HEcb, unhide HEcx]; exact hL)
      clear hr hB hL HEca HEcb HEcx
      go_wp2_with (at_builtin; refine wpList_appendI rfl _ _ rfl rfl _ _ rfl rfl _ _ (unhide HR9) ?_)
      go_roundw
      case rel => exact ⟨j + 1, _, _, _, rfl, by go_num, by omega, HL13⟩
      case measure => simp [intOf]; omega
    · have hjn : j = n := by omega
      subst hjn
      have hlt' : ¬ (j : Int) < (j : Int) := by omega
      have hC : (a.take j).length = j := by rw [List.length_take, (unhide HLS).1]; exact Nat.min_self _
      have hD : (b.take j).length = j := by rw [List.length_take, (unhide HLS).2.1]; exact Nat.min_eq_left (by have := (unhide HN6).2.1; omega)
      have hY : (x.take j).length = j := by rw [List.length_take, (unhide HLS).2.2]; exact Nat.min_eq_left (by have := (unhide HN6).2.2; omega)
      have sm : ∀ {l : List Int}, Sm16 l → Sm 32768 (l.take j) := fun h y hy => by have := h y (List.mem_of_mem_take hy); omega
      have HP := hide (ring_plain (k := k) (p := p) (q := q) (by have := (unhide HN6).1; omega) hC hD hY (sm (unhide HR).1) (sm (unhide HR).2.1) (sm (unhide HR).2.2.1) (by have := (unhide HR).2.2.2.1; omega) (by have := (unhide HR).2.2.2.2.1; omega) (by have := (unhide HR).2.2.2.2.2; omega))
      have HN0 := hide (show j ≤ 1000 by have := (unhide HN6).1; omega)
      generalize dot (a.take j) (x.take j) + p = M at *
      generalize dot (b.take j) (x.take j) + q = N at *
      generalize (p + q) * k = u at *
      generalize p + q = s at *
      generalize p * k = v at *
      generalize q * k = x2 at *
      generalize mulL (sumL (a.take j) (b.take j)) k = U at *
      generalize sumL (a.take j) (b.take j) = S at *
      generalize mulL (a.take j) k = V at *
      generalize mulL (b.take j) k = X at *
      generalize a.take j = C at *
      generalize b.take j = D at *
      generalize x.take j = Y at *
      have wk := wk
      have hwM := (unhide HP).w1
      have hwO := (unhide HP).w2
      obtain ⟨fa, fc, hv⟩ := (unhide HL).oF.shape
      rw [hC] at hv
      subst hv
      obtain ⟨ga, gc, hv⟩ := (unhide HL).oG.shape
      rw [hD] at hv
      subst hv
      have hbl := (unhide HL).bl w1.heap.size (Nat.le_refl _) (by have := unhide HGB; omega)
      have HBW := hide (bthen (unhide HB1) hbl)
      have H13 := hide (FB.mk (unhide HL).bf (unhide HL).oF.ints)
      have H14 := hide (FB.mk (unhide HL).bg (unhide HL).oG.ints)
      have HY := hide ((unhide HL).oY.ints)
      have HLN := hide (And.intro hC (And.intro hD hY))
      clear hC hD hY sm HL hbl HLS HO HR HN6 wp wq
      have HLS1 := hide (show S.length = j by rw [← (unhide HP).hS, sumL_len C D (by rw [(unhide HLN).1, (unhide HLN).2.1]), (unhide HLN).1])
      have HLV := hide (show V.length = j by rw [← (unhide HP).hV, mulL_len, (unhide HLN).1])
      have HLX := hide (show X.length = j by rw [← (unhide HP).hX, mulL_len, (unhide HLN).2.1])
      have HLU := hide (show U.length = j by rw [← (unhide HP).hU, mulL_len, unhide HLS1])
      obtain ⟨l00, l01, l02, l03, l04⟩ := (unhide H13).bx
      obtain ⟨l10, l11, l12, l13, l14⟩ := (unhide H14).bx
      have HC := hide (addOk wr _ _ _ _ _ _ _ _ j (unhide H13).ints (unhide H14).ints (unhide HP).rC (unhide HP).rD (unhide HP).ip (unhide HP).iq (unhide HLN).1 (unhide HLN).2.1 (unhide HN0) (unhide HP).hS (unhide HP).hs (unhide HP).rS (unhide HP).is)
      go_wp2_with fail
      refine (unhide HC).mono ?_
      rintro ev V1 ⟨s17, c17, rfl, hi, hb⟩
      clear l00 l01 l02 l03 l04 l10 l11 l12 l13 l14 HC
      go_upto_region 15 with fail
      have hal := alloc_below V1 (.cells #[.slice s17 j c17, .int .i64 s] FmT)
      have hbb := bthen hb hal
      have N17 := hide (FB.new (K := s) hi FmT)
      have N13 := hide ((unhide H13).keep hbb)
      have N14 := hide ((unhide H14).keep hbb)
      have NY := hide ((unhide HY).below hbb)
      have NBW := hide (bthen (unhide HBW) hbb)
      clear hal hbb hi hb HY HBW H13 H14
      generalize V1.alloc (.cells #[.slice s17 j c17, .int .i64 s] FmT) = W1 at *
      generalize V1.heap.size = b17 at *
      have H13 := N13
      have H14 := N14
      have H17 := N17
      have HY := NY
      have HBW := NBW
      clear N13 N14 N17 NY NBW
      obtain ⟨l00, l01, l02, l03, l04⟩ := (unhide H14).bx
      obtain ⟨l10, l11, l12, l13, l14⟩ := (unhide H13).bx
      have HC := hide (addOk W1 _ _ _ _ _ _ _ _ j (unhide H14).ints (unhide H13).ints (unhide HP).rD (unhide HP).rC (unhide HP).iq (unhide HP).ip (unhide HLN).2.1 (unhide HLN).1 (unhide HN0) (unhide HP).hT (unhide HP).ht (unhide HP).rS (unhide HP).is)
      go_wp2_with fail
      refine (unhide HC).mono ?_
      rintro ev V2 ⟨s19, c19, rfl, hi, hb⟩
      clear l00 l01 l02 l03 l04 l10 l11 l12 l13 l14 HC
      go_upto_region 16 with fail
      have hal := alloc_below V2 (.cells #[.slice s19 j c19, .int .i64 s] FmT)
      have hbb := bthen hb hal
      have N19 := hide (FB.new (K := s) hi FmT)
      have N13 := hide ((unhide H13).keep hbb)
      have N14 := hide ((unhide H14).keep hbb)
      have N17 := hide ((unhide H17).keep hbb)
      have NY := hide ((unhide HY).below hbb)
      have NBW := hide (bthen (unhide HBW) hbb)
      clear hal hbb hi hb HY HBW H13 H14 H17
      generalize V2.alloc (.cells #[.slice s19 j c19, .int .i64 s] FmT) = W2 at *
      generalize V2.heap.size = b19 at *
      have H13 := N13
      have H14 := N14
      have H17 := N17
      have H19 := N19
      have HY := NY
      have HBW := NBW
      clear N13 N14 N17 N19 NY NBW
      obtain ⟨l00, l01, l02, l03, l04⟩ := (unhide H17).bx
      have HC := hide (mulOk W2 _ _ _ _ k _ j (unhide H17).ints (unhide HP).rS (unhide HP).is (unhide HP).ik (unhide HLS1) (unhide HN0) (unhide HP).hU (unhide HP).hu (unhide HP).rU (unhide HP).iu)
      go_wp2_with fail
      refine (unhide HC).mono ?_
      rintro ev V3 ⟨s21, c21, rfl, hi, hb⟩
      clear l00 l01 l02 l03 l04 HC
      go_upto_region 17 with fail
      have hal := alloc_below V3 (.cells #[.slice s21 j c21, .int .i64 u] FmT)
      have hbb := bthen hb hal
      have N21 := hide (FB.new (K := u) hi FmT)
      have N13 := hide ((unhide H13).keep hbb)
      have N14 := hide ((unhide H14).keep hbb)
      have N17 := hide ((unhide H17).keep hbb)
      have N19 := hide ((unhide H19).keep hbb)
      have NY := hide ((unhide HY).below hbb)
      have NBW := hide (bthen (unhide HBW) hbb)
      clear hal hbb hi hb HY HBW H13 H14 H17 H19
      generalize V3.alloc (.cells #[.slice s21 j c21, .int .i64 u] FmT) = W3 at *
      generalize V3.heap.size = b21 at *
      have H13 := N13
      have H14 := N14
      have H17 := N17
      have H19 := N19
      have H21 := N21
      have HY := NY
      have HBW := NBW
      clear N13 N14 N17 N19 N21 NY NBW
      obtain ⟨l00, l01, l02, l03, l04⟩ := (unhide H13).bx
      have HC := hide (mulOk W3 _ _ _ _ k _ j (unhide H13).ints (unhide HP).rC (unhide HP).ip (unhide HP).ik (unhide HLN).1 (unhide HN0) (unhide HP).hV (unhide HP).hv (unhide HP).rV (unhide HP).iv)
      go_wp2_with fail
      refine (unhide HC).mono ?_
      rintro ev V4 ⟨s23, c23, rfl, hi, hb⟩
      clear l00 l01 l02 l03 l04 HC
      go_upto_region 18 with fail
      have hal := alloc_below V4 (.cells #[.slice s23 j c23, .int .i64 v] FmT)
      have hbb := bthen hb hal
      have N23 := hide (FB.new (K := v) hi FmT)
      have N13 := hide ((unhide H13).keep hbb)
      have N14 := hide ((unhide H14).keep hbb)
      have N17 := hide ((unhide H17).keep hbb)
      have N19 := hide ((unhide H19).keep hbb)
      have N21 := hide ((unhide H21).keep hbb)
      have NY := hide ((unhide HY).below hbb)
      have NBW := hide (bthen (unhide HBW) hbb)
      clear hal hbb hi hb HY HBW H13 H14 H17 H19 H21
      generalize V4.alloc (.cells #[.slice s23 j c23, .int .i64 v] FmT) = W4 at *
      generalize V4.heap.size = b23 at *
      have H13 := N13
      have H14 := N14
      have H17 := N17
      have H19 := N19
      have H21 := N21
      have H23 := N23
      have HY := NY
      have HBW := NBW
      clear N13 N14 N17 N19 N21 N23 NY NBW
      obtain ⟨l00, l01, l02, l03, l04⟩ := (unhide H14).bx
      have HC := hide (mulOk W4 _ _ _ _ k _ j (unhide H14).ints (unhide HP).rD (unhide HP).iq (unhide HP).ik (unhide HLN).2.1 (unhide HN0) (unhide HP).hX (unhide HP).hx (unhide HP).rX (unhide HP).ix)
      go_wp2_with fail
      refine (unhide HC).mono ?_
      rintro ev V5 ⟨s25, c25, rfl, hi, hb⟩
      clear l00 l01 l02 l03 l04 HC
      go_upto_region 19 with fail
      have hal := alloc_below V5 (.cells #[.slice s25 j c25, .int .i64 x2] FmT)
      have hbb := bthen hb hal
      have N25 := hide (FB.new (K := x2) hi FmT)
      have N13 := hide ((unhide H13).keep hbb)
      have N14 := hide ((unhide H14).keep hbb)
      have N17 := hide ((unhide H17).keep hbb)
      have N19 := hide ((unhide H19).keep hbb)
      have N21 := hide ((unhide H21).keep hbb)
      have N23 := hide ((unhide H23).keep hbb)
      have NY := hide ((unhide HY).below hbb)
      have NBW := hide (bthen (unhide HBW) hbb)
      clear hal hbb hi hb HY HBW H13 H14 H17 H19 H21 H23
      generalize V5.alloc (.cells #[.slice s25 j c25, .int .i64 x2] FmT) = W5 at *
      generalize V5.heap.size = b25 at *
      have H13 := N13
      have H14 := N14
      have H17 := N17
      have H19 := N19
      have H21 := N21
      have H23 := N23
      have H25 := N25
      have HY := NY
      have HBW := NBW
      clear N13 N14 N17 N19 N21 N23 N25 NY NBW
      obtain ⟨l00, l01, l02, l03, l04⟩ := (unhide H23).bx
      obtain ⟨l10, l11, l12, l13, l14⟩ := (unhide H25).bx
      have HC := hide (addOk W5 _ _ _ _ _ _ _ _ j (unhide H23).ints (unhide H25).ints (unhide HP).rV (unhide HP).rX (unhide HP).iv (unhide HP).ix (unhide HLV) (unhide HLX) (unhide HN0) (unhide HP).hZ (unhide HP).hz (unhide HP).rU (unhide HP).iu)
      go_wp2_with fail
      refine (unhide HC).mono ?_
      rintro ev V6 ⟨s27, c27, rfl, hi, hb⟩
      clear l00 l01 l02 l03 l04 l10 l11 l12 l13 l14 HC
      go_upto_region 20 with fail
      have hal := alloc_below V6 (.cells #[.slice s27 j c27, .int .i64 u] FmT)
      have hbb := bthen hb hal
      have N27 := hide (FB.new (K := u) hi FmT)
      have N13 := hide ((unhide H13).keep hbb)
      have N14 := hide ((unhide H14).keep hbb)
      have N17 := hide ((unhide H17).keep hbb)
      have N19 := hide ((unhide H19).keep hbb)
      have N21 := hide ((unhide H21).keep hbb)
      have N23 := hide ((unhide H23).keep hbb)
      have N25 := hide ((unhide H25).keep hbb)
      have NY := hide ((unhide HY).below hbb)
      have NBW := hide (bthen (unhide HBW) hbb)
      clear hal hbb hi hb HY HBW H13 H14 H17 H19 H21 H23 H25
      generalize V6.alloc (.cells #[.slice s27 j c27, .int .i64 u] FmT) = W6 at *
      generalize V6.heap.size = b27 at *
      have H13 := N13
      have H14 := N14
      have H17 := N17
      have H19 := N19
      have H21 := N21
      have H23 := N23
      have H25 := N25
      have H27 := N27
      have HY := NY
      have HBW := NBW
      clear N13 N14 N17 N19 N21 N23 N25 N27 NY NBW
      obtain ⟨l00, l01, l02, l03, l04⟩ := (unhide H17).bx
      obtain ⟨l10, l11, l12, l13, l14⟩ := (unhide H19).bx
      have HC := hide (sameOk W6 _ _ S s (unhide H17).ints (unhide H19).ints (by rw [unhide HLS1]; exact unhide HN0))
      go_wp2_with fail
      refine (unhide HC).mono ?_
      rintro ev W7 ⟨rfl, hb⟩
      clear l00 l01 l02 l03 l04 l10 l11 l12 l13 l14 HC
      clear H17 H19 H23 H25
      have N13 := hide ((unhide H13).keep hb)
      have N14 := hide ((unhide H14).keep hb)
      have N21 := hide ((unhide H21).keep hb)
      have N27 := hide ((unhide H27).keep hb)
      have NY := hide ((unhide HY).below hb)
      have NBW := hide (bthen (unhide HBW) hb)
      clear hb HY HBW H13 H14 H21 H27
      have H13 := N13
      have H14 := N14
      have H21 := N21
      have H27 := N27
      have HY := NY
      have HBW := NBW
      clear N13 N14 N21 N27 NY NBW
      obtain ⟨l00, l01, l02, l03, l04⟩ := (unhide H21).bx
      obtain ⟨l10, l11, l12, l13, l14⟩ := (unhide H27).bx
      have HC := hide (sameOk W7 _ _ U u (unhide H21).ints (unhide H27).ints (by rw [unhide HLU]; exact unhide HN0))
      go_wp2_with fail
      refine (unhide HC).mono ?_
      rintro ev W8 ⟨rfl, hb⟩
      clear l00 l01 l02 l03 l04 l10 l11 l12 l13 l14 HC
      clear H27
      have N13 := hide ((unhide H13).keep hb)
      have N14 := hide ((unhide H14).keep hb)
      have N21 := hide ((unhide H21).keep hb)
      have NY := hide ((unhide HY).below hb)
      have NBW := hide (bthen (unhide HBW) hb)
      clear hb HY HBW H13 H14 H21
      have H13 := N13
      have H14 := N14
      have H21 := N21
      have HY := NY
      have HBW := NBW
      clear N13 N14 N21 NY NBW
      obtain ⟨l00, l01, l02, l03, l04⟩ := (unhide H13).bx
      have HC := hide (atOk W8 _ _ _ _ _ _ (unhide H13).ints (unhide HY) (unhide HP).rC (unhide HP).rY (unhide HP).ip (by rw [(unhide HLN).1, (unhide HLN).2.2]) (by rw [(unhide HLN).1]; exact unhide HN0) (unhide HP).hM)
      go_wp2_with fail
      refine (unhide HC).mono ?_
      rintro ev W9 ⟨rfl, hb⟩
      clear l00 l01 l02 l03 l04 HC
      clear H13
      have N14 := hide ((unhide H14).keep hb)
      have N21 := hide ((unhide H21).keep hb)
      have NY := hide ((unhide HY).below hb)
      have NBW := hide (bthen (unhide HBW) hb)
      clear hb HY HBW H14 H21
      have H14 := N14
      have H21 := N21
      have HY := NY
      have HBW := NBW
      clear N14 N21 NY NBW
      obtain ⟨l00, l01, l02, l03, l04⟩ := (unhide H14).bx
      have HC := hide (atOk W9 _ _ _ _ _ _ (unhide H14).ints (unhide HY) (unhide HP).rD (unhide HP).rY (unhide HP).iq (by rw [(unhide HLN).2.1, (unhide HLN).2.2]) (by rw [(unhide HLN).2.1]; exact unhide HN0) (unhide HP).hN)
      go_wp2_with fail
      refine (unhide HC).mono ?_
      rintro ev W10 ⟨rfl, hb⟩
      clear l00 l01 l02 l03 l04 HC
      clear H14
      have N21 := hide ((unhide H21).keep hb)
      have NY := hide ((unhide HY).below hb)
      have NBW := hide (bthen (unhide HBW) hb)
      clear hb HY HBW H21
      have H21 := N21
      have HY := NY
      have HBW := NBW
      clear N21 NY NBW
      obtain ⟨l00, l01, l02, l03, l04⟩ := (unhide H21).bx
      have HC := hide (atOk W10 _ _ _ _ _ _ (unhide H21).ints (unhide HY) (unhide HP).rU (unhide HP).rY (unhide HP).iu (by rw [(unhide HLU), (unhide HLN).2.2]) (by rw [(unhide HLU)]; exact unhide HN0) (unhide HP).hO)
      go_wp2_with fail
      refine (unhide HC).mono ?_
      rintro ev W11 ⟨rfl, hb⟩
      clear l00 l01 l02 l03 l04 HC
      clear H21
      have NY := hide ((unhide HY).below hb)
      have NBW := hide (bthen (unhide HBW) hb)
      clear hb HY HBW 
      have HY := NY
      have HBW := NBW
      clear NY NBW
      have ho : ((k * (M + N)) == (k * (M + N))) = true := beq_self_eq_true _
      go_wp2_with fail
      go_ret
      exact ⟨rfl, unhide HBW⟩
end Go.Proofs.YtmbhamnkbpcljaaDoor.Line
