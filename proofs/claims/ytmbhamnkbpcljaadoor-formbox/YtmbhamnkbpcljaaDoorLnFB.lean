/- FormBox, walked. -/
import Derived.Test.YtmbhamnkbpcljaaDoorLnFBm
import Derived.Test.YtmbhamnkbpcljaaDoorLnBoxP
import Derived.Test.YtmbhamnkbpcljaaDoorLnArgK
import Derived.Test.YtmbhamnkbpcljaaDoorLnOk
import Derived.Test.YtmbhamnkbpcljaaDoorLnRg
import Derived.Test.YtmbhamnkbpcljaaDoorRegE
import Derived.Deep.QuietTactic
import Derived.BigQuiet
namespace Go.Proofs.YtmbhamnkbpcljaaDoor.Line
open Go.ChangeShapes Go.WideShapes Go.ChangeAt Go.RowKit
set_option linter.unusedVariables false

theorem step_appendB {ops : Array Oper} {o : Oper} {a : Act} {w : World} {K : Act → World → Prop} {Q : Exit → Act → World → Prop} {P : Prop} (hgd : o.guard = none) (s x : Operand)
    (ho : o.op = .call { callee := .builtin .append, args := #[s, x], argTypes := #[IST, IST] }) (hty : o.type = IST) (sv xv : Value) (hs : a.eval s = sv) (hx : a.eval x = xv) (v' : Value) (w' : World)
    (hr : (Builtin.append_ #[IST, IST] IST #[sv, xv]).run Tryd.prog w = .ok v' w') (h : K (a.put o.dst v') w') : if Region.wanted o (yielded ops a.tmps) = true then Oper.wp Tryd.prog o a w K Q else P := by
  have hw : Region.wanted o (yielded ops a.tmps) = true := by simp [Region.wanted, hgd]
  rw [if_pos hw]
  unfold Oper.wp execOp
  simp only [ho, hty, resolve, invoke, builtin, Sem.run_bind, Sem.run_pure, Result.andThen_ok, List.map_toArray, List.map_cons, List.map_nil, hs, hx, hr]
  exact h
theorem wpList_appendB {ops : Array Oper} {rest : List Oper} {o : Oper} {a : Act} {w : World} {Q : Exit → Act → World → Prop} (hgd : o.guard = none) (s x : Operand)
    (ho : o.op = .call { callee := .builtin .append, args := #[s, x], argTypes := #[IST, IST] }) (hty : o.type = IST) (sv xv : Value) (hs : a.eval s = sv) (hx : a.eval x = xv) (v' : Value) (w' : World)
    (hr : (Builtin.append_ #[IST, IST] IST #[sv, xv]).run Tryd.prog w = .ok v' w') (h : wpList Tryd.prog ops Q rest (a.put o.dst v') w') : wpList Tryd.prog ops Q (o :: rest) a w := by
  refine wpList_plain hgd fun K hK => ?_
  unfold Oper.wp execOp
  simp only [ho, hty, resolve, invoke, builtin, Sem.run_bind, Sem.run_pure, Result.andThen_ok, List.map_toArray, List.map_cons, List.map_nil, hs, hx, hr]
  exact hK _ _ h
theorem take_nextB {l : List Int} {i : Nat} (h : i < l.length) : l.take (i + 1) = l.take i ++ [l[i]] := List.take_succ_eq_append_getElem h
def hiL (lo nn : List Int) : List Int := List.zipWith (fun a n => a + n % 6) lo nn
theorem hiL_len (lo nn : List Int) : (hiL lo nn).length = min lo.length nn.length := List.length_zipWith
theorem hiL_at {lo nn : List Int} {i : Nat} (h1 : i < lo.length) (h2 : i < nn.length) : (hiL lo nn)[i]'(by rw [hiL_len]; omega) = lo[i] + nn[i] % 6 := by simp [hiL]
theorem InB.sm {M : Nat} {a b x : List Int} (h : InB a b x) (ha : Sm M a) (hb : Sm M b) : Sm M x := fun y hy => by
  obtain ⟨i, hi, rfl⟩ := List.getElem_of_mem hy
  obtain ⟨h1, h2⟩ := h.len
  have h3 := h.at i hi (by omega) (by omega)
  have h4 := ha _ (List.getElem_mem (show i < a.length by omega))
  have h5 := hb _ (List.getElem_mem (show i < b.length by omega))
  omega
theorem dot_take : ∀ (c x : List Int) (i : Nat) (hc : i < c.length) (hx : i < x.length), dot (c.take (i + 1)) (x.take (i + 1)) = dot (c.take i) (x.take i) + c[i] * x[i]
  | c :: cs, x :: xs, 0, _, _ => by simp [dot]
  | c :: cs, x :: xs, i + 1, hc, hx => by
    simp only [List.take_succ_cons, dot, List.getElem_cons_succ]
    rw [dot_take cs xs i (by simpa using hc) (by simpa using hx)]
    omega
  | [], _, _, hc, _ => by simp at hc
  | c :: cs, [], _, _, hx => by simp at hx
structure BoxF (n : Nat) (C A B : List Int) (k P Q : Int) : Prop where
  lC : C.length = n
  lA : A.length = n
  lB : B.length = n
  n3 : n ≤ 3
  inb : InB A B A
  e : rngE C A B k = 0
  v : rngV C A B k = (P, Q)
  hP : dot C (lowL C A B) + k = P
  hQ : dot C (lowL C B A) + k = Q
  sC : Sm 128 C
  sA : Sm 133 A
  sB : Sm 133 B
  kk : k.natAbs ≤ 32768
  bP : P.natAbs ≤ 100000
  bQ : Q.natAbs ≤ 100000
theorem box_dot {c x : List Int} (h : c.length ≤ 3) (hc : Sm 128 c) (hx : Sm 133 x) : (dot c x).natAbs ≤ 51072 := by
  have h1 := dot_small 128 133 c x hc hx
  have := Nat.mul_le_mul_right (128 * 133) h
  omega
theorem box_facts {n : Nat} {C A B : List Int} {k : Int} (lC : C.length = n) (lA : A.length = n) (n3 : n ≤ 3) (inb : InB A B A) (sC : Sm 128 C) (sA : Sm 133 A) (sB : Sm 133 B) (kk : k.natAbs ≤ 32768) :
    BoxF n C A B k (dot C (lowL C A B) + k) (dot C (lowL C B A) + k) := by
  have lB : B.length = n := by rw [inb.len.2, lA]
  obtain ⟨k1, k2⟩ := low_in inb (show C.length = A.length by omega)
  have d1 := box_dot (by omega) sC (k1.sm sA sB)
  have d2 := box_dot (by omega) sC (k2.sm sA sB)
  have hl1 := lowL_len C A B (by omega) (by omega)
  have hl2 := lowL_len C B A (by omega) (by omega)
  have hm := Nat.mul_le_mul_right (128 * 133) (show C.length ≤ 3 by omega)
  have a1 := atP_dot 128 133 C (lowL C A B) k hl1.symm sC (k1.sm sA sB) (by omega)
  have a2 := atP_dot 128 133 C (lowL C B A) k hl2.symm sC (k2.sm sA sB) (by omega)
  have hb : boxP C.length A B = true := by
    unfold boxP
    rw [Bool.and_eq_true]
    refine ⟨decide_eq_true ⟨by omega, by omega⟩, List.all_eq_true.2 fun i hi => ?_⟩
    have hi := List.mem_range.1 hi
    have := inb.at i (by omega) (by omega) (by omega)
    apply decide_eq_true
    rw [List.getD_eq_getElem?_getD, List.getD_eq_getElem?_getD, List.getElem?_eq_getElem (by omega), List.getElem?_eq_getElem (by omega)]
    simp only [Option.getD_some]
    omega
  have he : rngE C A B k = 0 := by
    unfold rngE
    rw [hb, a1, a2]
    rfl
  refine ⟨lC, lA, lB, n3, inb, he, ?_, rfl, rfl, sC, sA, sB, kk, by omega, by omega⟩
  unfold rngV
  rw [if_pos he, a1, a2]
  rfl
def isYes : Value → Bool
  | .bool b => b
  | _ => false
/-- what is known of the least and the most, at a point or behind the last one -/
def BoxI (C A B : List Int) (k P Q s t : Int) (X : List Int) : Bool → Prop
  | true => InB A B X ∧ Seen C A B k (rankB A B X) s t
  | false => s = P ∧ t = Q
def SmI8 (l : List Int) : Prop := ∀ y ∈ l, -128 ≤ y ∧ y ≤ 127
def SmU8 (l : List Int) : Prop := ∀ y ∈ l, 0 ≤ y ∧ y ≤ 255
theorem mid_at {a x : List Int} {p : Nat} (ha : p < a.length) (hx : p < x.length) : (a.take p ++ x.drop p)[p]'(by rw [List.length_append, List.length_take, List.length_drop]; omega) = x[p] := by
  rw [List.getElem_append_right (by rw [List.length_take]; omega)]
  simp [Nat.min_eq_left (Nat.le_of_lt ha)]
theorem set_mid {a x : List Int} {p : Nat} {v : Int} (ha : p < a.length) (hx : p < x.length) : (a.take p ++ x.drop p).set p v = a.take p ++ v :: x.drop (p + 1) := by
  rw [List.set_append_right _ _ (by rw [List.length_take]; omega), List.length_take, Nat.min_eq_left (Nat.le_of_lt ha), Nat.sub_self, List.drop_eq_getElem_cons hx, List.set_cons_zero]
theorem set_low {a x : List Int} {p : Nat} (ha : p < a.length) (hx : p < x.length) : (a.take p ++ x.drop p).set p a[p] = a.take (p + 1) ++ x.drop (p + 1) := by
  rw [set_mid ha hx, take_nextB ha, List.append_assoc, List.singleton_append]
theorem next_up {a b x : List Int} {p : Nat} (h : InB a b x) (hn : nextB a b x = (nextB (a.drop p) (b.drop p) (x.drop p)).map (a.take p ++ ·)) (hx : p < x.length) (hb : p < b.length) (ha : p < a.length) (hlt : x[p] < b[p]) : nextB a b x = some (a.take p ++ (x[p] + 1) :: x.drop (p + 1)) := by
  rw [hn, next_at h p hx hx hb ha, if_pos hlt]
  rfl
theorem next_dn {a b x : List Int} {p : Nat} (h : InB a b x) (hn : nextB a b x = (nextB (a.drop p) (b.drop p) (x.drop p)).map (a.take p ++ ·)) (hx : p < x.length) (hb : p < b.length) (ha : p < a.length) (hlt : ¬ x[p] < b[p]) : nextB a b x = (nextB (a.drop (p + 1)) (b.drop (p + 1)) (x.drop (p + 1))).map (a.take (p + 1) ++ ·) := by
  rw [hn, next_at h p hx hx hb ha, if_neg hlt, Option.map_map, take_nextB ha]
  congr 1
  funext z
  show a.take p ++ (a[p] :: z) = (a.take p ++ [a[p]]) ++ z
  rw [List.append_assoc]
  rfl
theorem tmod6 {y : Int} (h : 0 ≤ y) : Int.tmod y 6 = y % 6 := Int.tmod_eq_emod_of_nonneg h

set_option maxHeartbeats 32000000 in
set_option maxRecDepth 1000000 in
theorem formBox_walk (w : World) (cv lv nv : Value) (c lo nn : List Int) (k : Int) (HKN0 : Calls Tryd.prog 9 #[] w fun e w' => e = .returned (.bool true) ∧ Below w.heap.size w w') (hc : IntsK .i8 w cv c) (hl : IntsK .i8 w lv lo) (hn : IntsK .u8 w nv nn) (rc : SmI8 c) (rl : SmI8 lo) (rn : SmU8 nn) (ik : -32768 ≤ k ∧ k ≤ 32767) :
    Calls Tryd.prog 6 #[cv, .int .i16 k, lv, nv] w fun e w' => e = .returned (.bool true) ∧ Below w.heap.size w w' := by
  have HKN := hide HKN0
  have HO := hide (And.intro hc (And.intro hl hn))
  have HR := hide (And.intro rc (And.intro rl (And.intro rn ik)))
  obtain ⟨aa, ac, rfl⟩ := hc.shape
  obtain ⟨ba, bc, rfl⟩ := hl.shape
  obtain ⟨xa, xc, rfl⟩ := hn.shape
  have wk : IntKind.i64.wrap k = k := by rw [IntKind.wrap_i64]; omega
  clear HKN0 hc hl hn rc rl rn ik
  generalize hna : c.length = n at *
  generalize hnb : lo.length = m at *
  generalize hnx : nn.length = l at *
  have HLS := hide (And.intro hna (And.intro hnb hnx))
  clear hna hnb hnx
  go_enter Tryd.func6, Tryd.ntmps6
  go_wp2_with fail
  refine (unhide HKN).mono ?_
  rintro ev w1 ⟨rfl, hb1⟩
  have HB1 := hide hb1
  clear hb1 HKN
  by_cases t1 : 3 < n
  · have d1 : decide ((3 : Int) < (n : Int)) = true := decide_eq_true (by omega)
    go_wp2_with fail
    go_ret
    exact ⟨rfl, unhide HB1⟩
  have d1 : decide ((3 : Int) < (n : Int)) = false := decide_eq_false (by omega)
  by_cases t2 : m < n
  · have d2 : decide ((m : Int) < (n : Int)) = true := decide_eq_true (by omega)
    go_wp2_with fail
    go_ret
    exact ⟨rfl, unhide HB1⟩
  have d2 : decide ((m : Int) < (n : Int)) = false := decide_eq_false (by omega)
  by_cases t3 : l < n
  · have d3 : decide ((l : Int) < (n : Int)) = true := decide_eq_true (by omega)
    go_wp2_with fail
    go_ret
    exact ⟨rfl, unhide HB1⟩
  have d3 : decide ((l : Int) < (n : Int)) = false := decide_eq_false (by omega)
  have HST := hide (LB.start w1 k FmT)
  have HN6 := hide (And.intro t1 (And.intro t2 t3))
  go_wp2_with fail
  generalize w1.alloc (.cells #[.slice none 0 0, .int .i64 k] FmT) = W0 at *
  clear d1 d2 d3 t1 t2 t3
  go_loopw [10, 11, 12] (fun y z i wr => ∃ (j : Nat) (fv av bv : Value), y = av ∧ z = bv ∧ i = .int .i64 j ∧ j ≤ n ∧ Hid (LB (w1.heap.size + 1) w1.heap.size w1 wr fv av bv k (c.take j) (lo.take j) ((hiL lo nn).take j))) (fun _ _ i _ => n - (intOf i).toNat)
  case atStart => exact ⟨0, _, _, _, rfl, rfl, rfl, Nat.zero_le _, HST⟩
  case round =>
    clear HST
    obtain ⟨j, fv, av, bv, hy, hz, rfl, hj, HL⟩ := hrel
    have hy := hy.symm
    subst hy
    have hz := hz.symm
    subst hz
    by_cases hlt : j < n
    · have hlt' : (j : Int) < (n : Int) := by omega
      have hj6 : j < 9223372036854775807 := by have := (unhide HN6).1; omega
      have hmn := (unhide HN6).2.1
      have hln := (unhide HN6).2.2
      have hjm : j < m := by omega
      have hjl : j < l := by omega
      have hbw : Below w1.heap.size w1 wr := (unhide HL).bl w1.heap.size (Nat.le_refl _)
      obtain ⟨cab, cao, cacap, hcav, hca1, hca2, hcac⟩ := ((unhide HO).1.below (unhide HB1)).at (by rw [(unhide HLS).1]; omega)
      rw [(unhide HLS).1] at hcav
      injection hcav with hcav hcav2 hcav3
      subst hcav
      subst hcav3
      have hica : j < c.length := by rw [(unhide HLS).1]; omega
      have kca := hcac j hica
      have cca := (hbw.cell (p := ⟨cab, cao + j, none⟩) (cell_lt kca)).trans kca
      have HCca := hide kca
      have rca := (unhide HR).1 _ (List.getElem_mem hica)
      have HEca := hide (take_nextB hica)
      clear hcac hca1 hca2 hcav2 kca
      obtain ⟨cbb, cbo, cbcap, hcbv, hcb1, hcb2, hcbc⟩ := ((unhide HO).2.1.below (unhide HB1)).at (by rw [(unhide HLS).2.1]; omega)
      rw [(unhide HLS).2.1] at hcbv
      injection hcbv with hcbv hcbv2 hcbv3
      subst hcbv
      subst hcbv3
      have hicb : j < lo.length := by rw [(unhide HLS).2.1]; omega
      have kcb := hcbc j hicb
      have ccb := (hbw.cell (p := ⟨cbb, cbo + j, none⟩) (cell_lt kcb)).trans kcb
      have HCcb := hide kcb
      have rcb := (unhide HR).2.1 _ (List.getElem_mem hicb)
      have HEcb := hide (take_nextB hicb)
      clear hcbc hcb1 hcb2 hcbv2 kcb
      obtain ⟨cxb, cxo, cxcap, hcxv, hcx1, hcx2, hcxc⟩ := ((unhide HO).2.2.below (unhide HB1)).at (by rw [(unhide HLS).2.2]; omega)
      rw [(unhide HLS).2.2] at hcxv
      injection hcxv with hcxv hcxv2 hcxv3
      subst hcxv
      subst hcxv3
      have hicx : j < nn.length := by rw [(unhide HLS).2.2]; omega
      have kcx := hcxc j hicx
      have ccx := (hbw.cell (p := ⟨cxb, cxo + j, none⟩) (cell_lt kcx)).trans kcx
      have HCcx := hide kcx
      have rcx := (unhide HR).2.2.1 _ (List.getElem_mem hicx)
      have HEcx : Hid ((hiL lo nn).take (j + 1) = (hiL lo nn).take j ++ [lo[j]'hicb + nn[j]'hicx % 6]) := hide (by
        have := take_nextB (l := hiL lo nn) (i := j) (by rw [hiL_len]; omega)
        rwa [hiL_at hicb hicx] at this)
      clear hcxc hcx1 hcx2 hcxv2 kcx
      generalize c[j]'hica = caj at *
      have wca : IntKind.i64.wrap caj = caj := by rw [IntKind.wrap_i64]; omega
      generalize lo[j]'hicb = cbj at *
      have wcb : IntKind.i64.wrap cbj = cbj := by rw [IntKind.wrap_i64]; omega
      generalize nn[j]'hicx = cxj at *
      have ht := tmod6 rcx.1
      have hm0 := Int.emod_nonneg cxj (show (6 : Int) ≠ 0 by decide)
      have hm1 := Int.emod_lt_of_pos cxj (show (0 : Int) < 6 by decide)
      generalize cxj % 6 = rj at *
      have wr6 : IntKind.i64.wrap rj = rj := by rw [IntKind.wrap_i64]; omega
      have wsum : IntKind.i64.wrap (cbj + rj) = cbj + rj := by rw [IntKind.wrap_i64]; omega
      clear rca hica rcb hicb rcx hicx hm0 hm1
      go_wp2_with fail
      obtain ⟨w9v, w9, hr, hB, hbx, hL⟩ := ((unhide HL).drewN 1).stepF caj (Nat.le_trans (List.length_take_le _ _) (by have := (unhide HN6).1; omega))
      obtain ⟨w9a, w9n, w9c, hv⟩ : ∃ a n c, w9v = .slice a n c := by
        obtain ⟨a, c, e⟩ := hL.oF.shape
        exact ⟨a, _, c, e⟩
      subst hv
      have c0 : wr.drew.cell? ⟨w1.heap.size, 0, none⟩ = some fv := (unhide HL).bf.c0
      have f0 : wr.drew.frozen? ⟨w1.heap.size, 0, none⟩ = false := (unhide HL).bf.f0
      have c1 : wr.drew.cell? ⟨cab, cao + j, none⟩ = some (.int .i8 caj) := cca
      have ha1 := alloc_below wr.drew (.cells #[.int .i64 caj] I64)
      have HSZ := hide (And.intro ((ha1.cell (p := ⟨w1.heap.size, 0, none⟩) (cell_lt c0)).trans c0) ((ha1.cell (p := ⟨cab, cao + j, none⟩) (cell_lt c1)).trans c1))
      have HS9 := hide (And.intro hbx.c0 ((hB.cell (p := ⟨cab, cao + j, none⟩) (Nat.lt_of_lt_of_le (cell_lt (unhide HCca)) (by omega))).trans c1))
      have HR9 := hide hr
      have HF9 := hide (And.intro hbx.c0 hbx.f0)
      have HL9 := hide hL
      clear hr hB hbx hL ha1 f0
      refine wp_regionE (fun W => W.cell? ⟨w1.heap.size, 0, none⟩ = some fv ∧ W.cell? ⟨cab, cao + j, none⟩ = some (.int .i8 caj)) (fun j => decide (j < 10)) (by kernel_rfl) ⟨c0, c1⟩ (fun hS => ?_)
      clear c0 c1
      refine anyE_take 0 (v := ?_) rfl (by kernel_rfl) (by kernel_rfl) (by kernel_rfl) (by kernel_rfl) (fun _ _ _ h => h) hS (Or.inl ⟨by rfl, ?_⟩) ?_
      rotate_left
      · intro w' hS'
        obtain ⟨e1, e2⟩ := hS'
        go_simp
        try with_reducible rfl
      try simp only [List.getElem_toArray, List.getElem_cons_zero, Act.put, List.setIfInBounds_toArray, List.set_cons_zero, List.set_cons_succ]
      refine anyE_take 1 (v := ?_) rfl (by kernel_rfl) (by kernel_rfl) (by kernel_rfl) (by kernel_rfl) (fun _ _ _ h => h) hS (Or.inl ⟨by rfl, ?_⟩) ?_
      rotate_left
      · intro w' hS'
        obtain ⟨e1, e2⟩ := hS'
        go_simp
        try with_reducible rfl
      try simp only [List.getElem_toArray, List.getElem_cons_succ, List.getElem_cons_zero, Act.put, List.setIfInBounds_toArray, List.set_cons_zero, List.set_cons_succ]
      refine anyE_take 2 (v := ?_) rfl (by kernel_rfl) (by kernel_rfl) (by kernel_rfl) (by kernel_rfl) (fun _ _ _ h => h) hS (Or.inl ⟨by rfl, ?_⟩) ?_
      rotate_left
      · intro w' hS'
        obtain ⟨e1, e2⟩ := hS'
        go_simp
        try with_reducible rfl
      try simp only [List.getElem_toArray, List.getElem_cons_succ, List.getElem_cons_zero, Act.put, List.setIfInBounds_toArray, List.set_cons_zero, List.set_cons_succ]
      refine anyE_take 3 (v := ?_) rfl (by kernel_rfl) (by kernel_rfl) (by kernel_rfl) (by kernel_rfl) (fun _ _ _ h => h) hS (Or.inl ⟨by rfl, ?_⟩) ?_
      rotate_left
      · intro w' hS'
        obtain ⟨e1, e2⟩ := hS'
        go_simp
        try with_reducible rfl
      try simp only [List.getElem_toArray, List.getElem_cons_succ, List.getElem_cons_zero, Act.put, List.setIfInBounds_toArray, List.set_cons_zero, List.set_cons_succ]
      refine anyE_take 4 (v := ?_) rfl (by kernel_rfl) (by kernel_rfl) (by kernel_rfl) (by kernel_rfl) (fun _ _ _ h => h) hS (Or.inl ⟨by rfl, ?_⟩) ?_
      rotate_left
      · intro w' hS'
        obtain ⟨e1, e2⟩ := hS'
        go_simp
        try with_reducible rfl
      try simp only [List.getElem_toArray, List.getElem_cons_succ, List.getElem_cons_zero, Act.put, List.setIfInBounds_toArray, List.set_cons_zero, List.set_cons_succ]
      refine anyE_take 5 (v := ?_) rfl (by kernel_rfl) (by kernel_rfl) (by kernel_rfl) (by kernel_rfl) (fun _ _ _ h => h) hS (Or.inl ⟨by rfl, ?_⟩) ?_
      rotate_left
      · intro w' hS'
        obtain ⟨e1, e2⟩ := hS'
        go_simp
        try with_reducible rfl
      try simp only [List.getElem_toArray, List.getElem_cons_succ, List.getElem_cons_zero, Act.put, List.setIfInBounds_toArray, List.set_cons_zero, List.set_cons_succ]
      refine anyE_take 6 (v := ?_) rfl (by kernel_rfl) (by kernel_rfl) (by kernel_rfl) (by kernel_rfl) (fun _ _ _ h => h) hS (Or.inl ⟨by rfl, ?_⟩) ?_
      rotate_left
      · intro w' hS'
        obtain ⟨e1, e2⟩ := hS'
        go_simp
        try with_reducible rfl
      try simp only [List.getElem_toArray, List.getElem_cons_succ, List.getElem_cons_zero, Act.put, List.setIfInBounds_toArray, List.set_cons_zero, List.set_cons_succ]
      refine anyE_ready [7] (by kernel_rfl) (by simp) (ReadyE.cons rfl (fun K' hK => ?_) ReadyE.nil)
      go_simp
      refine hK _ _ (fun _ => unhide HSZ) ?_
      clear hK K'
      try simp only [List.getElem_toArray, List.getElem_cons_succ, List.getElem_cons_zero, Act.put, List.setIfInBounds_toArray, List.set_cons_zero, List.set_cons_succ]
      refine anyE_ready [8] (by kernel_rfl) (by simp) (ReadyE.cons rfl (fun K' hK => ?_) ReadyE.nil)
      refine step_appendB rfl _ _ rfl rfl _ _ rfl rfl _ _ (unhide HR9) ?_
      refine hK _ _ (fun _ => unhide HS9) ?_
      have hS := unhide HS9
      clear hK K'
      try simp only [List.getElem_toArray, List.getElem_cons_succ, List.getElem_cons_zero, Act.put, List.setIfInBounds_toArray, List.set_cons_zero, List.set_cons_succ]
      refine anyE_take 9 (v := ?_) rfl (by kernel_rfl) (by kernel_rfl) (by kernel_rfl) (by kernel_rfl) (fun _ _ _ h => h) hS (Or.inl ⟨by rfl, ?_⟩) ?_
      rotate_left
      · intro w' hS'
        obtain ⟨e1, e2⟩ := hS'
        go_simp
        try with_reducible rfl
      try simp only [List.getElem_toArray, List.getElem_cons_succ, List.getElem_cons_zero, Act.put, List.setIfInBounds_toArray, List.set_cons_zero, List.set_cons_succ]
      refine any_to_E (by kernel_rfl) ?_
      obtain ⟨x1, x2⟩ := unhide HF9
      refine wpAny_ready (rs := [10]) (by kernel_rfl) (by simp) ?_
      refine AllReady.cons rfl (fun K' hK => ?_) AllReady.nil
      go_simp
      refine hK _ _ ?_
      clear hK K'
      try simp only [List.getElem_toArray, List.getElem_cons_succ, List.getElem_cons_zero, Act.put, List.setIfInBounds_toArray, List.set_cons_zero, List.set_cons_succ]
      refine wpAny_done (by kernel_rfl) ?_ _
      generalize w9.setCell ⟨w1.heap.size, 0, none⟩ (.slice w9a w9n w9c) = w10 at *
      clear x1 x2 HS9 HSZ HR9 HF9 hS
      have HL10 := HL9
      clear HL9 HL
      have hbw2 : Below w1.heap.size w1 w10 := (unhide HL10).bl w1.heap.size (Nat.le_refl _)
      have ccb := (hbw2.cell (p := ⟨cbb, cbo + j, none⟩) (cell_lt (unhide HCcb))).trans (unhide HCcb)
      have ccx := (hbw2.cell (p := ⟨cxb, cxo + j, none⟩) (cell_lt (unhide HCcx))).trans (unhide HCcx)
      obtain ⟨w11v, w11, hr, hB, hL⟩ := (unhide HL10).stepA cbj (Nat.le_trans (List.length_take_le _ _) (by have := (unhide HN6).1; omega))
      have HR9 := hide hr
      have HL11 := hide hL
      clear hr hB hL
      go_wp2_with (at_builtin; refine wpList_appendB rfl _ _ rfl rfl _ _ rfl rfl _ _ (unhide HR9) ?_)
      have hbw3 : Below w1.heap.size w1 w11 := (unhide HL11).bl w1.heap.size (Nat.le_refl _)
      clear ccb ccx HR9
      obtain ⟨w13v, w13, hr, hB, hL⟩ := ((unhide HL11).drewN 1).stepB (cbj + rj) (Nat.le_trans (List.length_take_le _ _) (by have := (unhide HN6).1; omega))
      have c0 : w11.drew.cell? ⟨cbb, cbo + j, none⟩ = some (.int .i8 cbj) := (hbw3.cell (p := ⟨cbb, cbo + j, none⟩) (cell_lt (unhide HCcb))).trans (unhide HCcb)
      have c1 : w11.drew.cell? ⟨cxb, cxo + j, none⟩ = some (.int .u8 cxj) := (hbw3.cell (p := ⟨cxb, cxo + j, none⟩) (cell_lt (unhide HCcx))).trans (unhide HCcx)
      have ha1 := alloc_below w11.drew (.cells #[.int .i64 (cbj + rj)] I64)
      have HSZ := hide (And.intro ((ha1.cell (p := ⟨cbb, cbo + j, none⟩) (cell_lt c0)).trans c0) ((ha1.cell (p := ⟨cxb, cxo + j, none⟩) (cell_lt c1)).trans c1))
      have HS9 := hide (And.intro ((hB.cell (p := ⟨cbb, cbo + j, none⟩) (Nat.lt_of_lt_of_le (cell_lt (unhide HCcb)) (by omega))).trans c0) ((hB.cell (p := ⟨cxb, cxo + j, none⟩) (Nat.lt_of_lt_of_le (cell_lt (unhide HCcx)) (by omega))).trans c1))
      have HR9 := hide hr
      have HL13 : Hid (LB (w1.heap.size + 1) w1.heap.size w1 w13 (.slice w9a w9n w9c) w11v w13v k (c.take (j + 1)) (lo.take (j + 1)) ((hiL lo nn).take (j + 1))) := hide (by rw [unhide HEca, unhide HEcb, unhide HEcx]; exact hL)
      clear hr hB hL HEca HEcb HEcx ha1
      refine wp_regionE (fun W => W.cell? ⟨cbb, cbo + j, none⟩ = some (.int .i8 cbj) ∧ W.cell? ⟨cxb, cxo + j, none⟩ = some (.int .u8 cxj)) (fun j => decide (j < 15)) (by kernel_rfl) ⟨c0, c1⟩ (fun hS => ?_)
      clear c0 c1
      refine anyE_take 0 (v := ?_) rfl (by kernel_rfl) (by kernel_rfl) (by kernel_rfl) (by kernel_rfl) (fun _ _ _ h => h) hS (Or.inl ⟨by rfl, ?_⟩) ?_
      rotate_left
      · intro w' hS'
        obtain ⟨e1, e2⟩ := hS'
        go_simp
        try with_reducible rfl
      try simp only [List.getElem_toArray, List.getElem_cons_zero, Act.put, List.setIfInBounds_toArray, List.set_cons_zero, List.set_cons_succ]
      refine anyE_take 1 (v := ?_) rfl (by kernel_rfl) (by kernel_rfl) (by kernel_rfl) (by kernel_rfl) (fun _ _ _ h => h) hS (Or.inl ⟨by rfl, ?_⟩) ?_
      rotate_left
      · intro w' hS'
        obtain ⟨e1, e2⟩ := hS'
        go_simp
        try with_reducible rfl
      try simp only [List.getElem_toArray, List.getElem_cons_succ, List.getElem_cons_zero, Act.put, List.setIfInBounds_toArray, List.set_cons_zero, List.set_cons_succ]
      refine anyE_take 2 (v := ?_) rfl (by kernel_rfl) (by kernel_rfl) (by kernel_rfl) (by kernel_rfl) (fun _ _ _ h => h) hS (Or.inl ⟨by rfl, ?_⟩) ?_
      rotate_left
      · intro w' hS'
        obtain ⟨e1, e2⟩ := hS'
        go_simp
        try with_reducible rfl
      try simp only [List.getElem_toArray, List.getElem_cons_succ, List.getElem_cons_zero, Act.put, List.setIfInBounds_toArray, List.set_cons_zero, List.set_cons_succ]
      refine anyE_take 3 (v := ?_) rfl (by kernel_rfl) (by kernel_rfl) (by kernel_rfl) (by kernel_rfl) (fun _ _ _ h => h) hS (Or.inl ⟨by rfl, ?_⟩) ?_
      rotate_left
      · intro w' hS'
        obtain ⟨e1, e2⟩ := hS'
        go_simp
        try with_reducible rfl
      try simp only [List.getElem_toArray, List.getElem_cons_succ, List.getElem_cons_zero, Act.put, List.setIfInBounds_toArray, List.set_cons_zero, List.set_cons_succ]
      refine anyE_take 4 (v := ?_) rfl (by kernel_rfl) (by kernel_rfl) (by kernel_rfl) (by kernel_rfl) (fun _ _ _ h => h) hS (Or.inl ⟨by rfl, ?_⟩) ?_
      rotate_left
      · intro w' hS'
        obtain ⟨e1, e2⟩ := hS'
        go_simp
        try with_reducible rfl
      try simp only [List.getElem_toArray, List.getElem_cons_succ, List.getElem_cons_zero, Act.put, List.setIfInBounds_toArray, List.set_cons_zero, List.set_cons_succ]
      refine anyE_take 5 (v := ?_) rfl (by kernel_rfl) (by kernel_rfl) (by kernel_rfl) (by kernel_rfl) (fun _ _ _ h => h) hS (Or.inl ⟨by rfl, ?_⟩) ?_
      rotate_left
      · intro w' hS'
        obtain ⟨e1, e2⟩ := hS'
        go_simp
        try with_reducible rfl
      try simp only [List.getElem_toArray, List.getElem_cons_succ, List.getElem_cons_zero, Act.put, List.setIfInBounds_toArray, List.set_cons_zero, List.set_cons_succ]
      refine anyE_take 6 (v := ?_) rfl (by kernel_rfl) (by kernel_rfl) (by kernel_rfl) (by kernel_rfl) (fun _ _ _ h => h) hS (Or.inl ⟨by rfl, ?_⟩) ?_
      rotate_left
      · intro w' hS'
        obtain ⟨e1, e2⟩ := hS'
        go_simp
        try with_reducible rfl
      try simp only [List.getElem_toArray, List.getElem_cons_succ, List.getElem_cons_zero, Act.put, List.setIfInBounds_toArray, List.set_cons_zero, List.set_cons_succ]
      refine anyE_take 7 (v := ?_) rfl (by kernel_rfl) (by kernel_rfl) (by kernel_rfl) (by kernel_rfl) (fun _ _ _ h => h) hS (Or.inl ⟨by rfl, ?_⟩) ?_
      rotate_left
      · intro w' hS'
        obtain ⟨e1, e2⟩ := hS'
        go_simp
        try with_reducible rfl
      try simp only [List.getElem_toArray, List.getElem_cons_succ, List.getElem_cons_zero, Act.put, List.setIfInBounds_toArray, List.set_cons_zero, List.set_cons_succ]
      refine anyE_take 8 (v := ?_) rfl (by kernel_rfl) (by kernel_rfl) (by kernel_rfl) (by kernel_rfl) (fun _ _ _ h => h) hS (Or.inl ⟨by rfl, ?_⟩) ?_
      rotate_left
      · intro w' hS'
        obtain ⟨e1, e2⟩ := hS'
        go_simp
        try with_reducible rfl
      try simp only [List.getElem_toArray, List.getElem_cons_succ, List.getElem_cons_zero, Act.put, List.setIfInBounds_toArray, List.set_cons_zero, List.set_cons_succ]
      refine anyE_take 9 (v := ?_) rfl (by kernel_rfl) (by kernel_rfl) (by kernel_rfl) (by kernel_rfl) (fun _ _ _ h => h) hS (Or.inl ⟨by rfl, ?_⟩) ?_
      rotate_left
      · intro w' hS'
        obtain ⟨e1, e2⟩ := hS'
        go_simp
        try with_reducible rfl
      try simp only [List.getElem_toArray, List.getElem_cons_succ, List.getElem_cons_zero, Act.put, List.setIfInBounds_toArray, List.set_cons_zero, List.set_cons_succ]
      refine anyE_take 10 (v := ?_) rfl (by kernel_rfl) (by kernel_rfl) (by kernel_rfl) (by kernel_rfl) (fun _ _ _ h => h) hS (Or.inl ⟨by rfl, ?_⟩) ?_
      rotate_left
      · intro w' hS'
        obtain ⟨e1, e2⟩ := hS'
        go_simp
        try with_reducible rfl
      try simp only [List.getElem_toArray, List.getElem_cons_succ, List.getElem_cons_zero, Act.put, List.setIfInBounds_toArray, List.set_cons_zero, List.set_cons_succ]
      refine anyE_take 11 (v := ?_) rfl (by kernel_rfl) (by kernel_rfl) (by kernel_rfl) (by kernel_rfl) (fun _ _ _ h => h) hS (Or.inl ⟨by rfl, ?_⟩) ?_
      rotate_left
      · intro w' hS'
        obtain ⟨e1, e2⟩ := hS'
        go_simp
        try with_reducible rfl
      try simp only [List.getElem_toArray, List.getElem_cons_succ, List.getElem_cons_zero, Act.put, List.setIfInBounds_toArray, List.set_cons_zero, List.set_cons_succ]
      refine anyE_take 12 (v := ?_) rfl (by kernel_rfl) (by kernel_rfl) (by kernel_rfl) (by kernel_rfl) (fun _ _ _ h => h) hS (Or.inl ⟨by rfl, ?_⟩) ?_
      rotate_left
      · intro w' hS'
        obtain ⟨e1, e2⟩ := hS'
        go_simp
        try with_reducible rfl
      try simp only [List.getElem_toArray, List.getElem_cons_succ, List.getElem_cons_zero, Act.put, List.setIfInBounds_toArray, List.set_cons_zero, List.set_cons_succ]
      refine anyE_ready [13] (by kernel_rfl) (by simp) (ReadyE.cons rfl (fun K' hK => ?_) ReadyE.nil)
      go_simp
      refine hK _ _ (fun _ => unhide HSZ) ?_
      clear hK K'
      try simp only [List.getElem_toArray, List.getElem_cons_succ, List.getElem_cons_zero, Act.put, List.setIfInBounds_toArray, List.set_cons_zero, List.set_cons_succ]
      refine anyE_ready [14] (by kernel_rfl) (by simp) (ReadyE.cons rfl (fun K' hK => ?_) ReadyE.nil)
      refine step_appendB rfl _ _ rfl rfl _ _ rfl rfl _ _ (unhide HR9) ?_
      refine hK _ _ (fun _ => unhide HS9) ?_
      have hS := unhide HS9
      clear hK K'
      try simp only [List.getElem_toArray, List.getElem_cons_succ, List.getElem_cons_zero, Act.put, List.setIfInBounds_toArray, List.set_cons_zero, List.set_cons_succ]
      refine any_to_E (by kernel_rfl) ?_
      refine wpAny_ready (rs := [15]) (by kernel_rfl) (by simp) ?_
      refine AllReady.cons rfl (fun K' hK => ?_) AllReady.nil
      go_simp
      refine hK _ _ ?_
      clear hK K'
      try simp only [List.getElem_toArray, List.getElem_cons_succ, List.getElem_cons_zero, Act.put, List.setIfInBounds_toArray, List.set_cons_zero, List.set_cons_succ]
      refine wpAny_done (by kernel_rfl) ?_ _
      clear HS9 HSZ HR9 hS
      go_wp2_with fail
      go_roundw
      case rel => exact ⟨j + 1, _, _, _, rfl, rfl, by go_num, by omega, HL13⟩
      case measure => simp [intOf]; omega
    · have hjn : j = n := by omega
      subst hjn
      have hlt' : ¬ (j : Int) < (j : Int) := by omega
      have hmn := (unhide HN6).2.1
      have hln := (unhide HN6).2.2
      have hC : (c.take j).length = j := by rw [List.length_take, (unhide HLS).1]; exact Nat.min_self _
      have hA : (lo.take j).length = j := by rw [List.length_take, (unhide HLS).2.1]; exact Nat.min_eq_left (by omega)
      have hB0 : ((hiL lo nn).take j).length = j := by rw [List.length_take, hiL_len, (unhide HLS).2.1, (unhide HLS).2.2]; omega
      have sC : Sm 128 (c.take j) := fun y hy => by have := (unhide HR).1 y (List.mem_of_mem_take hy); omega
      have sA : Sm 133 (lo.take j) := fun y hy => by have := (unhide HR).2.1 y (List.mem_of_mem_take hy); omega
      have hat : ∀ i (h1 : i < lo.length) (h2 : i < nn.length), lo[i] ≤ (hiL lo nn)[i]'(by rw [hiL_len]; omega) ∧ (hiL lo nn)[i]'(by rw [hiL_len]; omega) ≤ lo[i] + 5 := fun i h1 h2 => by
        rw [hiL_at h1 h2]
        omega
      have sB : Sm 133 ((hiL lo nn).take j) := fun y hy => by
        obtain ⟨i, hi, rfl⟩ := List.getElem_of_mem (List.mem_of_mem_take hy)
        rw [hiL_len] at hi
        have h1 := hat i (by omega) (by omega)
        have h2 := (unhide HR).2.1 _ (List.getElem_mem (show i < lo.length by omega))
        omega
      have inb : InB (lo.take j) ((hiL lo nn).take j) (lo.take j) := InB.of_at rfl (by rw [hA, hB0]) (fun i h1 h2 h3 => by
        rw [hA] at h1
        have h4 := hat i (by rw [(unhide HLS).2.1]; omega) (by rw [(unhide HLS).2.2]; omega)
        rw [List.getElem_take, List.getElem_take]
        omega)
      have HF := hide (box_facts (k := k) hC hA (by have := (unhide HN6).1; omega) inb sC sA sB (by have := (unhide HR).2.2.2; omega))
      generalize dot (c.take j) (lowL (c.take j) (lo.take j) ((hiL lo nn).take j)) + k = P at *
      generalize dot (c.take j) (lowL (c.take j) ((hiL lo nn).take j) (lo.take j)) + k = Q at *
      clear hB0 sC sA hat sB inb
      generalize (hiL lo nn).take j = B at *
      generalize c.take j = C at *
      generalize lo.take j = A at *
      clear hC hA
      obtain ⟨fa, fc, hv⟩ := (unhide HL).oF.shape
      rw [(unhide HF).lC] at hv
      subst hv
      obtain ⟨ga, gc, hv⟩ := (unhide HL).oA.shape
      rw [(unhide HF).lA] at hv
      subst hv
      obtain ⟨ha, hc, hv⟩ := (unhide HL).oB.shape
      rw [(unhide HF).lB] at hv
      subst hv
      have hbl := (unhide HL).bl w1.heap.size (Nat.le_refl _)
      have HBW := hide (bthen (unhide HB1) hbl)
      have HM0 := hide (And.intro (unhide HL).bf (And.intro (unhide HL).oF.ints (And.intro (unhide HL).oA.ints (unhide HL).oB.ints)))
      have HRG := hide (linRange_any wr _ _ _ C A B k (unhide HM0).2.1 (unhide HM0).2.2.1 (unhide HM0).2.2.2 ((unhide HF).sC.rng (by omega)) ((unhide HF).sA.rng (by omega)) ((unhide HF).sB.rng (by omega)) (by have := (unhide HF).kk; exact ⟨by omega, by omega⟩) (by rw [(unhide HF).lC]; have := (unhide HF).n3; omega) (by rw [(unhide HF).lA]; have := (unhide HF).n3; omega) (by rw [(unhide HF).lB]; have := (unhide HF).n3; omega))
      rw [(unhide HF).v, (unhide HF).e] at HRG
      clear hbl HL HLS HO HR HN6 hmn hln
      obtain ⟨l0, l1, l2, l3, l4⟩ := (unhide HM0).1
      generalize w1.heap.size = fb at *
      go_wp2_with fail
      refine (unhide HRG).mono ?_
      rintro ev W1 ⟨f, rfl, hs, hb⟩
      have hf := hs.nilOf rfl
      subst hf
      have HM1 := hide (And.intro ((unhide HM0).1.keep hb) (And.intro ((unhide HM0).2.1.below hb) (And.intro ((unhide HM0).2.2.1.below hb) ((unhide HM0).2.2.2.below hb))))
      have HBW1 := hide (bthen (unhide HBW) hb)
      clear hs hb HM0 HBW HRG l0 l1 l2 l3 l4
      obtain ⟨g, cap, W2, hr, hx, hb2, hg⟩ := copy_i (unhide HM1).2.2.1 (by rw [(unhide HF).lA]; have := (unhide HF).n3; omega)
      rw [(unhide HF).lA] at hr hx
      have HR16 := hide hr
      have HX := hide hx
      have HB2 := hide hb2
      have HG := hide hg
      clear hr hx hb2 hg
      go_wp2_with (at_builtin; refine wpList_appendB rfl _ _ rfl rfl _ _ rfl rfl _ _ (unhide HR16) ?_)
      clear HR16
      go_loopw [17, 18, 19] (fun u v m wr => ∃ (s t : Int) (mo : Bool) (X : List Int), u = .int .i64 s ∧ v = .int .i64 t ∧ m = .bool mo ∧ Hid (Below W1.heap.size W1 wr) ∧ Hid (OwnI W1.heap.size wr (.slice (some ⟨g, 0, none⟩) j cap) X ∧ X.length = j) ∧ Hid (BoxI C A B k P Q s t X mo)) (fun _ _ m wr => if isYes m then (rankB A B B - rankB A B (rowOf g j wr)).toNat + 1 else 0)
      case atStart =>
        refine ⟨4611686018427387904, -4611686018427387904, true, A, rfl, rfl, rfl, HB2, hide ⟨unhide HX, (unhide HF).lA⟩, hide ⟨(unhide HF).inb, Seen.start (unhide HF).inb (by rw [(unhide HF).lC, (unhide HF).lA]) ?_ ?_⟩⟩
        · rw [(unhide HF).hP]; have := (unhide HF).bP; omega
        · rw [(unhide HF).hQ]; have := (unhide HF).bQ; omega
      case round =>
        clear HX HB2
        obtain ⟨s, t, mo, X, rfl, rfl, rfl, HB, HX, HI⟩ := hrel
        cases mo
        · obtain ⟨h1, h2⟩ := unhide HI
          subst h1
          subst h2
          have q1 : (s == s) = true := beq_self_eq_true _
          have q2 : (t == t) = true := beq_self_eq_true _
          go_wp2_with fail
          go_ret
          exact ⟨rfl, bthen (unhide HBW1) (unhide HB)⟩
        · obtain ⟨hin, hsn⟩ := unhide HI
          have HIN := hide hin
          have HSN := hide hsn
          clear hin hsn HI
          have hk := (unhide HF).kk
          have lX := (unhide HX).2
          have sX : Sm 133 X := (unhide HIN).sm (unhide HF).sA (unhide HF).sB
          have HSX := hide sX
          clear sX
          have hbw := unhide HB
          have HM := hide (And.intro ((unhide HM1).1.keep hbw) (And.intro ((unhide HM1).2.1.below hbw) (And.intro ((unhide HM1).2.2.1.below hbw) ((unhide HM1).2.2.2.below hbw))))
          obtain ⟨l0, l1, l2, l3, l4⟩ := (unhide HM).1
          generalize hwo : wr = wo at *
          have HWO := hide hwo
          clear hwo hbw
          go_wp2_with fail
          clear l0 l1 l2 l3 l4
          go_loopw [20, 21] (fun v i wr => ∃ (q : Nat) (sv : Int), v = .int .i64 sv ∧ i = .int .i64 q ∧ q ≤ j ∧ Hid (Below wo.heap.size wo wr) ∧ Hid (sv = k + dot (C.take q) (X.take q))) (fun _ i _ => j - (intOf i).toNat)
          case atStart => exact ⟨0, k, rfl, rfl, Nat.zero_le _, hide (Below.refl _ _), hide (by simp [dot])⟩
          case round =>
            obtain ⟨q, sv, rfl, rfl, hq, HB3, HSV⟩ := hrel
            by_cases hlt3 : q < j
            · have hlt3' : (q : Int) < (j : Int) := by omega
              have hj9 : j ≤ 3 := (unhide HF).n3
              have hq9 : q < 9223372036854775807 := by omega
              have iC : q < C.length := by rw [(unhide HF).lC]; exact hlt3
              have iX : q < X.length := by rw [lX]; exact hlt3
              have hbx := (unhide HM).1.keep (unhide HB3)
              have hcC := (unhide HM).2.1.below (unhide HB3)
              have hoX := (unhide HX).1.below (unhide HB3)
              obtain ⟨cb, co, ccap, hcv, hc1, hc2, hcc⟩ := hcC.at (by omega)
              injection hcv with hv1 hv2 hv3
              subst hv1
              subst hv3
              have kc := hcc q iC
              have kx := hoX.cell lX q iX
              have HNX := hide (dot_take C X q iC iX)
              have sc := (unhide HF).sC _ (List.getElem_mem iC)
              have sx := (unhide HSX) _ (List.getElem_mem iX)
              have hpr : (C[q] * X[q]).natAbs ≤ 128 * 133 := by rw [Int.natAbs_mul]; exact Nat.mul_le_mul sc sx
              have hsv : sv.natAbs ≤ 32768 + 51072 := by
                have h1 := box_dot (c := C.take q) (x := X.take q) (by rw [List.length_take]; omega) (fun y hy => (unhide HF).sC y (List.mem_of_mem_take hy)) (fun y hy => unhide HSX y (List.mem_of_mem_take hy))
                have h2 := unhide HSV
                omega
              clear hcC hoX hcc hc1 hc2 hv2
              generalize C[q]'iC = cq at *
              generalize X[q]'iX = xq at *
              have wm : IntKind.i64.wrap (cq * xq) = cq * xq := by rw [IntKind.wrap_i64]; omega
              have ws : IntKind.i64.wrap (sv + cq * xq) = sv + cq * xq := by rw [IntKind.wrap_i64]; omega
              clear sc sx hpr hsv iC iX
              obtain ⟨l0, l1, l2, l3, l4⟩ := hbx
              go_wp2_with fail
              go_quiet (fail)
              go_wp2_with fail
              go_roundw
              case rel =>
                refine ⟨q + 1, sv + cq * xq, rfl, by go_num, by omega, hide ((unhide HB3).trans (below_drewN (Below.refl _ _) _)), hide ?_⟩
                have h1 := unhide HSV
                have h2 := unhide HNX
                omega
              case measure => simp [intOf]; omega
            · have hqj : q = j := by omega
              subst hqj
              have hlt3' : ¬ (q : Int) < (q : Int) := by omega
              have hC0 : C.take q = C := List.take_of_length_le (by rw [(unhide HF).lC]; exact Nat.le_refl _)
              have hX0 : X.take q = X := List.take_of_length_le (by rw [lX]; exact Nat.le_refl _)
              have h1 := unhide HSV
              rw [hC0, hX0] at h1
              have HSV2 := hide h1
              have h2 := box_dot (c := C) (x := X) (by rw [(unhide HF).lC]; exact (unhide HF).n3) (unhide HF).sC (unhide HSX)
              clear hC0 hX0 h1 h2 hk
              have HB4 := hide ((unhide HB).trans ((unhide HB3).mono (unhide HB).size))
              have HX4 := hide ((unhide HX).1.below (unhide HB3))
              go_upto_region 25 with fail
              go_cut [17] from 118 to 120 (fun u wx => u = .int .i64 (min s sv) ∧ wx = wr)
              case first =>
                by_cases hms : s ≤ sv
                · have e : min s sv = s := Int.min_eq_left hms
                  go_wp2_with fail
                  go_meet
                  case rel => exact ⟨by rw [e], rfl⟩
                · have e : min s sv = sv := Int.min_eq_right (by omega)
                  go_wp2_with fail
                  go_meet
                  case rel => exact ⟨by rw [e], rfl⟩
              case rest =>
                obtain ⟨hu, hw⟩ := hcut
                subst hu
                have hw := hw.symm
                subst hw
                go_upto_region 26 with fail
                go_cut [18] from 121 to 123 (fun u wx => u = .int .i64 (max t sv) ∧ wx = wr)
                case first =>
                  by_cases hms : t < sv
                  · have e : max t sv = sv := Int.max_eq_right (by omega)
                    go_wp2_with fail
                    go_meet
                    case rel => exact ⟨by rw [e], rfl⟩
                  · have e : max t sv = t := Int.max_eq_left (by omega)
                    go_wp2_with fail
                    go_meet
                    case rel => exact ⟨by rw [e], rfl⟩
                case rest =>
                  obtain ⟨hu, hw⟩ := hcut
                  subst hu
                  have hw := hw.symm
                  subst hw
                  have HSN2 := hide ((unhide HSN).step (unhide HF).inb (unhide HIN) (by rw [(unhide HF).lC, (unhide HF).lA]))
                  rw [show dot C X + k = sv by rw [unhide HSV2]; omega] at HSN2
                  clear HSN HSV HSV2 HSX
                  generalize min s sv = s2 at *
                  generalize max t sv = t2 at *
                  clear HB3 HB
                  generalize wr = wq at *
                  go_wp2_with fail
                  go_loopw [19, 22] (fun m i wr => ∃ (p : Nat), m = .bool false ∧ i = .int .i64 p ∧ p ≤ q ∧ Hid (Below W1.heap.size W1 wr) ∧ Hid (OwnI W1.heap.size wr (.slice (some ⟨g, 0, none⟩) q cap) (A.take p ++ X.drop p)) ∧ Hid (nextB A B X = (nextB (A.drop p) (B.drop p) (X.drop p)).map (A.take p ++ ·))) (fun _ i _ => q - (intOf i).toNat)
                  case atStart => exact ⟨0, rfl, rfl, Nat.zero_le _, HB4, hide (by simpa using unhide HX4), hide (by simp)⟩
                  case round =>
                    clear HB4 HX4
                    obtain ⟨p, rfl, rfl, hp, HB5, HX5, HN5⟩ := hrel
                    have l5 : (A.take p ++ X.drop p).length = q := by rw [List.length_append, List.length_take, List.length_drop, (unhide HF).lA, lX]; omega
                    by_cases hlt4 : p < q
                    · have hlt4' : (p : Int) < (q : Int) := by omega
                      have hp9 : p < 9223372036854775807 := by have := (unhide HF).n3; omega
                      have iA : p < A.length := by rw [(unhide HF).lA]; exact hlt4
                      have iB : p < B.length := by rw [(unhide HF).lB]; exact hlt4
                      have iX : p < X.length := by rw [lX]; exact hlt4
                      have kx := (unhide HX5).cell l5 p (by omega)
                      rw [mid_at iA iX] at kx
                      have fx := (unhide HX5).free l5 p
                      obtain ⟨ab, ao, acap, hav, ha1, ha2, hca⟩ := ((unhide HM1).2.2.1.below (unhide HB5)).at (by omega)
                      injection hav with hav1 hav2 hav3
                      subst hav1
                      subst hav3
                      have ka := hca p iA
                      obtain ⟨bb, bo, bcap, hbv, hb1, hb2, hcb⟩ := ((unhide HM1).2.2.2.below (unhide HB5)).at (by rw [(unhide HF).lB]; omega)
                      injection hbv with hbv1 hbv2 hbv3
                      subst hbv1
                      subst hbv3
                      have kb := hcb p iB
                      have HUP := hide (next_up (unhide HIN) (unhide HN5) iX iB iA)
                      have HDN := hide (next_dn (unhide HIN) (unhide HN5) iX iB iA)
                      have HS1 := hide (fun v => set_mid (v := v) iA iX)
                      have HS2 := hide (set_low iA iX)
                      have sx := (unhide HIN).sm (unhide HF).sA (unhide HF).sB _ (List.getElem_mem iX)
                      clear hav2 ha1 ha2 hca hbv2 hb1 hb2 hcb
                      generalize A[p]'iA = ap at *
                      generalize B[p]'iB = bp at *
                      generalize X[p]'iX = xp at *
                      have wx : IntKind.i64.wrap (xp + 1) = xp + 1 := by rw [IntKind.wrap_i64]; omega
                      clear sx iA iB iX
                      by_cases hxb : xp < bp
                      · go_wp2_with fail
                        go_quiet (fail)
                        go_wp2_with fail
                        have hup := (unhide HUP) hxb
                        obtain ⟨ny1, ny2⟩ := next_some (unhide HIN) hup
                        have hput := ((unhide HX5).below (below_drewN (Below.refl wr.heap.size wr) nq)).put l5 p (xp + 1)
                        rw [(unhide HS1) (xp + 1)] at hput
                        have hY := ny1.len.1
                        rw [(unhide HF).lA] at hY
                        have m1 := rowOf_own hput hY
                        have m3 := rowOf_own (unhide HX).1 (unhide HX).2
                        have rk := rank_le ny1
                        have HP := hide hput
                        have HBU := hide ((below_drewN (unhide HB5) nq).setCell (p := ⟨g, p, none⟩) (unhide HG) (.int .i64 (xp + 1)))
                        have HBI : Hid (BoxI C A B k P Q s2 t2 (A.take p ++ (xp + 1) :: X.drop (p + 1)) true) := hide ⟨ny1, by rw [ny2]; exact unhide HSN2⟩
                        clear hput ny1 hup
                        generalize A.take p ++ (xp + 1) :: X.drop (p + 1) = Y at *
                        go_roundw
                        case rel => exact ⟨s2, t2, true, Y, rfl, rfl, rfl, HBU, hide ⟨unhide HP, hY⟩, HBI⟩
                        case measure =>
                          rw [m1, m3]
                          simp only [isYes, if_true]
                          omega
                      · go_wp2_with fail
                        go_quiet (fail)
                        go_wp2_with fail
                        have hdn := hide ((unhide HDN) hxb)
                        have hput := ((unhide HX5).below (below_drewN (Below.refl wr.heap.size wr) nq)).put l5 p ap
                        rw [(unhide HS2)] at hput
                        have HP := hide hput
                        have HBU := hide ((below_drewN (unhide HB5) nq).setCell (p := ⟨g, p, none⟩) (unhide HG) (.int .i64 ap))
                        clear hput
                        go_roundw
                        case rel => exact ⟨p + 1, rfl, by go_num, by omega, HBU, HP, hdn⟩
                        case measure => simp [intOf]; omega
                    · have hpq : p = q := by omega
                      have hlt4' : ¬ (p : Int) < (q : Int) := by omega
                      have dA : A.drop p = [] := List.drop_eq_nil_of_le (by rw [(unhide HF).lA]; omega)
                      have dB : B.drop p = [] := List.drop_eq_nil_of_le (by rw [(unhide HF).lB]; omega)
                      have dX : X.drop p = [] := List.drop_eq_nil_of_le (by rw [lX]; omega)
                      have hn := unhide HN5
                      rw [dA, dB, dX] at hn
                      have hX := next_none (unhide HIN) hn
                      have hs := unhide HSN2
                      rw [hX] at hs
                      obtain ⟨z1, z2⟩ := hs.last (unhide HF).inb (by rw [(unhide HF).lC, (unhide HF).lA])
                      rw [(unhide HF).hP] at z1
                      rw [(unhide HF).hQ] at z2
                      have HBI : Hid (BoxI C A B k P Q s2 t2 (A.take p ++ X.drop p) false) := hide ⟨z1, z2⟩
                      clear z1 z2 hs hX hn dA dB dX HSN2 HN5
                      generalize A.take p ++ X.drop p = Y at *
                      go_wp2_with fail
                      go_roundw
                      case rel => exact ⟨s2, t2, false, Y, rfl, rfl, rfl, HB5, hide ⟨unhide HX5, l5⟩, HBI⟩
                      case measure => simp [isYes]
end Go.Proofs.YtmbhamnkbpcljaaDoor.Line
