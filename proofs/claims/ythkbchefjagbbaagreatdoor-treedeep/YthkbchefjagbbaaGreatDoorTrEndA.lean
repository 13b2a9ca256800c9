/- The contracts of the builder's middle and end.
   The contract of the builder's take: a line more.
   The contract of tree.Of: lines become blocks, or the first wrong line is told. -/
import Derived.Test.YthkbchefjagbbaaGreatDoorTrAddA
namespace Go.Proofs.YthkbchefjagbbaaGreatDoor.Line
open Go.ChangeShapes Go.WideShapes Go.ChangeAt Go.RowKit
open Ex (E St)
set_option linter.unusedVariables false

abbrev errV12 : Value := .iface 147 (.int .i64 12)
theorem top_kind {W : World} {bb base go m : Nat} {dv ov : Value} {D K : List (NC × PN)} {c : NC} {r : PN} (h : BlAt W bb base dv ov D ((c, r) :: K) go m) : W.cell? ⟨go, K.length * 34 + 2, none⟩ = some (.int .i64 (kindN r.ps)) ∧ W.cell? ⟨go, K.length * 34 + 33, none⟩ = some (.int .i64 r.mid) ∧ (∀ o, W.frozen? ⟨go, o, none⟩ = false) ∧ W.cell? ⟨go, K.length * 34 + 1, none⟩ = some (.int .i64 c.en) ∧ W.cell? ⟨go, K.length * 34, none⟩ = some (.int .i64 r.line) := by
  obtain ⟨t1, t2, t3, t4, t5⟩ := h.top
  obtain ⟨q0, q1, q2, q3, q4, q5⟩ := cells_at c t3
  cases h.stk with
  | cons _ _ _ B E m0 s q _ hst hms hsq hqh h1 st hb he eb ee h0 =>
    refine ⟨t1 2 _ (by rw [q2, st.kind, full_kind]), ?_, t2, t1 1 _ q1, ?_⟩
    · rw [← h1.2.2]; exact t1 33 _ q5
    · rw [← h1.1]; exact t1 0 _ q0
def MidPost (w : World) (bb base go m : Nat) (dv ov : Value) (D K : List (NC × PN)) (k : Nat) (e : Ending) (w' : World) : Prop :=
  ((∀ c r K', K = (c, r) :: K' → ¬ (kindN r.ps = 5 ∧ r.mid < 0)) ∧ e = .returned errV12 ∧ Below w.heap.size w w') ∨
  (∃ c r K', K = (c, r) :: K' ∧ kindN r.ps = 5 ∧ r.mid < 0 ∧ e = .returned .nilIface ∧ Fr bb base w w' ∧ ∃ c', BlAt w' bb base dv ov D ((c', r.setMid k) :: K') go w'.heap.size)
set_option maxHeartbeats 4000000 in
theorem tbMiddle_any {bb base go m : Nat} {dv ov : Value} {D K : List (NC × PN)} (w : World) (h : BlAt w bb base dv ov D K go m) (k : Nat) :
    Calls Tryz.prog 124 #[.pointer (some ⟨bb, 0, none⟩), .int .i64 k] w fun e w' => MidPost w bb base go m dv ov D K k e w' := by
  have HIN := hide (innermost_any w h)
  have hB : ∀ n, Below w.heap.size w (w.drewN n) := fun n => below_drewN (Below.refl _ _) n
  have HB := hide hB
  cases K with
  | nil =>
    have HNO : Hid (∀ c r K', ([] : List (NC × PN)) = (c, r) :: K' → ¬ (kindN r.ps = 5 ∧ r.mid < 0)) := hide (fun c r K' e => by cases e)
    clear h hB
    go_enter Tryz.func124, Tryz.ntmps124
    go_wp2_with fail
    refine (unhide HIN).mono ?_
    rintro e w2 ⟨rfl, nd, rfl⟩
    rw [topP_nil]
    go_wp2
    go_ret
    exact .inl ⟨unhide HNO, rfl, unhide HB nd⟩
  | cons p K' =>
    obtain ⟨c, r⟩ := p
    obtain ⟨k0, k1, k2, -, -⟩ := top_kind h
    have hlb := h.lt.2.1
    have kx : ∀ n o, (w.drewN n).cell? ⟨go, o, none⟩ = w.cell? ⟨go, o, none⟩ := fun n o => rfl
    have kf : ∀ n o, (w.drewN n).frozen? ⟨go, o, none⟩ = false := fun n o => k2 o
    have HM : Hid (∀ n, BlAt (w.drewN n) bb base dv ov D ((c, r) :: K') go m) := hide (fun n => h.below (hB n))
    have hnot : ¬ (kindN r.ps = 5 ∧ r.mid < 0) → ∀ c' r' K'', (c, r) :: K' = (c', r') :: K'' → ¬ (kindN r'.ps = 5 ∧ r'.mid < 0) := fun hn c' r' K'' e => by
      injection e with e1 e2
      injection e1 with e1 e3
      subst e3
      exact hn
    have HNO := hide hnot
    clear hnot h hB
    generalize hln : K'.length = ln at *
    generalize hkd : kindN r.ps = kd at *
    generalize hmd : r.mid = md at *
    by_cases h5 : kd = 5
    · have j1 : ((kd : Int) != 5) = false := by rw [h5]; rfl
      by_cases hm : md < 0
      · have j2 : ¬ (0 : Int) ≤ md := by omega
        clear HNO
        go_enter Tryz.func124, Tryz.ntmps124
        go_wp2_with fail
        refine (unhide HIN).mono ?_
        rintro e w2 ⟨rfl, nd, rfl⟩
        rw [topP_cons, hln]
        have k0 := (kx nd (ln * 34 + 2)).trans k0
        have k1 := (kx nd (ln * 34 + 33)).trans k1
        have k2 := kf nd (ln * 34 + 33)
        have HMN := hide (unhide HM nd)
        have HBN := hide (unhide HB nd)
        clear kx kf HM HB HIN
        generalize w.drewN nd = W1 at *
        go_wp2
        go_ret
        have hMID := (unhide HMN).mid k
        rw [hln] at hMID
        exact .inr ⟨c, r, K', rfl, hkd.trans h5, by omega, rfl, (Fr.below (unhide HBN) hlb).trans hMID.2, _, hMID.1.wide⟩
      · have j2 : (0 : Int) ≤ md := by omega
        go_enter Tryz.func124, Tryz.ntmps124
        go_wp2_with fail
        refine (unhide HIN).mono ?_
        rintro e w2 ⟨rfl, nd, rfl⟩
        rw [topP_cons, hln]
        have k0 := (kx nd (ln * 34 + 2)).trans k0
        have k1 := (kx nd (ln * 34 + 33)).trans k1
        have HBN := hide (unhide HB nd)
        clear kx kf HM HB HIN
        generalize w.drewN nd = W1 at *
        go_wp2
        go_ret
        exact .inl ⟨unhide HNO (by omega), rfl, unhide HBN⟩
    · have j1 : ((kd : Int) != 5) = true := by rw [bne_iff_ne]; omega
      have j3 : ((kd : Int) == 5) = false := by rw [beq_eq_false_iff_ne]; omega
      go_enter Tryz.func124, Tryz.ntmps124
      go_wp2_with fail
      refine (unhide HIN).mono ?_
      rintro e w2 ⟨rfl, nd, rfl⟩
      rw [topP_cons, hln]
      have k0 := (kx nd (ln * 34 + 2)).trans k0
      have k1 := (kx nd (ln * 34 + 33)).trans k1
      have HBN := hide (unhide HB nd)
      clear kx kf HM HB HIN
      generalize w.drewN nd = W1 at *
      go_wp2
      go_ret
      exact .inl ⟨unhide HNO (by omega), rfl, unhide HBN⟩
/-- lists that are not too long -/
def SmallB (b : Bl) (i : Nat) : Prop := b.done.length ≤ i ∧ ∀ r ∈ b.opn, r.body.length ≤ i ∧ r.els.length ≤ i
abbrev plainB (D K : List (NC × PN)) : Bl := ⟨D.map (·.2), K.map (·.2)⟩
theorem tbAdd_any {bb base go m : Nat} {dv ov : Value} {D K : List (NC × PN)} (w : World) (h : BlAt w bb base dv ov D K go m) (c2 : NC) (n2 : PN) (h2 : Node1 w (fun b => m ≤ b ∧ b < w.heap.size ∧ b ≠ go) c2 n2) (hs : SmallB (plainB D K) 1000000) :
    Calls Tryz.prog 127 #[.pointer (some ⟨bb, 0, none⟩), .agg c2.cells.toArray] w fun e w' => e = .returned (.tuple #[]) ∧ Fr bb base w w' ∧ ∃ dv' D' K', BlAt w' bb base dv' ov D' K' go w'.heap.size ∧ plainB D' K' = (plainB D K).add n2 := by
  cases K with
  | nil =>
    refine (tbAdd_nil w h c2 n2 h2 (by have := hs.1; rwa [List.length_map] at this)).mono ?_
    rintro e w' ⟨rfl, hf, dv', p', hb, rfl⟩
    refine ⟨rfl, hf, dv', _, [], hb, ?_⟩
    show (⟨(D ++ [p']).map (·.2), []⟩ : Bl) = ⟨D.map (·.2) ++ [p'.2], []⟩
    rw [List.map_append]; rfl
  | cons p K =>
    obtain ⟨c, r⟩ := p
    have hr := hs.2 r (by simp)
    by_cases hm : r.mid < 0
    · refine (tbAdd_body w h c2 n2 h2 hm hr.1).mono ?_
      rintro e w' ⟨rfl, hf, c', hb⟩
      exact ⟨rfl, hf, dv, D, _, hb, rfl⟩
    · refine (tbAdd_els w h c2 n2 h2 hm hr.2).mono ?_
      rintro e w' ⟨rfl, hf, c', hb⟩
      exact ⟨rfl, hf, dv, D, _, hb, rfl⟩
def EndPost (w : World) (bb base : Nat) (D K : List (NC × PN)) (kd k : Nat) (e : Ending) (w' : World) : Prop :=
  ((∀ c r K', K = (c, r) :: K' → kindN r.ps ≠ kd) ∧ e = .returned errV12 ∧ Below w.heap.size w w') ∨
  (∃ c r K', K = (c, r) :: K' ∧ kindN r.ps = kd ∧ e = .returned .nilIface ∧ Fr bb base w w' ∧ ∃ dv' ov' D' K2 go', BlAt w' bb base dv' ov' D' K2 go' w'.heap.size ∧ plainB D' K2 = (plainB D K').add (r.setEn k))
set_option maxHeartbeats 8000000 in
set_option maxRecDepth 100000 in
theorem tbEnd_any {bb base go m : Nat} {dv ov : Value} {D K : List (NC × PN)} (w : World) (h : BlAt w bb base dv ov D K go m) (kk k : Nat) (hs : SmallB (plainB D K) 1000000) :
    Calls Tryz.prog 125 #[.pointer (some ⟨bb, 0, none⟩), .int .i64 kk, .int .i64 k] w fun e w' => EndPost w bb base D K kk k e w' := by
  have HIN := hide (innermost_any w h)
  have hB : ∀ n, Below w.heap.size w (w.drewN n) := fun n => below_drewN (Below.refl _ _) n
  have HB := hide hB
  cases K with
  | nil =>
    have HNO : Hid (∀ c r K', ([] : List (NC × PN)) = (c, r) :: K' → kindN r.ps ≠ kk) := hide (fun c r K' e => by cases e)
    clear h hB
    go_enter Tryz.func125, Tryz.ntmps125
    go_wp2_with fail
    refine (unhide HIN).mono ?_
    rintro e w2 ⟨rfl, nd, rfl⟩
    rw [topP_nil]
    go_wp2
    go_ret
    exact .inl ⟨unhide HNO, rfl, unhide HB nd⟩
  | cons p K' =>
    obtain ⟨c, r⟩ := p
    obtain ⟨k0, k1, k2, k3, -⟩ := top_kind h
    have hlb := h.lt.2.1
    have kx : ∀ n o, (w.drewN n).cell? ⟨go, o, none⟩ = w.cell? ⟨go, o, none⟩ := fun n o => rfl
    have HNO : Hid (kindN r.ps ≠ kk → ∀ c' r' K'', (c, r) :: K' = (c', r') :: K'' → kindN r'.ps ≠ kk) := hide (fun hn c' r' K'' e => by
      injection e with e1 e2
      injection e1 with e1 e3
      subst e3
      exact hn)
    obtain ⟨cap, hov, hcap, hgb, hgl⟩ := h.shape.2 (by simp)
    have HM : Hid (∀ n, BlAt (w.drewN n) bb base dv ov D ((c, r) :: K') go m) := hide (fun n => h.below (hB n))
    have HS := hide hs
    subst hov
    rw [List.length_cons] at hcap HM
    clear h hB hs
    generalize hkd : kindN r.ps = kd at *
    by_cases h5 : kd = kk
    · subst h5
      have j1 : ((kd : Int) != kd) = false := by simp
      clear HNO
      go_enter Tryz.func125, Tryz.ntmps125
      go_wp2_with fail
      refine (unhide HIN).mono ?_
      rintro e w2 ⟨rfl, nd, rfl⟩
      rw [topP_cons]
      have k0 := (kx nd (K'.length * 34 + 2)).trans k0
      have k3 := (kx nd (K'.length * 34 + 1)).trans k3
      have k2 := (unhide (hide (fun o => k2 o)) : ∀ o, (w.drewN nd).frozen? ⟨go, o, none⟩ = false) (K'.length * 34 + 1)
      have HMN := hide (unhide HM nd)
      have HBN := hide (unhide HB nd)
      have HDP := (unhide HMN).deep
      rw [List.length_cons] at HDP
      have c1 := (unhide HMN).c1
      have f1 := (unhide HMN).fr 1
      have hbb : ¬ bb = go := by have := (unhide HMN).bl; omega
      have hbb2 : ¬ go = bb := fun e => hbb e.symm
      have hdr : Below (w.drewN nd).heap.size (w.drewN nd) (w.drewN nd).drew := below_drewN (Below.refl _ _) 1
      obtain ⟨m', hC, hN, hR, hF⟩ := ((unhide HMN).below hdr).close k
      have HC := hide (And.intro hC (And.intro hN (And.intro hR ((Fr.below ((unhide HBN).trans (hdr.mono (unhide HBN).size)) hlb).trans hF))))
      clear hdr
      clear kx HM HB HIN hC hN hR hF k1
      generalize hW1 : w.drewN nd = W1 at *
      clear hW1
      generalize hln : K'.length = ln at *
      have i0 : ln ≤ 8 := by have := HDP; omega
      have i3 : IntKind.i64.wrap (ln : Int) = ln := by rw [IntKind.wrap_i64]; omega
      have i1 : (ln : Int) ≤ cap := by omega
      have i2 : (0 : Int) ≤ ln := by omega
      have HS2 : Hid (SmallB (plainB D K') 1000000) := hide ⟨(unhide HS).1, fun q hq => (unhide HS).2 q (by
        have : q ∈ K'.map (·.2) := hq
        show q ∈ ((c, r) :: K').map (·.2)
        rw [List.map_cons]; exact List.mem_cons_of_mem _ this)⟩
      go_upto_region 5 with (fail)
      go_region_law (fail)
      all_goals (
        refine at_worldN (F := fun W => BlAt W bb base dv (.slice (some ⟨go, 0, none⟩) ln cap) D K' go m' ∧ Node1 W (fun b => m' ≤ b ∧ b < W.heap.size ∧ b ≠ go) { c with en := k } (r.setEn k) ∧ W.rangeAt go (ln * 34) ({ c with en := k } : NC).cells ∧ Fr bb base w W) ?_ ?_
        · have hs1 : ((W1.drew.setCell ⟨go, ln * 34 + 1, none⟩ (.int .i64 k)).setCell ⟨bb, 1, none⟩ (.slice (some ⟨go, 0, none⟩) ln cap)).heap.size = W1.drew.heap.size := by simp [World.setCell]
          have h9 := unhide HC
          rw [← hs1] at h9
          exact h9
        intro Wf hWf
        have HWF := hide hWf
        have hcl := NC.len hWf.2.1.st.size.1
        have hrg := hWf.2.2.1
        have HAD := hide (tbAdd_any Wf hWf.1 _ _ hWf.2.1 (unhide HS2))
        clear hWf HC c1 f1 k0 k2 k3 hbb hbb2
        go_wp2_with (first | (refine wpListN_load rfl _ rfl _ _ rfl _ hcl hrg ?_))
        refine (unhide HAD).mono ?_
        rintro e w3 ⟨rfl, hf3, dv', D', K2, hb3, hp3⟩
        go_wp2
        go_ret
        exact .inr ⟨c, r, K', rfl, hkd, rfl, (unhide HWF).2.2.2.trans hf3, dv', _, D', K2, go, hb3, hp3⟩)
    · have j1 : ((kd : Int) != kk) = true := by rw [bne_iff_ne]; omega
      have j3 : ((kd : Int) == kk) = false := by rw [beq_eq_false_iff_ne]; omega
      go_enter Tryz.func125, Tryz.ntmps125
      go_wp2_with fail
      refine (unhide HIN).mono ?_
      rintro e w2 ⟨rfl, nd, rfl⟩
      rw [topP_cons]
      have k0 := (kx nd (K'.length * 34 + 2)).trans k0
      have HBN := hide (unhide HB nd)
      clear kx HM HB HIN
      generalize w.drewN nd = W1 at *
      go_wp2
      go_ret
      exact .inl ⟨unhide HNO h5, rfl, unhide HBN⟩
end Go.Proofs.YthkbchefjagbbaaGreatDoor.Line

namespace Go.Proofs.YthkbchefjagbbaaGreatDoor.Line
open Go.ChangeShapes Go.WideShapes Go.ChangeAt Go.RowKit
open Ex (E St)
set_option linter.unusedVariables false

/-- a new node's cells -/
abbrev leafC (i : Nat) (cs : Array Value) : NC := ⟨i, i, cs, .slice none 0 0, .slice none 0 0, -1⟩
theorem run_buildN (W : World) (i : Nat) (f : FS) (iv tv ev av bv lv hv : Value) : (Instr.build NDT #[(0, .int .i64 i), (1, .int .i64 i), (2, .agg (fsV f iv tv ev av bv lv hv)), (5, .int .i64 (-1))]).run Tryz.prog W = .ok (.agg (leafC i (fsV f iv tv ev av bv lv hv)).cells.toArray) W := by kernel_rfl
theorem wpListN_build {ops : Array Oper} {rest : List Oper} {op : Oper} {a : Act} {w : World} {Q : Exit → Act → World → Prop} (hgd : op.guard = none) (x y z : Operand) (ho : op.op = .build NDT #[(0, x), (1, y), (2, z), (5, .const (.int .i64 (-1)))]) (i : Nat) (f : FS) (iv tv ev av bv lv hv : Value)
    (hx : a.eval x = .int .i64 i) (hy : a.eval y = .int .i64 i) (hz : a.eval z = .agg (fsV f iv tv ev av bv lv hv))
    (h : wpList Tryz.prog ops Q rest (a.put op.dst (.agg (leafC i (fsV f iv tv ev av bv lv hv)).cells.toArray)) w) : wpList Tryz.prog ops Q (op :: rest) a w :=
  wpList_plain hgd fun K hK => by
    unfold Oper.wp execOp
    have hm : (#[(0, x), (1, y), (2, z), (5, Operand.const (.int .i64 (-1)))] : Array (Nat × Operand)).map (fun (i, x) => (i, a.eval x)) = #[(0, .int .i64 i), (1, .int .i64 i), (2, .agg (fsV f iv tv ev av bv lv hv)), (5, .int .i64 (-1))] := by
      rw [← hx]; simp only [List.map_toArray, List.map_cons, List.map_nil, hx, hy, hz]; rfl
    simp only [ho, hm, Sem.run_bind, Sem.run_pure, Result.andThen_ok, run_buildN w i f iv tv ev av bv lv hv]
    exact hK _ _ h
theorem wpListN_storeNew {ops : Array Oper} {rest : List Oper} {op : Oper} {a : Act} {w : World} {Q : Exit → Act → World → Prop} (hgd : op.guard = none) (x y : Operand) (ho : op.op = .store NDT x y) (c c' : Array Value) (q : Nat) (hq : w.heap.size = q)
    (hx : a.eval x = .pointer (some ⟨q, 0, none⟩)) (hy : a.eval y = .agg c') (hc : c.size = 34) (hc' : c'.size = 34) (h1 : c'.all (·.oneCell') = true)
    (h : wpList Tryz.prog ops Q rest (a.put op.dst undef) (w.alloc (.cells c' NDT))) : wpList Tryz.prog ops Q (op :: rest) a (w.alloc (.cells c NDT)) :=
  wpList_plain hgd fun K hK => by
    subst hq
    unfold Oper.wp execOp
    simp only [ho, hx, hy, Instr.storeAt, Instr.sureAddr, Sem.run_bind, Sem.run_pure, Result.andThen_ok, run_storeVar_new (P := Tryz.prog) w NDT c c' (by rw [hc']; exact sizeND) (by rw [hc, hc']) h1]
    exact hK _ _ h
theorem kindN_cases {s : List UInt8} {ps : PS} (h : LineIs s ps) : kindN ps = 0 ∨ kindN ps = 1 ∨ kindN ps = 2 ∨ kindN ps = 3 ∨ kindN ps = 4 ∨ kindN ps = 5 ∨ kindN ps = 6 ∨ kindN ps = 7 ∨ kindN ps = 8 ∨ kindN ps = 9 := by
  obtain ⟨p, h1, _⟩ := h
  have hr := h1.reads
  cases ps with
  | plain k =>
    have h2 := hr.2
    show k = 0 ∨ _
    have : kindN (.plain k) = k := rfl
    rw [this]
    omega
  | decl m => exact .inr (.inl rfl)
  | set x y => exact .inr (.inr (.inl rfl))
  | loop nm x y st => exact .inr (.inr (.inr (.inl rfl)))
  | cond c x y => exact .inr (.inr (.inr (.inr (.inr (.inl rfl)))))
  | rd x => exact .inr (.inr (.inr (.inr (.inr (.inr (.inr (.inr (.inl rfl))))))))
  | pr y => exact .inr (.inr (.inr (.inr (.inr (.inr (.inr (.inr (.inr rfl))))))))
theorem take_begin {b : Bl} {i : Nat} {ps : PS} (h : kindN ps = 3 ∨ kindN ps = 5) : b.take i ps = b.begin (PN.leaf i ps) := by
  unfold Bl.take; rw [if_neg (by omega), if_pos h]
theorem take_mid {b : Bl} {i : Nat} {ps : PS} (h : kindN ps = 6) : b.take i ps = b.middle i := by
  unfold Bl.take; rw [if_neg (by omega), if_neg (by omega), if_pos h]
theorem take_endDo {b : Bl} {i : Nat} {ps : PS} (h : kindN ps = 4) : b.take i ps = b.close 3 i := by
  unfold Bl.take; rw [if_neg (by omega), if_neg (by omega), if_neg (by omega), if_pos h]
theorem take_endIf {b : Bl} {i : Nat} {ps : PS} (h : kindN ps = 7) : b.take i ps = b.close 5 i := by
  unfold Bl.take; rw [if_neg (by omega), if_neg (by omega), if_neg (by omega), if_neg (by omega), if_pos h]
theorem take_declNo {b : Bl} {i : Nat} {ps : PS} (h : kindN ps = 1) (ha : b.atHead = false) : b.take i ps = .error 2 := by
  unfold Bl.take; rw [if_neg (by omega), if_neg (by omega), if_neg (by omega), if_neg (by omega), if_neg (by omega), if_pos ⟨h, ha⟩]
theorem take_add {b : Bl} {i : Nat} {ps : PS} (h : kindN ps = 2 ∨ kindN ps = 8 ∨ kindN ps = 9 ∨ (kindN ps = 1 ∧ b.atHead = true)) : b.take i ps = .ok (b.add (PN.leaf i ps)) := by
  unfold Bl.take
  rw [if_neg (by omega), if_neg (by omega), if_neg (by omega), if_neg (by omega), if_neg (by omega), if_neg ?_]
  rintro ⟨h1, h2⟩
  rcases h with h | h | h | ⟨_, h⟩
  · omega
  · omega
  · omega
  · rw [h] at h2; cases h2
theorem middle_no {D K : List (NC × PN)} {i : Nat} (h : ∀ c r K', K = (c, r) :: K' → ¬ (kindN r.ps = 5 ∧ r.mid < 0)) : (plainB D K).middle i = .error 12 := by
  cases K with
  | nil => rfl
  | cons p K => exact if_neg (h p.1 p.2 K rfl)
theorem close_no {D K : List (NC × PN)} {kd i : Nat} (h : ∀ c r K', K = (c, r) :: K' → kindN r.ps ≠ kd) : (plainB D K).close kd i = .error 12 := by
  cases K with
  | nil => rfl
  | cons p K => exact if_neg (h p.1 p.2 K rfl)
theorem leaf_node {W : World} {go m i : Nat} {cs : Array Value} {ps : PS} (h : HoldsF (fun b => m ≤ b ∧ b ≠ go) W cs ps.full) : Node1 W (fun b => m ≤ b ∧ b < W.heap.size ∧ b ≠ go) (leafC i cs) (PN.leaf i ps) :=
  ⟨rfl, rfl, rfl, h.keep (fun _ _ _ => rfl) (fun b hb hl => ⟨hb.1, hl, hb.2⟩), .nil _ _, .nil _ _⟩
/-- what take answers, and what it leaves -/
def TakePost (w : World) (bb base : Nat) (D K : List (NC × PN)) (i : Nat) (s : List UInt8) (e : Ending) (w' : World) : Prop :=
  Fr bb base w w' ∧
  ((∃ ps b', LineIs s ps ∧ (plainB D K).take i ps = .ok b' ∧ e = .returned .nilIface ∧ ∃ dv' ov' D' K' go', BlAt w' bb base dv' ov' D' K' go' w'.heap.size ∧ plainB D' K' = b') ∨
   (∃ ps er, LineIs s ps ∧ (plainB D K).take i ps = .error er ∧ er ≠ 0 ∧ e = .returned (.iface 147 (.int .i64 er))) ∨
   (∃ g le, Bad1 s le ∧ e = .returned g ∧ LeAt base w' g le))
set_option maxHeartbeats 8000000 in
set_option maxRecDepth 100000 in
theorem take_any {bb base go : Nat} {dv ov : Value} {D K : List (NC × PN)} (w : World) (h : BlAt w bb base dv ov D K go w.heap.size) (i : Nat) (s : List UInt8) (hs : s.length ≤ 65536) (hG : Glob w) (hsm : SmallB (plainB D K) 1000000) :
    Calls Tryz.prog 80 #[.pointer (some ⟨bb, 0, none⟩), .int .i64 i, .string ⟨s.toArray⟩] w fun e w' => TakePost w bb base D K i s e w' := by
  obtain ⟨l1, l2, l3⟩ := h.lt
  have HP := hide (parse_line s hs w hG (by omega))
  have H0 := hide h
  have HS := hide hsm
  clear h hG hsm
  go_enter Tryz.func80, Tryz.ntmps80
  go_wp2_with fail
  refine (unhide HP).mono ?_
  rintro e w1 ⟨hb1, ⟨B, cs, ps, hB, hli, hho, rfl⟩ | ⟨g, le, hbad, hle, rfl⟩⟩
  · have hfull := holds_full hho
    obtain ⟨iv, tv, ev, av, bv, lv, hv, rfl, hx1, hx2, hx3, hx4, hx5, hx6, hx7⟩ := hfull.ex
    have hsz := hfull.size
    generalize hfs : ps.full = f at *
    have hck : f.kind = kindN ps := by rw [← hfs, full_kind]
    have hSA := StAt.new w1 (fsV f iv tv ev av bv lv hv) rfl
    have hone : ((leafC i (fsV f iv tv ev av bv lv hv)).cells.toArray).all (·.oneCell') = true := by
      have h2 := Array.all_eq_true_iff_forall_mem.1 hsz.2
      refine all_oneCell_toArray (fun v hv => ?_)
      rcases List.mem_cons.1 hv with rfl | hv
      · rfl
      rcases List.mem_cons.1 hv with rfl | hv
      · rfl
      rcases List.mem_append.1 hv with hv | hv
      · exact h2 v (by simpa using hv)
      · simp only [List.mem_cons, List.not_mem_nil, or_false] at hv
        rcases hv with rfl | rfl | rfl <;> rfl
    have HSA := hide hSA
    have hsz1 : (w1.alloc (.cells (fsV f iv tv ev av bv lv hv) STT)).heap.size = w1.heap.size + 1 := by simp
    have HK := hide (And.intro hli (And.intro hho (And.intro hfull (And.intro hb1 hB))))
    clear hSA hli hho hfull hb1 hB hx1 hx2 hx3 hx4 hx5 hx6 hx7 HP
    go_upto_region 5 with (first | (refine wpList_storeNew rfl _ _ rfl _ _ rfl rfl rfl rfl hsz.2 ?_) | (refine wpList_loadRow rfl _ rfl _ _ rfl (unhide HSA) ?_) | (refine wpListN_build rfl _ _ _ rfl i f iv tv ev av bv lv hv rfl rfl rfl ?_) | (refine wpListN_storeNew rfl _ _ rfl _ _ (w1.heap.size + 1) hsz1 rfl rfl rfl rfl hone ?_))
    have b2 := alloc_below w1 (.cells (fsV f iv tv ev av bv lv hv) STT)
    have b3 := alloc_below (w1.alloc (.cells (fsV f iv tv ev av bv lv hv) STT)) (.cells (leafC i (fsV f iv tv ev av bv lv hv)).cells.toArray NDT)
    have kc : ((w1.alloc (.cells (fsV f iv tv ev av bv lv hv) STT)).alloc (.cells (leafC i (fsV f iv tv ev av bv lv hv)).cells.toArray NDT)).cell? ⟨w1.heap.size, 0, none⟩ = some (.int .i64 f.kind) := (b3.cell (p := ⟨w1.heap.size, 0, none⟩) (by rw [hsz1]; show w1.heap.size < w1.heap.size + 1; omega)).trans (by simp)
    have hrg : ((w1.alloc (.cells (fsV f iv tv ev av bv lv hv) STT)).alloc (.cells (leafC i (fsV f iv tv ev av bv lv hv)).cells.toArray NDT)).rangeAt (w1.heap.size + 1) 0 (leafC i (fsV f iv tv ev av bv lv hv)).cells := by
      have := boxN_range (w1.alloc (.cells (fsV f iv tv ev av bv lv hv) STT)) (leafC i (fsV f iv tv ev av bv lv hv)).cells NDT
      rw [hsz1] at this
      exact this
    have hcl : (leafC i (fsV f iv tv ev av bv lv hv)).cells.length = 34 := NC.len rfl
    obtain ⟨hli, hho, hfull, hb1, hB⟩ := unhide HK
    have h23 := bthen b2 b3
    have h13 := bthen hb1 h23
    have hA := (unhide H0).below h13
    have hF : HoldsF (fun b => w.heap.size ≤ b ∧ b ≠ go) ((w1.alloc (.cells (fsV f iv tv ev av bv lv hv) STT)).alloc (.cells (leafC i (fsV f iv tv ev av bv lv hv)).cells.toArray NDT)) (fsV f iv tv ev av bv lv hv) f := hfull.keep (fun b _ hl => h23.block b hl) (fun b hb _ => ⟨by have hb : B < b := hb; omega, fun e => by have hb : B < b := hb; have := (unhide H0).gl; omega⟩)
    have HH := hide (And.intro hli (And.intro h13 (And.intro hA hF)))
    have hkc := kindN_cases hli
    have hone2 : ∀ v ∈ (leafC i (fsV f iv tv ev av bv lv hv)).cells, v.oneCell' = true := fun v hv => (Array.all_eq_true_iff_forall_mem.1 hone) v (by simpa using hv)
    have HO := hide hone2
    rw [hck] at kc
    clear b2 b3 hli hho hfull hb1 hB h23 h13 hA hF HK HSA hone hone2 hsz
    generalize ((w1.alloc (.cells (fsV f iv tv ev av bv lv hv) STT)).alloc (.cells (leafC i (fsV f iv tv ev av bv lv hv)).cells.toArray NDT)) = W3 at *
    subst hfs
    rcases hkc with hk | hk | hk | hk | hk | hk | hk | hk | hk | hk
    all_goals rw [hk] at kc
    · -- nothing
      go_wp2
      go_ret
      exact ⟨Fr.below (unhide HH).2.1 l1, .inl ⟨ps, plainB D K, (unhide HH).1, by unfold Bl.take; rw [if_pos hk], rfl, dv, ov, D, K, go, (unhide HH).2.2.1.wide, rfl⟩⟩
    · -- 1
      have hAT := atHead_any W3 (unhide HH).2.2.1 (Nat.le_trans (Nat.le_of_eq (List.length_map ..).symm) (unhide HS).1)
      cases hat : (plainB D K).atHead with
      | false =>
        rw [show (⟨D.map (·.2), K.map (·.2)⟩ : Bl).atHead = false from hat] at hAT
        have HAT := hide hAT
        have HAH := hide hat
        clear hAT hat
        go_wp2_with fail
        refine (unhide HAT).mono ?_
        rintro e w4 ⟨rfl, rfl⟩
        go_wp2
        go_ret
        exact ⟨Fr.below (unhide HH).2.1 l1, .inr (.inl ⟨ps, 2, (unhide HH).1, take_declNo hk (unhide HAH), by decide, rfl⟩)⟩
      | true =>
        rw [show (⟨D.map (·.2), K.map (·.2)⟩ : Bl).atHead = true from hat] at hAT
        have HAT := hide hAT
        have HAH := hide hat
        clear hAT hat
        have HA := hide (tbAdd_any W3 (unhide HH).2.2.1 _ _ (leaf_node (i := i) (unhide HH).2.2.2) (unhide HS))
        go_wp2_with fail
        refine (unhide HAT).mono ?_
        rintro e w4 ⟨rfl, hw4⟩
        subst hw4
        go_wp2_with (first | (refine wpListN_load rfl _ rfl _ _ rfl _ hcl hrg ?_))
        refine (unhide HA).mono ?_
        rintro e w5 ⟨rfl, hf4, dv', D', K', hb4, hp4⟩
        go_wp2
        go_ret
        exact ⟨(Fr.below (unhide HH).2.1 l1).trans hf4, .inl ⟨ps, _, (unhide HH).1, take_add (.inr (.inr (.inr ⟨hk, unhide HAH⟩))), rfl, dv', ov, D', K', go, hb4, hp4⟩⟩
    · -- 2
      have HA := hide (tbAdd_any W3 (unhide HH).2.2.1 _ _ (leaf_node (i := i) (unhide HH).2.2.2) (unhide HS))
      go_wp2_with (first | (refine wpListN_load rfl _ rfl _ _ rfl _ hcl hrg ?_))
      refine (unhide HA).mono ?_
      rintro e w4 ⟨rfl, hf4, dv', D', K', hb4, hp4⟩
      go_wp2
      go_ret
      exact ⟨(Fr.below (unhide HH).2.1 l1).trans hf4, .inl ⟨ps, _, (unhide HH).1, take_add (.inl hk), rfl, dv', ov, D', K', go, hb4, hp4⟩⟩
    · -- 3
      have HA := hide (tbBegin_any W3 (unhide HH).2.2.1 (leafC i (fsV ps.full iv tv ev av bv lv hv)) (PN.leaf i ps) ⟨rfl, rfl, rfl⟩ (unhide HH).2.2.2 rfl rfl rfl rfl (unhide HO))
      go_wp2_with (first | (refine wpListN_load rfl _ rfl _ _ rfl _ hcl hrg ?_))
      refine (unhide HA).mono ?_
      rintro e w4 (⟨h8, rfl, hb4⟩ | ⟨h8, rfl, hf4, ov', go', hb4⟩)
      · go_wp2
        go_ret
        exact ⟨(Fr.below (unhide HH).2.1 l1).trans (Fr.below hb4 (by have := (unhide HH).2.1.size; omega)), .inr (.inl ⟨ps, 4, (unhide HH).1, (take_begin (by omega)).trans (if_pos (by rw [List.length_map]; exact h8)), by decide, rfl⟩)⟩
      · go_wp2
        go_ret
        exact ⟨(Fr.below (unhide HH).2.1 l1).trans hf4, .inl ⟨ps, _, (unhide HH).1, (take_begin (by omega)).trans (if_neg (by rw [List.length_map]; omega)), rfl, dv, ov', D, _, go', hb4, rfl⟩⟩
    · -- 4
      have HA := hide (tbEnd_any W3 (unhide HH).2.2.1 3 i (unhide HS))
      go_wp2_with fail
      refine (unhide HA).mono ?_
      rintro e w4 (⟨hno, rfl, hb4⟩ | ⟨c, r, K', rfl, h5, rfl, hf4, dv', ov', D', K2, go', hb4, hp4⟩)
      · go_wp2
        go_ret
        exact ⟨(Fr.below (unhide HH).2.1 l1).trans (Fr.below hb4 (by have := (unhide HH).2.1.size; omega)), .inr (.inl ⟨ps, 12, (unhide HH).1, (take_endDo hk).trans (close_no hno), by decide, rfl⟩)⟩
      · go_wp2
        go_ret
        exact ⟨(Fr.below (unhide HH).2.1 l1).trans hf4, .inl ⟨ps, _, (unhide HH).1, (take_endDo hk).trans (if_pos h5), rfl, dv', ov', D', K2, go', hb4, hp4⟩⟩
    · -- 5
      have HA := hide (tbBegin_any W3 (unhide HH).2.2.1 (leafC i (fsV ps.full iv tv ev av bv lv hv)) (PN.leaf i ps) ⟨rfl, rfl, rfl⟩ (unhide HH).2.2.2 rfl rfl rfl rfl (unhide HO))
      go_wp2_with (first | (refine wpListN_load rfl _ rfl _ _ rfl _ hcl hrg ?_))
      refine (unhide HA).mono ?_
      rintro e w4 (⟨h8, rfl, hb4⟩ | ⟨h8, rfl, hf4, ov', go', hb4⟩)
      · go_wp2
        go_ret
        exact ⟨(Fr.below (unhide HH).2.1 l1).trans (Fr.below hb4 (by have := (unhide HH).2.1.size; omega)), .inr (.inl ⟨ps, 4, (unhide HH).1, (take_begin (by omega)).trans (if_pos (by rw [List.length_map]; exact h8)), by decide, rfl⟩)⟩
      · go_wp2
        go_ret
        exact ⟨(Fr.below (unhide HH).2.1 l1).trans hf4, .inl ⟨ps, _, (unhide HH).1, (take_begin (by omega)).trans (if_neg (by rw [List.length_map]; omega)), rfl, dv, ov', D, _, go', hb4, rfl⟩⟩
    · -- 6
      have HA := hide (tbMiddle_any W3 (unhide HH).2.2.1 i)
      go_wp2_with fail
      refine (unhide HA).mono ?_
      rintro e w4 (⟨hno, rfl, hb4⟩ | ⟨c, r, K', rfl, h5, hm5, rfl, hf4, c', hb4⟩)
      · go_wp2
        go_ret
        exact ⟨(Fr.below (unhide HH).2.1 l1).trans (Fr.below hb4 (by have := (unhide HH).2.1.size; omega)), .inr (.inl ⟨ps, 12, (unhide HH).1, (take_mid hk).trans (middle_no hno), by decide, rfl⟩)⟩
      · go_wp2
        go_ret
        exact ⟨(Fr.below (unhide HH).2.1 l1).trans hf4, .inl ⟨ps, _, (unhide HH).1, (take_mid hk).trans (if_pos ⟨h5, hm5⟩), rfl, dv, ov, D, _, go, hb4, rfl⟩⟩
    · -- 7
      have HA := hide (tbEnd_any W3 (unhide HH).2.2.1 5 i (unhide HS))
      go_wp2_with fail
      refine (unhide HA).mono ?_
      rintro e w4 (⟨hno, rfl, hb4⟩ | ⟨c, r, K', rfl, h5, rfl, hf4, dv', ov', D', K2, go', hb4, hp4⟩)
      · go_wp2
        go_ret
        exact ⟨(Fr.below (unhide HH).2.1 l1).trans (Fr.below hb4 (by have := (unhide HH).2.1.size; omega)), .inr (.inl ⟨ps, 12, (unhide HH).1, (take_endIf hk).trans (close_no hno), by decide, rfl⟩)⟩
      · go_wp2
        go_ret
        exact ⟨(Fr.below (unhide HH).2.1 l1).trans hf4, .inl ⟨ps, _, (unhide HH).1, (take_endIf hk).trans (if_pos h5), rfl, dv', ov', D', K2, go', hb4, hp4⟩⟩
    · -- 8
      have HA := hide (tbAdd_any W3 (unhide HH).2.2.1 _ _ (leaf_node (i := i) (unhide HH).2.2.2) (unhide HS))
      go_wp2_with (first | (refine wpListN_load rfl _ rfl _ _ rfl _ hcl hrg ?_))
      refine (unhide HA).mono ?_
      rintro e w4 ⟨rfl, hf4, dv', D', K', hb4, hp4⟩
      go_wp2
      go_ret
      exact ⟨(Fr.below (unhide HH).2.1 l1).trans hf4, .inl ⟨ps, _, (unhide HH).1, take_add (.inr (.inl hk)), rfl, dv', ov, D', K', go, hb4, hp4⟩⟩
    · -- 9
      have HA := hide (tbAdd_any W3 (unhide HH).2.2.1 _ _ (leaf_node (i := i) (unhide HH).2.2.2) (unhide HS))
      go_wp2_with (first | (refine wpListN_load rfl _ rfl _ _ rfl _ hcl hrg ?_))
      refine (unhide HA).mono ?_
      rintro e w4 ⟨rfl, hf4, dv', D', K', hb4, hp4⟩
      go_wp2
      go_ret
      exact ⟨(Fr.below (unhide HH).2.1 l1).trans hf4, .inl ⟨ps, _, (unhide HH).1, take_add (.inr (.inr (.inl hk))), rfl, dv', ov, D', K', go, hb4, hp4⟩⟩
  · have HK := hide (And.intro hbad (And.intro hle hb1))
    obtain ⟨b, rfl⟩ := hle.shape
    clear hbad hle hb1 HP
    have hsz : (stZ 0).size = 29 ∧ (stZ 0).all (·.oneCell') = true := ⟨rfl, stZ_one 0⟩
    go_wp2_with (first | (refine wpList_storeNew rfl _ _ rfl _ _ rfl rfl rfl rfl hsz.2 ?_))
    go_ret
    have hb2 := bthen (unhide HK).2.2 (alloc_below w1 (.cells (stZ 0) STT))
    exact ⟨Fr.below hb2 l1, .inr (.inr ⟨_, le, (unhide HK).1, rfl, ((unhide HK).2.1.keep (fun b _ hl => (alloc_below w1 _).block b hl)).mono (by omega)⟩)⟩
end Go.Proofs.YthkbchefjagbbaaGreatDoor.Line

namespace Go.Proofs.YthkbchefjagbbaaGreatDoor.Line
open Go.ChangeShapes Go.WideShapes Go.ChangeAt Go.RowKit
open Ex (E St)
set_option linter.unusedVariables false

theorem small_mono {b : Bl} {i j : Nat} (h : SmallB b i) (hj : i ≤ j) : SmallB b j := ⟨Nat.le_trans h.1 hj, fun r hr => ⟨Nat.le_trans (h.2 r hr).1 hj, Nat.le_trans (h.2 r hr).2 hj⟩⟩
theorem small_add {b : Bl} {i : Nat} {n : PN} (h : SmallB b i) : SmallB (b.add n) (i + 1) := by
  obtain ⟨d, o⟩ := b
  cases o with
  | nil =>
    refine ⟨?_, fun r hr => by cases hr⟩
    show (d ++ [n]).length ≤ i + 1
    have := h.1
    rw [List.length_append, List.length_singleton]; show d.length + 1 ≤ i + 1
    have : d.length ≤ i := h.1
    omega
  | cons r rest =>
    refine ⟨Nat.le_succ_of_le h.1, fun q hq => ?_⟩
    rcases List.mem_cons.1 hq with rfl | hq
    · have hr := h.2 r List.mem_cons_self
      unfold PN.putIn
      split
      · refine ⟨?_, Nat.le_succ_of_le hr.2⟩
        show (r.body ++ [n]).length ≤ _
        rw [List.length_append, List.length_singleton]; omega
      · refine ⟨Nat.le_succ_of_le hr.1, ?_⟩
        show (r.els ++ [n]).length ≤ _
        rw [List.length_append, List.length_singleton]; omega
    · have hr := h.2 q (List.mem_cons_of_mem _ hq)
      exact ⟨by omega, by omega⟩
theorem small_take {b b' : Bl} {i j : Nat} {ps : PS} (h : SmallB b i) (ht : b.take j ps = .ok b') : SmallB b' (i + 1) := by
  have hclose : ∀ k, b.close k j = .ok b' → SmallB b' (i + 1) := fun k hc => by
    obtain ⟨d, o⟩ := b
    cases o with
    | nil => cases hc
    | cons r rest =>
      unfold Bl.close at hc
      dsimp only at hc
      split at hc
      · injection hc with hc
        subst hc
        exact small_add ⟨h.1, fun q hq => h.2 q (List.mem_cons_of_mem _ hq)⟩
      · cases hc
  unfold Bl.take at ht
  split at ht
  · injection ht with ht; subst ht; exact small_mono h (by omega)
  split at ht
  · unfold Bl.begin at ht
    split at ht
    · cases ht
    · injection ht with ht
      subst ht
      refine ⟨Nat.le_succ_of_le h.1, fun q hq => ?_⟩
      rcases List.mem_cons.1 hq with rfl | hq
      · exact ⟨Nat.zero_le _, Nat.zero_le _⟩
      · have := h.2 q hq; exact ⟨by omega, by omega⟩
  split at ht
  · obtain ⟨d, o⟩ := b
    cases o with
    | nil => cases ht
    | cons r rest =>
      unfold Bl.middle at ht
      dsimp only at ht
      split at ht
      · injection ht with ht
        subst ht
        refine ⟨Nat.le_succ_of_le h.1, fun q hq => ?_⟩
        rcases List.mem_cons.1 hq with rfl | hq
        · have := h.2 r List.mem_cons_self; exact ⟨Nat.le_succ_of_le this.1, Nat.le_succ_of_le this.2⟩
        · have := h.2 q (List.mem_cons_of_mem _ hq); exact ⟨by omega, by omega⟩
      · cases ht
  split at ht
  · exact hclose _ ht
  split at ht
  · exact hclose _ ht
  split at ht
  · cases ht
  · injection ht with ht
    subst ht
    exact small_add h
/-- such an error in memory, in blocks from B on -/
def TeAt (B : Nat) (w : World) (g : Value) : TE → Prop
  | .line e => LeAt B w g e
  | .own e => e ≠ 0 ∧ g = .iface ENT (.int .i64 e)
theorem TeAt.keep {B : Nat} {w w' : World} {g : Value} {e : TE} (h : TeAt B w g e) (hk : ∀ b, B ≤ b → b < w.heap.size → w'.heap[b]? = w.heap[b]?) : TeAt B w' g e := by
  cases e with
  | line e => exact LeAt.keep h hk
  | own e => exact h
/-- what is wrong with lines -/
def Wrongs (L : List (List UInt8)) (i : Nat) (te : TE) : Prop := Fails L 0 Bl.start i te ∨ (∃ b r rest, Grows L 0 Bl.start b ∧ b.opn = r :: rest ∧ i = r.line ∧ te = .own 11)
def wLine : List UInt8 := [108, 105, 110, 101]
/-- a Fault of a line, in memory, in blocks from B on -/
def LineAt (B : Nat) (w : World) (g : Value) (i : Nat) (te : TE) : Prop := ∃ b g2, B ≤ b ∧ g = .iface FPT (.pointer (some ⟨b, 0, none⟩)) ∧ (w.cell? ⟨b, 0, none⟩ = some (.string ⟨wLine.toArray⟩) ∧ w.cell? ⟨b, 1, none⟩ = some (.int .i64 i) ∧ w.cell? ⟨b, 2, none⟩ = some g2) ∧ TeAt B w g2 te
theorem LineAt.keep {B : Nat} {w w' : World} {g : Value} {i : Nat} {te : TE} (h : LineAt B w g i te) (hk : ∀ b, B ≤ b → b < w.heap.size → w'.heap[b]? = w.heap[b]?) : LineAt B w' g i te := by
  obtain ⟨b, g2, hB, hg, ⟨h1, h2, h3⟩, ht⟩ := h
  have hc : ∀ o, w'.cell? ⟨b, o, none⟩ = w.cell? ⟨b, o, none⟩ := fun o => World.cell?_of_block (a := ⟨b, o, none⟩) (hk b hB (cell_lt h1))
  exact ⟨b, g2, hB, hg, ⟨(hc 0).trans h1, (hc 1).trans h2, (hc 2).trans h3⟩, ht.keep hk⟩
def OfPost (B : Nat) (L : List (List UInt8)) (e : Ending) (w' : World) : Prop :=
  (∃ b nv, Grows L 0 Bl.start b ∧ b.opn = [] ∧ e = .returned (.tuple #[nv, .nilIface]) ∧ Nodes w' (fun q => B ≤ q) b.done nv) ∨
  (∃ i te g, Wrongs L i te ∧ e = .returned (.tuple #[.slice none 0 0, g]) ∧ LineAt B w' g i te)
theorem row_at {w : World} {v : Value} {L : List (List UInt8)} (h : Row w v L) : ∃ a cap, v = .slice a L.length cap := by
  rcases h with ⟨a, cap, rfl, rfl⟩ | ⟨b, off, cap, rfl, _⟩
  · exact ⟨a, cap, rfl⟩
  · exact ⟨_, _, rfl⟩
theorem take_last (L : List (List UInt8)) (k : Nat) (h : k < L.length) : L.take (k + 1) = L.take k ++ [L[k]] := by rw [List.take_succ_eq_append_getElem h]
abbrev BLT : TypeId := 164
theorem bl_start (w : World) : BlAt (w.alloc (.cells #[.slice none 0 0, .slice none 0 0] BLT)) w.heap.size (w.heap.size + 1) (.slice none 0 0) (.slice none 0 0) [] [] w.heap.size (w.alloc (.cells #[.slice none 0 0, .slice none 0 0] BLT)).heap.size := by
  have hs : (w.alloc (.cells #[.slice none 0 0, .slice none 0 0] BLT)).heap.size = w.heap.size + 1 := by simp
  exact ⟨by simp, by simp, fun o => by simp, by omega, Nat.le_refl _, World.ownsRow_nil _ _ _ _, .inl ⟨rfl, rfl⟩, by omega, .nil _ (by omega) (OwnL.nil _ _ _ _), by simp⟩
/-- what the loop leaves -/
def OfRel (w wr : World) (L : List (List UInt8)) (k : Nat) : Prop := ∃ dv ov D K go, Grows (L.take k) 0 Bl.start (plainB D K) ∧ BlAt wr w.heap.size (w.heap.size + 1) dv ov D K go wr.heap.size ∧ SmallB (plainB D K) k ∧ Below w.heap.size w wr
theorem fr_below {w wr wr' : World} (h : Below w.heap.size w wr) (hf : Fr w.heap.size (w.heap.size + 1) wr wr') : Below w.heap.size w wr' := ⟨hf.os.trans h.os, hf.tape.trans h.tape, hf.output.trans h.output, Nat.le_trans h.size hf.size, fun b hb => (hf.block b (by omega) (by omega)).trans (h.block b hb)⟩
set_option maxHeartbeats 8000000 in
set_option maxRecDepth 100000 in
theorem of_tree (L : List (List UInt8)) (v : Value) (w : World) (hrow : Row w v L) (hlen : ∀ s ∈ L, s.length ≤ 65536) (hL : L.length ≤ 1000000) (hG : Glob w) :
    Calls Tryz.prog 37 #[v] w fun e w' => Below w.heap.size w w' ∧ OfPost w.heap.size L e w' := by
  obtain ⟨va, vcap, rfl⟩ := row_at hrow
  have ba := alloc_below w (.cells #[.slice none 0 0, .slice none 0 0] BLT)
  have HB0 : Hid (OfRel w (w.alloc (.cells #[.slice none 0 0, .slice none 0 0] BLT)) L 0) := hide ⟨_, _, [], [], _, .nil _ _, bl_start w, ⟨Nat.le_refl _, fun r hr => by cases hr⟩, ba⟩
  have HR := hide hrow
  have HLN := hide hlen
  have HG := hide hG
  clear hrow hlen hG ba
  obtain ⟨n, hn⟩ : ∃ n, L.length = n := ⟨_, rfl⟩
  rw [hn]
  rw [hn] at hL
  go_enter Tryz.func37, Tryz.ntmps37
  go_wp2_with fail
  generalize (w.alloc (.cells #[.slice none 0 0, .slice none 0 0] BLT)) = W1 at *
  go_loopw [11] (fun i wr => ∃ k : Nat, i = .int .i64 k ∧ k ≤ n ∧ Hid (OfRel w wr L k)) (fun i _ => n - (intOf i).toNat)
  case atStart => exact ⟨0, rfl, Nat.zero_le _, HB0⟩
  case round =>
    obtain ⟨k, rfl, hk, HI⟩ := hrel
    by_cases hlt : k < n
    · have hkL : k < L.length := by omega
      obtain ⟨dv, ov, D, K, go, hgr, hbl, hsm, hbw⟩ := unhide HI
      obtain ⟨b, off, hva, hcap, hcell⟩ : ∃ b off, va = some ⟨b, off, none⟩ ∧ n ≤ vcap ∧ wr.cell? ⟨b, off + k, none⟩ = some (.string ⟨(L[k]).toArray⟩) := by
        rcases (unhide HR).below hbw with ⟨a, cap, _, h0⟩ | ⟨b, off, cap, e, hc, h⟩
        · rw [h0] at hkL; simp at hkL
        · injection e with e1 e2 e3
          exact ⟨b, off, e1, by omega, h k hkL⟩
      subst hva
      have HT := hide (take_any wr hbl k L[k] (unhide HLN _ (List.getElem_mem hkL)) ((unhide HG).below hbw) (small_mono hsm (by omega)))
      have HJ := hide (And.intro hgr (And.intro hsm hbw))
      have i1 : (k : Int) < n := by omega
      have i2 : (k : Int) ≤ 1000000 := by omega
      clear hgr hbl hsm hbw HI
      go_wp2_with fail
      refine (unhide HT).mono ?_
      rintro e w2 ⟨hfr, ⟨ps, b', hli, htk, rfl, dv', ov', D', K', go', hbl', hpb⟩ | ⟨ps, er, hli, htk, her, rfl⟩ | ⟨g, le, hbad, rfl, hle⟩⟩
      · have HN : Hid (OfRel w w2 L (k + 1)) := hide ⟨dv', ov', D', K', go', by
          rw [take_last L k hkL, hpb]
          exact (unhide HJ).1.snoc hli (by rw [List.length_take, Nat.min_eq_left (by omega), Nat.zero_add]; exact htk), hbl', by rw [hpb]; exact small_take (unhide HJ).2.1 htk, fr_below (unhide HJ).2.2 hfr⟩
        clear hfr hli htk hbl' hpb HT HJ hcell
        go_wp2
        go_roundw
        case rel => exact ⟨k + 1, by go_num, by omega, HN⟩
        case measure => simp [intOf]; omega
      · have HN : Hid (Wrongs L k (.own er) ∧ Below w.heap.size w w2) := hide ⟨.inl (by
          have := (unhide HJ).1.fails (M := L.drop k) (j := k) (e := .own er) (by
            rw [List.length_take, Nat.min_eq_left (by omega), Nat.zero_add, List.drop_eq_getElem_cons hkL]
            exact .own hli htk)
          rwa [List.take_append_drop] at this), fr_below (unhide HJ).2.2 hfr⟩
        have hne : ((er : Int) == 0) = false := by rw [beq_eq_false_iff_ne]; omega
        have HER := hide her
        clear hfr hli htk HT HJ hcell her
        go_wp2
        go_ret2
        refine ⟨(unhide HN).2.alloc (unhide HN).2.size _, .inr ⟨k, .own er, _, (unhide HN).1, rfl, w2.heap.size, _, (unhide HN).2.size, rfl, ⟨?_, ?_, ?_⟩, unhide HER, rfl⟩⟩ <;> simp <;> rfl
      · obtain ⟨gb, rfl⟩ := hle.shape
        have HN : Hid (Wrongs L k (.line le) ∧ Below w.heap.size w w2 ∧ LeAt (w.heap.size + 1) w2 (.iface FPT (.pointer (some ⟨gb, 0, none⟩))) le) := hide ⟨.inl (by
          have := (unhide HJ).1.fails (M := L.drop k) (j := k) (e := .line le) (by
            rw [List.length_take, Nat.min_eq_left (by omega), Nat.zero_add, List.drop_eq_getElem_cons hkL]
            exact .read hbad)
          rwa [List.take_append_drop] at this), fr_below (unhide HJ).2.2 hfr, hle⟩
        clear hfr hbad hle HT HJ hcell
        go_wp2
        go_ret2
        refine ⟨(unhide HN).2.1.alloc (unhide HN).2.1.size _, .inr ⟨k, .line le, _, (unhide HN).1, rfl, w2.heap.size, _, (unhide HN).2.1.size, rfl, ⟨?_, ?_, ?_⟩, ((unhide HN).2.2.keep (fun b _ hl => (alloc_below w2 _).block b hl)).mono (by omega)⟩⟩ <;> simp <;> rfl
    · have hkn : k = n := by omega
      subst hkn
      have hlt2 : ¬ (k : Int) < k := by omega
      obtain ⟨dv, ov, D, K, go, hgr, hbl, hsm, hbw⟩ := unhide HI
      rw [← hn, List.take_length] at hgr
      have HJ := hide (And.intro hgr hbw)
      have HBL := hide hbl
      have HIN := hide (innermost_any wr hbl)
      have c0 := hbl.c0
      cases K with
      | nil =>
        clear hgr hbl hsm hbw HI
        go_wp2_with fail
        refine (unhide HIN).mono ?_
        rintro e w2 ⟨rfl, nd, rfl⟩
        rw [topP_nil]
        have c0 : (wr.drewN nd).cell? ⟨w.heap.size, 0, none⟩ = some dv := c0
        go_wp2
        go_ret2
        have hO := (unhide HBL).stk
        have hd := below_drewN (Below.refl wr.heap.size wr) nd
        refine ⟨bthen (unhide HJ).2 hd, .inl ⟨_, dv, (unhide HJ).1, rfl, rfl, ?_⟩⟩
        cases hO with
        | nil _ _ hO => exact hO.nodes.keep (fun b _ hl => hd.block b hl) (fun b hb _ => by have := hb.1; omega)
      | cons p K =>
        obtain ⟨c, r⟩ := p
        obtain ⟨-, -, -, -, k4⟩ := top_kind hbl
        have hgl := hbl.gl
        clear hgr hbl hsm hbw HI
        go_wp2_with fail
        refine (unhide HIN).mono ?_
        rintro e w2 ⟨rfl, nd, rfl⟩
        rw [topP_cons]
        have k4 : (wr.drewN nd).cell? ⟨go, K.length * 34, none⟩ = some (.int .i64 r.line) := k4
        have HBD := hide (below_drewN (unhide HJ).2 nd)
        generalize wr.drewN nd = W2 at *
        go_wp2_with fail
        go_region_law (fail)
        all_goals (
          go_wp2
          go_ret2
          have hb := (unhide HBD)
          refine ⟨(hb.drew).alloc hb.size _, .inr ⟨r.line, .own 11, _, .inr ⟨_, r, K.map (·.2), (unhide HJ).1, rfl, rfl, rfl⟩, rfl, W2.heap.size, _, hb.size, rfl, ⟨?_, ?_, ?_⟩, by decide, rfl⟩⟩ <;> simp <;> rfl)
end Go.Proofs.YthkbchefjagbbaaGreatDoor.Line
