/- The contracts of the statement reader's targetEnd, target.
   Statements in memory; the contract of the statement reader's statement, of those that have no fields.
   In the midst of statement: its variable and its result in memory; expressions and targets, whatever was wrong ahead of them.
   The contract of the statement reader's statement: declarations, heads of loops, settings.
   The contract of the statement reader's statement: settings, reads, prints.
   The contract of the statement reader's statement: reads, prints. -/
import Derived.Test.YthkbchefjagbbaaGreatDoorStXpA
import Derived.Test.YthkbchefjagbbaaGreatDoorStDimA
import Derived.Deep.WholeRow
namespace Go.Proofs.YthkbchefjagbbaaGreatDoor.Line
open Go.ChangeShapes Go.WideShapes Go.ChangeAt Go.RowKit
open Ex (E St)
set_option linter.unusedVariables false

def tOpen (t : Words.T) (o : Int) : Int := if t.text = [40] then o + 1 else if t.text = [41] then o - 1 else o
/-- how many words there are up to the bracket that ends what is open -/
def tScan : List Words.T → Int → Nat
  | [], _ => 0
  | t :: r, o => if tOpen t o = 0 then 1 else 1 + tScan r (tOpen t o)
def tEnd (T : List Words.T) (p : Nat) : Nat := match T[p + 1]? with
  | none => p + 1
  | some t => if t.text = [40] then p + 1 + tScan (T.drop (p + 1)) 0 else p + 1
theorem tScan_le : ∀ (l : List Words.T) (o : Int), tScan l o ≤ l.length := by
  intro l
  induction l with
  | nil => intro o; exact Nat.le_refl _
  | cons t r ih =>
    intro o
    show (if _ then _ else _) ≤ _
    have := ih (tOpen t o)
    split
    · simp
    · rw [List.length_cons, Nat.add_comm]; exact Nat.succ_le_succ this
theorem tEnd_le {T : List Words.T} {p : Nat} (h : p < T.length) : p ≤ tEnd T p ∧ tEnd T p ≤ T.length := by
  unfold tEnd
  split
  · omega
  · rename_i t ht
    have hl := (List.getElem?_eq_some_iff.1 ht).1
    split
    · have := tScan_le (T.drop (p + 1)) 0
      rw [List.length_drop] at this
      omega
    · omega
theorem Tks.text {w : World} {L : Value} {T : List Words.T} (h : Tks w L T) (hn : 0 < T.length) : ∃ b o c, L = .slice (some ⟨b, o, none⟩) T.length c ∧ T.length ≤ c ∧ ∀ i (hi : i < T.length), w.cell? ⟨b, o + i * 4 + 1, none⟩ = some (.string ⟨T[i].text.toArray⟩) := by
  rcases h with ⟨a, c, rfl, rfl⟩ | ⟨b, o, c, rfl, hc, h⟩
  · simp at hn
  · exact ⟨b, o, c, rfl, hc, fun i hi => (h i hi).2.1⟩
/-- in the midst of the search for the bracket that ends -/
theorem scan_step1 (T : List Words.T) (e : Nat) (h : e < T.length) (op : Int) : tScan (T.drop e) op = if tOpen T[e] op = 0 then 1 else 1 + tScan (T.drop (e + 1)) (tOpen T[e] op) := by
  rw [List.drop_eq_getElem_cons h]
  rfl
set_option maxHeartbeats 4000000 in
set_option maxRecDepth 100000 in
theorem targetEnd_any (T : List Words.T) (L : Value) (rb : Nat) (w : World) (p : Nat) (er : SE) (h : SR T L rb w p er) (hp : p < T.length) : Calls Tryz.prog 155 #[.pointer (some ⟨rb, 0, none⟩)] w fun e w' => e = .returned (.int .i64 (tEnd T p)) ∧ w' = w := by
  obtain ⟨b, o, c, hLe, hcap, hcell⟩ := h.tks.text (by omega)
  subst hLe
  have c0 := h.c0
  have c1 := h.c1
  have ht := h.ht
  clear h
  have HC := hide hcell
  clear hcell
  by_cases h1 : p + 1 < T.length
  · have hg : T[p + 1]? = some T[p + 1] := List.getElem?_eq_getElem h1
    have hc1 := unhide HC (p + 1) h1
    have h2 : ¬ ((p : Int) + 1) = T.length := by omega
    have h2b : (((p : Int) + 1) == T.length) = false := by rw [beq_eq_false_iff_ne]; exact h2
    have h3 : ((p : Int) + 1) < T.length := by omega
    have h4 : ((p + 1 : Nat) : Int) = (p : Int) + 1 := by omega
    by_cases htx : T[p + 1].text = [40]
    · have he : tEnd T p = p + 1 + tScan (T.drop (p + 1)) 0 := by unfold tEnd; rw [hg]; simp only; rw [if_pos htx]
      rw [he]
      rw [htx] at hc1
      have hse := tScan_le (T.drop (p + 1)) 0
      rw [List.length_drop] at hse
      obtain ⟨G, hGo⟩ : ∃ G, p + 1 + tScan (T.drop (p + 1)) 0 = G := ⟨_, rfl⟩
      rw [hGo]
      have HGo := hide hGo
      clear hse hGo he
      go_enter Tryz.func155, Tryz.ntmps155
      go_wp2_with fail
      clear hc1 htx hg h2 h2b h3
      go_loop [3, 4] (fun s3 s4 => ∃ (e : Nat) (op : Int), s3 = .int .i64 e ∧ s4 = .int .i64 op ∧ e ≤ T.length ∧ -(e : Int) ≤ op ∧ op ≤ e ∧ Hid (e + tScan (T.drop e) op = G)) (fun s3 _ => T.length - (intOf s3).toNat)
      case atStart => exact ⟨p + 1, 0, by go_num, rfl, by omega, by omega, by omega, HGo⟩
      case round =>
        obtain ⟨e, op, rfl, rfl, hel, ho1, ho2, HG⟩ := hrel
        by_cases hlt : e < T.length
        · have hlt2 : (e : Int) < T.length := by omega
          have hce := unhide HC e hlt
          have hst := scan_step1 T e hlt op
          have HST := hide hst
          clear hst
          have HTO : Hid (tOpen T[e] op = if T[e].text = [40] then op + 1 else if T[e].text = [41] then op - 1 else op) := hide rfl
          generalize tOpen T[e] op = op2 at *
          generalize T[e].text = tx at *
          by_cases k1 : tx = [40]
          · have ho : op2 = op + 1 := by rw [unhide HTO, if_pos k1]
            subst k1
            subst ho
            by_cases hz : op + 1 = 0
            · have hzb : (op + 1 == 0) = true := by rw [beq_iff_eq]; exact hz
              have hr : e + 1 = G := by rw [← unhide HG, unhide HST, if_pos hz]
              subst hr
              go_wp2
              go_ret
              exact ⟨by go_num, rfl⟩
            · have hzb : (op + 1 == 0) = false := by rw [beq_eq_false_iff_ne]; exact hz
              have hr : Hid ((e + 1) + tScan (T.drop (e + 1)) (op + 1) = G) := hide (by rw [← unhide HG, unhide HST, if_neg hz]; omega)
              go_wp2_with fail
              go_round
              case rel => exact ⟨e + 1, op + 1, by go_num, rfl, by omega, by omega, by omega, hr⟩
              case measure => simp [intOf]; omega
          · have k1b : (tx == [40]) = false := beq_eq_false_iff_ne.2 k1
            by_cases k2 : tx = [41]
            · have ho : op2 = op - 1 := by rw [unhide HTO, if_neg k1, if_pos k2]
              subst k2
              subst ho
              clear k1 k1b
              by_cases hz : op - 1 = 0
              · have hzb : (op - 1 == 0) = true := by rw [beq_iff_eq]; exact hz
                have hr : e + 1 = G := by rw [← unhide HG, unhide HST, if_pos hz]
                subst hr
                go_wp2
                go_ret
                exact ⟨by go_num, rfl⟩
              · have hzb : (op - 1 == 0) = false := by rw [beq_eq_false_iff_ne]; exact hz
                have hr : Hid ((e + 1) + tScan (T.drop (e + 1)) (op - 1) = G) := hide (by rw [← unhide HG, unhide HST, if_neg hz]; omega)
                go_wp2_with fail
                go_round
                case rel => exact ⟨e + 1, op - 1, by go_num, rfl, by omega, by omega, by omega, hr⟩
                case measure => simp [intOf]; omega
            · have k2b : (tx == [41]) = false := beq_eq_false_iff_ne.2 k2
              have ho : op2 = op := by rw [unhide HTO, if_neg k1, if_neg k2]
              subst ho
              clear HTO
              by_cases hz : op2 = 0
              · have hzb : (op2 == 0) = true := by rw [beq_iff_eq]; exact hz
                have hr : e + 1 = G := by rw [← unhide HG, unhide HST, if_pos hz]
                subst hr
                go_wp2
                go_ret
                exact ⟨by go_num, rfl⟩
              · have hzb : (op2 == 0) = false := by rw [beq_eq_false_iff_ne]; exact hz
                have hr : Hid ((e + 1) + tScan (T.drop (e + 1)) (op2) = G) := hide (by rw [← unhide HG, unhide HST, if_neg hz]; omega)
                go_wp2_with fail
                go_round
                case rel => exact ⟨e + 1, op2, by go_num, rfl, by omega, by omega, by omega, hr⟩
                case measure => simp [intOf]; omega
        · have hlt2 : ¬ (e : Int) < T.length := by omega
          have hr : e = G := by rw [← unhide HG, List.drop_of_length_le (by omega)]; rfl
          subst hr
          go_wp2
          go_ret
          exact ⟨rfl, rfl⟩
    · have he : tEnd T p = p + 1 := by unfold tEnd; rw [hg]; simp only; rw [if_neg htx]
      rw [he]
      have htb : (T[p + 1].text == [40]) = false := beq_eq_false_iff_ne.2 htx
      have htc : (T[p + 1].text != [40]) = true := by simp [bne, htb]
      generalize T[p + 1].text = tx at *
      go_enter Tryz.func155, Tryz.ntmps155
      go_wp2
      go_ret
      exact ⟨by go_num, rfl⟩
  · have he : tEnd T p = p + 1 := by unfold tEnd; rw [List.getElem?_eq_none (by omega)]
    rw [he]
    have h2 : ((p : Int) + 1) = T.length := by omega
    have h2b : (((p : Int) + 1) == T.length) = true := by rw [beq_iff_eq]; exact h2
    have h5 : ((p + 1 : Nat) : Int) = T.length := by omega
    rw [h5]
    clear h5
    go_enter Tryz.func155, Tryz.ntmps155
    go_wp2
    go_ret
    exact ⟨rfl, rfl⟩
def TargetPost (T : List Words.T) (L : Value) (rb : Nat) (w : World) (p : Nat) (e : Ending) (w' : World) : Prop := ExprPost T L rb w p (tEnd T p) e w'
set_option maxHeartbeats 4000000 in
set_option maxRecDepth 100000 in
theorem targetBad_any (T : List Words.T) (L : Value) (rb : Nat) (w : World) (p : Nat) (er : SE) (h : SR T L rb w p er) (hk : isKind T p er 1 = false) : Calls Tryz.prog 105 #[.pointer (some ⟨rb, 0, none⟩)] w fun e w' => e = .returned (treeV E.none (.slice none 0 0)) ∧ SR T L rb w' p (failE er p 2) ∧ But rb w w' := by
  have ba := alloc_below w (.cells #[.int .i64 0, .int .i64 0, .string ⟨#[]⟩, .slice none 0 0] 24)
  have hr1 : Box (w.alloc (.cells #[.int .i64 0, .int .i64 0, .string ⟨#[]⟩, .slice none 0 0] 24)) w.heap.size E.none (.slice none 0 0) := box_new w E.none (.slice none 0 0) 24
  have hl := h.lt
  have HLW : Hid (L.ownBlock ≠ some w.heap.size) := hide (fun e => by have := h.lw _ e; omega)
  have H1 := hide (And.intro (h.below ba) (And.intro ba hr1))
  clear h ba hr1
  go_enter Tryz.func105, Tryz.ntmps105
  go_wp2_with fail
  generalize (w.alloc (.cells #[.int .i64 0, .int .i64 0, .string ⟨#[]⟩, .slice none 0 0] 24)) = W1 at *
  have HS := hide (seesKind_any T L rb W1 p er 1 (unhide H1).1)
  rw [hk] at HS
  refine (unhide HS).mono ?_
  rintro e w1 ⟨rfl, n, rfl⟩
  have hbx2 : Box (W1.drewN n) w.heap.size E.none (.slice none 0 0) := (unhide H1).2.2.keep (by rfl) (Nat.le_refl _)
  have H2 := hide (And.intro ((unhide H1).1.drewN n) (And.intro ((but_below (rb := rb) (unhide H1).2.1).drewN n) hbx2))
  clear hbx2
  generalize W1.drewN n = W2 at *
  go_wp2_with fail
  refine (fail_any T L rb W2 p er 2 (unhide H2).1).mono ?_
  rintro e w3 ⟨rfl, h3, hb3⟩
  have hrs := (unhide H2).2.2.but hb3 (show w.heap.size ≠ rb by omega)
  have H3 := hide (And.intro h3 ((unhide H2).2.1.trans hb3))
  have HR3 := hide hrs
  obtain ⟨r0, r1, r2, r3, z0, z1, z2, z3, hrl⟩ := hrs
  clear h3 hb3
  go_wp2
  have hbs := but_set4 w.heap.size w3 (.int .i64 0) (.int .i64 0) (.string ⟨#[]⟩) (.slice none 0 0)
  refine bodyPost_ret (v := treeV E.none (.slice none 0 0)) (by simp [results, Tryz.results105, go_sem, r0, r1, r2, r3]; exact ⟨rfl, rfl, rfl⟩) rfl ⟨rfl, (unhide H3).1.otherI hbs (by omega) (unhide HLW) r0, ?_⟩
  have h33 := (unhide H3).2
  exact ⟨hbs.os.trans h33.os, hbs.tape.trans h33.tape, hbs.output.trans h33.output, Nat.le_trans h33.size hbs.size, fun i hi hne => (hbs.block i (Nat.lt_of_lt_of_le hi h33.size) (fun e => by injection e with e; omega)).trans (h33.block i hi hne)⟩
set_option maxHeartbeats 4000000 in
set_option maxRecDepth 100000 in
theorem targetOk_any (HPARSE : ParseSpec) (T : List Words.T) (L : Value) (rb : Nat) (w : World) (p : Nat) (h : SR T L rb w p .ok) (hG : Glob w) (hk : isKind T p .ok 1 = true) : Calls Tryz.prog 105 #[.pointer (some ⟨rb, 0, none⟩)] w fun e w' => TargetPost T L rb w p e w' := by
  have ba := alloc_below w (.cells #[.int .i64 0, .int .i64 0, .string ⟨#[]⟩, .slice none 0 0] 24)
  have hr1 : Box (w.alloc (.cells #[.int .i64 0, .int .i64 0, .string ⟨#[]⟩, .slice none 0 0] 24)) w.heap.size E.none (.slice none 0 0) := box_new w E.none (.slice none 0 0) 24
  have hl := h.lt
  have hpl := isKind_lt hk
  have hte := tEnd_le hpl
  have HLW : Hid (L.ownBlock ≠ some w.heap.size) := hide (fun e => by have := h.lw _ e; omega)
  have H1 := hide (And.intro (h.below ba) (And.intro ba (And.intro hr1 (hG.below ba))))
  clear h ba hr1 hG
  go_enter Tryz.func105, Tryz.ntmps105
  go_wp2_with fail
  generalize (w.alloc (.cells #[.int .i64 0, .int .i64 0, .string ⟨#[]⟩, .slice none 0 0] 24)) = W1 at *
  have HS := hide (seesKind_any T L rb W1 p .ok 1 (unhide H1).1)
  rw [hk] at HS
  refine (unhide HS).mono ?_
  rintro e w1 ⟨rfl, n, rfl⟩
  have hdb := below_drewN (Below.refl W1.heap.size W1) n
  have hbx2 : Box (W1.drewN n) w.heap.size E.none (.slice none 0 0) := (unhide H1).2.2.1.keep (by rfl) (Nat.le_refl _)
  have H2 := hide (And.intro ((unhide H1).1.drewN n) (And.intro (bthen (unhide H1).2.1 hdb) (And.intro hbx2 ((unhide H1).2.2.2.below hdb))))
  clear hbx2 hdb
  generalize W1.drewN n = W2 at *
  go_wp2_with fail
  refine (targetEnd_any T L rb W2 p .ok (unhide H2).1 hpl).mono ?_
  rintro e w3 ⟨rfl, hw3⟩
  subst hw3
  have HT := hide (exprOk_any HPARSE T L rb w3 p (tEnd T p) (unhide H2).1 (unhide H2).2.2.2 hte.1 hte.2)
  obtain ⟨te, hte2⟩ : ∃ te, te = tEnd T p := ⟨_, rfl⟩
  have HTE := hide hte2
  rw [← hte2] at HT ⊢
  clear hte2 hte
  go_wp2_with fail
  refine (unhide HT).mono ?_
  rintro e w6 ⟨x, s, sl, hred, rfl, hf6, h6, hb6⟩
  obtain ⟨xa, xc, hxs⟩ := hf6.shape
  generalize hxl : (ansE x s).a.length = xl at hxs
  subst hxs
  clear hxl
  have hsz := (unhide H2).2.1.size
  have hlt1 := (unhide H2).2.2.1.lt
  have hrs := (unhide H2).2.2.1.but hb6 (show w.heap.size ≠ rb by omega)
  have hbs := but_set4 w.heap.size w6 (.int .i64 (ansE x s).kind) (.int .i64 (ansE x s).n) (.string ⟨(ansE x s).name.toArray⟩) (.slice xa xl xc)
  have hold := (unhide H2).2.1
  have hsr6 := h6.otherI hbs (show rb ≠ w.heap.size by omega) (unhide HLW) hrs.c0
  have hff : Forest ((((w6.setCell ⟨w.heap.size, 0, none⟩ (.int .i64 (ansE x s).kind)).setCell ⟨w.heap.size, 1, none⟩ (.int .i64 (ansE x s).n)).setCell ⟨w.heap.size, 2, none⟩ (.string ⟨(ansE x s).name.toArray⟩)).setCell ⟨w.heap.size, 3, none⟩ (.slice xa xl xc)) (fun b => w.heap.size ≤ b) (ansE x s).a (.slice xa xl xc) := hf6.keep (fun b hS hl => hbs.block b hl (fun e => by injection e with e; omega)) (fun b hS hl => by omega)
  have hbut : But rb w ((((w6.setCell ⟨w.heap.size, 0, none⟩ (.int .i64 (ansE x s).kind)).setCell ⟨w.heap.size, 1, none⟩ (.int .i64 (ansE x s).n)).setCell ⟨w.heap.size, 2, none⟩ (.string ⟨(ansE x s).name.toArray⟩)).setCell ⟨w.heap.size, 3, none⟩ (.slice xa xl xc)) := ⟨hbs.os.trans (hb6.os.trans hold.os), hbs.tape.trans (hb6.tape.trans hold.tape), hbs.output.trans (hb6.output.trans hold.output), Nat.le_trans hsz (Nat.le_trans hb6.size hbs.size), fun i hi hne => (hbs.block i (by have := hb6.size; omega) (fun e => by injection e with e; omega)).trans ((hb6.block i (by omega) hne).trans (hold.block i hi))⟩
  have HP := hide (And.intro hred (And.intro hff (And.intro hsr6 hbut)))
  rw [unhide HTE] at HP
  obtain ⟨r0, r1, r2, r3, z0, z1, z2, z3, hrl⟩ := hrs
  clear hf6 h6 hb6 hred hbs hold hsr6 hff hbut hlt1 hsz
  go_wp2
  exact bodyPost_ret (v := treeV (ansE x s) (.slice xa xl xc)) (by simp [results, Tryz.results105, go_sem, r0, r1, r2, r3]) rfl ⟨x, s, .slice xa xl xc, (unhide HP).1, rfl, (unhide HP).2.1, (unhide HP).2.2.1, (unhide HP).2.2.2⟩
end Go.Proofs.YthkbchefjagbbaaGreatDoor.Line

namespace Go.Proofs.YthkbchefjagbbaaGreatDoor.Line
open Go.ChangeShapes Go.WideShapes Go.ChangeAt Go.RowKit
open Ex (E St)
set_option linter.unusedVariables false

abbrev STT : TypeId := 67
abbrev stZ (k : Int) : Array Value := #[.int .i64 k, .slice none 0 0, .int .i64 0, .int .i64 0, .string ⟨#[]⟩, .slice none 0 0, .int .i64 0, .int .i64 0, .string ⟨#[]⟩, .slice none 0 0, .string ⟨#[]⟩, .int .i64 0, .int .i64 0, .string ⟨#[]⟩, .slice none 0 0, .int .i64 0, .int .i64 0, .string ⟨#[]⟩, .slice none 0 0, .string ⟨#[]⟩, .int .i64 0, .int .i64 0, .string ⟨#[]⟩, .slice none 0 0, .int .i64 0, .int .i64 0, .string ⟨#[]⟩, .slice none 0 0, .int .i64 0]
/-- a block that holds a statement -/
def StAt (w : World) (q : Nat) (cs : Array Value) : Prop := w.heap[q]? = some (.cells cs STT (0, 0)) ∧ cs.size = 29
theorem infoS : (Tryz.prog.info? STT).map (·.size) = some 29 := by kernel_rfl
theorem undS : ∃ d, Tryz.prog.underlying STT = some d ∧ (match d with | .struct _ | .array _ _ => true | _ => false) = true := ⟨_, Tryz.underlying67, rfl⟩
theorem StAt.lt {w : World} {q : Nat} {cs : Array Value} (h : StAt w q cs) : q < w.heap.size := (Array.getElem?_eq_some_iff.1 h.1).1
theorem StAt.keep {w w' : World} {q : Nat} {cs : Array Value} (h : StAt w q cs) (hb : w'.heap[q]? = w.heap[q]?) : StAt w' q cs := ⟨hb.trans h.1, h.2⟩
theorem wpList_storeNew {ops : Array Oper} {rest : List Oper} {op : Oper} {a : Act} {w : World} {Q : Exit → Act → World → Prop} (hgd : op.guard = none) (x y : Operand) (ho : op.op = .store STT x y) (c c' : Array Value)
    (hx : a.eval x = .pointer (some ⟨w.heap.size, 0, none⟩)) (hy : a.eval y = .agg c') (hc : c.size = 29) (hc' : c'.size = 29) (h1 : c'.all (·.oneCell') = true)
    (h : wpList Tryz.prog ops Q rest (a.put op.dst undef) (w.alloc (.cells c' STT))) : wpList Tryz.prog ops Q (op :: rest) a (w.alloc (.cells c STT)) :=
  wpList_plain hgd fun K hK => by
    unfold Oper.wp execOp
    simp only [ho, hx, hy, Instr.storeAt, Instr.sureAddr, Sem.run_bind, Sem.run_pure, Result.andThen_ok, run_storeVar_new (P := Tryz.prog) w STT c c' (by rw [hc']; exact infoS) (by rw [hc, hc']) h1]
    exact hK _ _ h
theorem wpList_storeRow {ops : Array Oper} {rest : List Oper} {op : Oper} {a : Act} {w : World} {Q : Exit → Act → World → Prop} (hgd : op.guard = none) (x y : Operand) (ho : op.op = .store STT x y) (g : Nat) (c c' : Array Value)
    (hx : a.eval x = .pointer (some ⟨g, 0, none⟩)) (hy : a.eval y = .agg c') (hs : StAt w g c) (hc' : c'.size = 29) (h1 : c'.all (·.oneCell') = true)
    (h : wpList Tryz.prog ops Q rest (a.put op.dst undef) (w.setRow g c')) : wpList Tryz.prog ops Q (op :: rest) a w :=
  wpList_plain hgd fun K hK => by
    unfold Oper.wp execOp
    simp only [ho, hx, hy, Instr.storeAt, Instr.sureAddr, Sem.run_bind, Sem.run_pure, Result.andThen_ok, run_storeVar_row (P := Tryz.prog) w g STT STT c c' hs.1 (by rw [hc']; exact infoS) (by rw [hs.2, hc']) h1]
    exact hK _ _ h
theorem wpList_loadRow {ops : Array Oper} {rest : List Oper} {op : Oper} {a : Act} {w : World} {Q : Exit → Act → World → Prop} (hgd : op.guard = none) (x : Operand) (ho : op.op = .load STT x) (g : Nat) (c : Array Value)
    (hx : a.eval x = .pointer (some ⟨g, 0, none⟩)) (hs : StAt w g c)
    (h : wpList Tryz.prog ops Q rest (a.put op.dst (.agg c)) w) : wpList Tryz.prog ops Q (op :: rest) a w :=
  wpList_load_row hgd STT x ho g hx STT c (0, 0) _ hs.1 Tryz.underlying67 rfl (by rw [hs.2]; exact infoS) h
theorem StAt.setRow {w : World} {g : Nat} {c c' : Array Value} (h : StAt w g c) (hc' : c'.size = 29) : StAt (w.setRow g c') g c' ∧ But g w (w.setRow g c') := by
  refine ⟨⟨?_, hc'⟩, ⟨rfl, rfl, rfl, by simp [World.setRow], fun i hi hne => ?_⟩⟩
  · show (w.heap.modify g _)[g]? = _
    rw [Array.getElem?_modify, if_pos rfl, h.1]
    rfl
  · show (w.heap.modify g _)[i]? = _
    rw [Array.getElem?_modify, if_neg (fun e => hne (by rw [e]))]
theorem StAt.new (w : World) (c : Array Value) (hc : c.size = 29) : StAt (w.alloc (.cells c STT)) w.heap.size c := ⟨heap_alloc_last w _, hc⟩
theorem stBut {rb g : Nat} {w W W' : World} (h : But rb w W) (hb : But g W W') (hg : w.heap.size ≤ g) : But rb w W' := ⟨hb.os.trans h.os, hb.tape.trans h.tape, hb.output.trans h.output, Nat.le_trans h.size hb.size, fun i hi hne => (hb.block i (Nat.lt_of_lt_of_le hi h.size) (fun e => by injection e with e; omega)).trans (h.block i hi hne)⟩
theorem stZ_one (k : Int) : (stZ k).all (·.oneCell') = true := by kernel_rfl
set_option maxHeartbeats 8000000 in
set_option maxRecDepth 100000 in
theorem stmt_plain (k : Int) (hk : k = 0 ∨ k = 4 ∨ k = 6 ∨ k = 7) (T : List Words.T) (L : Value) (rb : Nat) (w : World) (p' : Nat) (er' : SE) (hlt : rb < w.heap.size) (HLW : ∀ q, L.ownBlock = some q → q < w.heap.size) (HK : ∀ W, Below w.heap.size w W → Calls Tryz.prog 98 #[.pointer (some ⟨rb, 0, none⟩)] W fun e w' => e = .returned (.int .i64 k) ∧ SR T L rb w' p' er' ∧ But rb W w') : Calls Tryz.prog 65 #[.pointer (some ⟨rb, 0, none⟩)] w fun e w' => e = .returned (.agg (stZ k)) ∧ SR T L rb w' p' er' ∧ But rb w w' := by
  have ba := alloc_below w (.cells (stZ 0) STT)
  have HKA := hide (HK _ ba)
  have HB := hide (And.intro ba (And.intro (StAt.new w (stZ 0) rfl) HLW))
  clear HK ba HLW
  have k1 : ¬ k = 1 := by omega
  have k2 : ¬ k = 2 := by omega
  have k3 : ¬ k = 3 := by omega
  have k5 : ¬ k = 5 := by omega
  have k8 : ¬ k = 8 := by omega
  have k9 : ¬ k = 9 := by omega
  have kb1 : (k == 1) = false := beq_eq_false_iff_ne.2 k1
  have kb2 : (k == 2) = false := beq_eq_false_iff_ne.2 k2
  have kb3 : (k == 3) = false := beq_eq_false_iff_ne.2 k3
  have kb5 : (k == 5) = false := beq_eq_false_iff_ne.2 k5
  have kb8 : (k == 8) = false := beq_eq_false_iff_ne.2 k8
  have kb9 : (k == 9) = false := beq_eq_false_iff_ne.2 k9
  clear hk
  go_enter Tryz.func65, Tryz.ntmps65
  go_wp2_with fail
  refine (unhide HKA).mono ?_
  rintro e w3 ⟨rfl, h3, hb3⟩
  have hst := (unhide HB).2.1.keep (hb3.block w.heap.size (unhide HB).2.1.lt (fun e => by injection e with e; omega))
  have ba3 := alloc_below w3 (.cells (stZ k) STT)
  have hst3 := hst.keep (ba3.block _ hst.lt)
  have hsq := StAt.new w3 (stZ k) rfl
  have H3 := hide (And.intro (h3.below ba3) (And.intro (((but_below (rb := rb) (unhide HB).1).trans hb3).trans (but_below ba3)) (And.intro hst3 hsq)))
  have hl3 := hst.lt
  clear h3 hb3 hst ba3 hst3 hsq
  go_upto_region 24 with (refine wpList_storeNew rfl _ _ rfl _ _ rfl rfl rfl rfl (by kernel_rfl) ?_)
  generalize w3.alloc (.cells (stZ k) STT) = W4 at *
  have hset := (unhide H3).2.2.1.setRow (c' := stZ k) rfl
  have hsr := (unhide H3).1.otherS hset.2 (by omega) (fun e => by have := (unhide HB).2.2 _ e; omega) (cell_of_row _ _ 1 _ _ _ (unhide H3).2.2.1.1)
  have hbb := stBut (unhide H3).2.1 hset.2 (Nat.le_refl _)
  have hone := stZ_one k
  have hsz : (stZ k).size = 29 := rfl
  have HE := hide (And.intro hset.1 (And.intro hsr hbb))
  clear hset hsr hbb
  go_wp2_with (first | (refine wpList_loadRow rfl _ rfl _ _ rfl (unhide H3).2.2.2 ?_) | (refine wpList_storeRow rfl _ _ rfl _ _ _ rfl rfl (unhide H3).2.2.1 hsz hone ?_))
  exact bodyPost_ret (results_cell_row rfl _ _ w.heap.size STT (stZ k) (0, 0) _ rfl (unhide HE).1.1 Tryz.underlying67 rfl infoS) rfl ⟨rfl, (unhide HE).2⟩
end Go.Proofs.YthkbchefjagbbaaGreatDoor.Line

namespace Go.Proofs.YthkbchefjagbbaaGreatDoor.Line
open Go.ChangeShapes Go.WideShapes Go.ChangeAt Go.RowKit
open Ex (E St)
set_option linter.unusedVariables false

/-- how an expression is read that begins at p and ends at hi at the latest -/
def XR (T : List Words.T) (p hi : Nat) (er : SE) (x : E) (p' : Nat) (er' : SE) : Prop := (er ≠ .ok ∧ x = E.none ∧ p' = p ∧ er' = er) ∨ (er = .ok ∧ ∃ x0 s, Ex.RExpr ((T.drop p).take (hi - p)) 0 s00 (x0, s) ∧ x = ansE x0 s ∧ p' = behP p s ∧ er' = behE p s)
def TR (T : List Words.T) (p : Nat) (er : SE) (x : E) (p' : Nat) (er' : SE) : Prop := (isKind T p er 1 = false ∧ x = E.none ∧ p' = p ∧ er' = failE er p 2) ∨ (isKind T p er 1 = true ∧ XR T p (tEnd T p) .ok x p' er')
theorem expr_any (HPARSE : ParseSpec) (T : List Words.T) (L : Value) (rb : Nat) (w : World) (p hi : Nat) (er : SE) (h : SR T L rb w p er) (hG : Glob w) (h1 : p ≤ hi) (h2 : hi ≤ T.length) : Calls Tryz.prog 102 #[.pointer (some ⟨rb, 0, none⟩), .int .i64 hi] w fun e w' => ∃ x a n c p' er', XR T p hi er x p' er' ∧ e = .returned (treeV x (.slice a n c)) ∧ Forest w' (fun b => w.heap.size ≤ b) x.a (.slice a n c) ∧ SR T L rb w' p' er' ∧ But rb w w' := by
  by_cases he : er = .ok
  · subst he
    refine (exprOk_any HPARSE T L rb w p hi h hG h1 h2).mono ?_
    rintro e w' ⟨x, s, sl, hr, rfl, hf, hs, hb⟩
    obtain ⟨a, c, rfl⟩ := hf.shape
    exact ⟨_, a, _, c, _, _, .inr ⟨rfl, x, s, hr, rfl, rfl, rfl⟩, rfl, hf, hs, hb⟩
  · refine (exprBad_any T L rb w p hi er h he).mono ?_
    rintro e w' ⟨rfl, hs, hb⟩
    exact ⟨E.none, none, 0, 0, p, er, .inl ⟨he, rfl, rfl, rfl⟩, rfl, .nil none 0, hs, hb⟩
theorem target_any (HPARSE : ParseSpec) (T : List Words.T) (L : Value) (rb : Nat) (w : World) (p : Nat) (er : SE) (h : SR T L rb w p er) (hG : Glob w) : Calls Tryz.prog 105 #[.pointer (some ⟨rb, 0, none⟩)] w fun e w' => ∃ x a n c p' er', TR T p er x p' er' ∧ e = .returned (treeV x (.slice a n c)) ∧ Forest w' (fun b => w.heap.size ≤ b) x.a (.slice a n c) ∧ SR T L rb w' p' er' ∧ But rb w w' := by
  cases hk : isKind T p er 1 with
  | true =>
    have hok := isKind_ok hk
    subst hok
    refine (targetOk_any HPARSE T L rb w p h hG hk).mono ?_
    rintro e w' ⟨x, s, sl, hr, rfl, hf, hs, hb⟩
    obtain ⟨a, c, rfl⟩ := hf.shape
    exact ⟨_, a, _, c, _, _, .inr ⟨hk, .inr ⟨rfl, x, s, hr, rfl, rfl, rfl⟩⟩, rfl, hf, hs, hb⟩
  | false =>
    refine (targetBad_any T L rb w p er h hk).mono ?_
    rintro e w' ⟨rfl, hs, hb⟩
    exact ⟨E.none, none, 0, 0, p, _, .inl ⟨hk, rfl, rfl, rfl⟩, rfl, .nil none 0, hs, hb⟩
theorem StAt.cell {w : World} {q : Nat} {cs : Array Value} (h : StAt w q cs) (i : Nat) (v : Value) (hv : cs[i]? = some v) : w.cell? ⟨q, i, none⟩ = some v := (cell_of_row _ _ i _ _ _ h.1).trans hv
theorem StAt.frozen {w : World} {q : Nat} {cs : Array Value} (h : StAt w q cs) (i : Nat) : w.frozen? ⟨q, i, none⟩ = false := frozen_of_row _ _ i _ _ h.1
theorem StAt.set {w : World} {q : Nat} {cs : Array Value} (h : StAt w q cs) (i : Nat) (v : Value) : StAt (w.setCell ⟨q, i, none⟩ v) q (cs.setIfInBounds i v) ∧ But q w (w.setCell ⟨q, i, none⟩ v) := by
  refine ⟨⟨?_, by rw [Array.size_setIfInBounds]; exact h.2⟩, set_but q w i v⟩
  have := h.1
  show (w.setCell ⟨q, i, none⟩ v).heap[q]? = _
  simp [World.setCell, Array.getElem?_modify, this]
structure MidSt (T : List Words.T) (L : Value) (rb : Nat) (w W : World) (q : Nat) (cs : Array Value) (p : Nat) (er : SE) : Prop where
  var : StAt W q cs
  res : StAt W w.heap.size (stZ 0)
  rd : SR T L rb W p er
  old : But rb w W
  qq : w.heap.size < q
  c1 : ∃ a n c, cs[1]? = some (.slice a n c)
  hl : rb < w.heap.size
  lw : ∀ q, L.ownBlock = some q → q < w.heap.size
theorem MidSt.call {T : List Words.T} {L : Value} {rb : Nat} {w W W' : World} {q : Nat} {cs : Array Value} {p p' : Nat} {er er' : SE} (h : MidSt T L rb w W q cs p er) (hs : SR T L rb W' p' er') (hb : But rb W W') : MidSt T L rb w W' q cs p' er' := by
  have hq := h.qq
  have hl := h.hl
  exact ⟨h.var.keep (hb.block q h.var.lt (fun e => by injection e with e; omega)), h.res.keep (hb.block _ h.res.lt (fun e => by injection e with e; omega)), hs, h.old.trans hb, hq, h.c1, hl, h.lw⟩
theorem MidSt.set {T : List Words.T} {L : Value} {rb : Nat} {w W : World} {q : Nat} {cs : Array Value} {p : Nat} {er : SE} (h : MidSt T L rb w W q cs p er) (i : Nat) (v : Value) (hv : i = 1 → ∃ a n c, v = .slice a n c) : MidSt T L rb w (W.setCell ⟨q, i, none⟩ v) q (cs.setIfInBounds i v) p er := by
  have hq := h.qq
  have hl := h.hl
  obtain ⟨h1, hb⟩ := h.var.set i v
  obtain ⟨a, n, c, hc⟩ := h.c1
  refine ⟨h1, h.res.keep (hb.block _ h.res.lt (fun e => by injection e with e; omega)), h.rd.otherS hb (by omega) (fun e => by have := h.lw _ e; omega) (h.var.cell 1 _ hc), stBut h.old hb (by omega), hq, ?_, hl, h.lw⟩
  by_cases hi : i = 1
  · subst hi
    obtain ⟨a', n', c', rfl⟩ := hv rfl
    have := h.var.2
    exact ⟨a', n', c', by simp [this]⟩
  · exact ⟨a, n, c, by rw [Array.getElem?_setIfInBounds, if_neg hi]; exact hc⟩
theorem MidSt.set4 {T : List Words.T} {L : Value} {rb : Nat} {w W : World} {q : Nat} {cs : Array Value} {p : Nat} {er : SE} (h : MidSt T L rb w W q cs p er) (i : Nat) (hi : 2 ≤ i) (a b c d : Value) : MidSt T L rb w ((((W.setCell ⟨q, i, none⟩ a).setCell ⟨q, i + 1, none⟩ b).setCell ⟨q, i + 2, none⟩ c).setCell ⟨q, i + 3, none⟩ d) q ((((cs.setIfInBounds i a).setIfInBounds (i + 1) b).setIfInBounds (i + 2) c).setIfInBounds (i + 3) d) p er :=
  (((h.set i a (fun e => by omega)).set (i + 1) b (fun e => by omega)).set (i + 2) c (fun e => by omega)).set (i + 3) d (fun e => by omega)
/-- what is given back: the variable, copied into the result -/
theorem MidSt.done {T : List Words.T} {L : Value} {rb : Nat} {w W : World} {q : Nat} {cs : Array Value} {p : Nat} {er : SE} (h : MidSt T L rb w W q cs p er) : StAt (W.setRow w.heap.size cs) w.heap.size cs ∧ SR T L rb (W.setRow w.heap.size cs) p er ∧ But rb w (W.setRow w.heap.size cs) ∧ But w.heap.size W (W.setRow w.heap.size cs) := by
  have hl := h.hl
  obtain ⟨h1, hb⟩ := h.res.setRow (c' := cs) h.var.2
  exact ⟨h1, h.rd.otherS hb (by omega) (fun e => by have := h.lw _ e; omega) (cell_of_row _ _ 1 _ _ _ h.res.1), stBut h.old hb (Nat.le_refl _), hb⟩
theorem midSt_start {T : List Words.T} {L : Value} {rb : Nat} {w w3 : World} {p : Nat} {er : SE} (k : Int) (h3 : SR T L rb w3 p er) (hb3 : But rb (w.alloc (.cells (stZ 0) STT)) w3) (hl : rb < w.heap.size) (hlw : ∀ q, L.ownBlock = some q → q < w.heap.size) : MidSt T L rb w (w3.alloc (.cells (stZ k) STT)) w3.heap.size (stZ k) p er := by
  have ba := alloc_below w (.cells (stZ 0) STT)
  have hr := StAt.new w (stZ 0) rfl
  have hst := hr.keep (hb3.block w.heap.size hr.lt (fun e => by injection e with e; omega))
  have ba3 := alloc_below w3 (.cells (stZ k) STT)
  exact ⟨StAt.new w3 (stZ k) rfl, hst.keep (ba3.block _ hst.lt), h3.below ba3, ((but_below ba).trans hb3).trans (but_below ba3), hst.lt, ⟨none, 0, 0, rfl⟩, hl, hlw⟩
end Go.Proofs.YthkbchefjagbbaaGreatDoor.Line

namespace Go.Proofs.YthkbchefjagbbaaGreatDoor.Line
open Go.ChangeShapes Go.WideShapes Go.ChangeAt Go.RowKit
open Ex (E St)
set_option linter.unusedVariables false

theorem itemsMono {base base' : Nat} {w : World} {v : Value} {m : List Itm} (h : ItemsAt base' w v m) (hb : base ≤ base') : ItemsAt base w v m := by
  refine ⟨?_, fun x hx => (h.dims x hx).mono hb⟩
  obtain ⟨h1, h2⟩ := h.own
  refine ⟨h1, ?_⟩
  rcases h2 with h2 | ⟨g, cap, cur, hv, hg, r⟩
  · exact .inl h2
  · exact .inr ⟨g, cap, cur, hv, Nat.le_trans hb hg, r⟩
def KindIs (T : List Words.T) (L : Value) (rb : Nat) (w : World) (k : Int) (p : Nat) (er : SE) : Prop := ∀ W, Below w.heap.size w W → Calls Tryz.prog 98 #[.pointer (some ⟨rb, 0, none⟩)] W fun e w' => e = .returned (.int .i64 k) ∧ SR T L rb w' p er ∧ But rb W w'
set_option maxHeartbeats 8000000 in
set_option maxRecDepth 100000 in
theorem stmt_decl (T : List Words.T) (L : Value) (rb : Nat) (w : World) (p : Nat) (er : SE) (hl : rb < w.heap.size) (hlw : ∀ q, L.ownBlock = some q → q < w.heap.size) (hN : NumOk T) (HK : KindIs T L rb w 1 p er) : Calls Tryz.prog 65 #[.pointer (some ⟨rb, 0, none⟩)] w fun e w' => ∃ v m, e = .returned (.agg ((stZ 1).setIfInBounds 1 v)) ∧ (∃ a n c, v = .slice a n c) ∧ ItemsAt (w.heap.size + 1) w' v m ∧ plainI m = (itemsR T (T.length + 1) [] p er).1 ∧ SR T L rb w' (itemsR T (T.length + 1) [] p er).2.1 (itemsR T (T.length + 1) [] p er).2.2 ∧ But rb w w' := by
  have ba := alloc_below w (.cells (stZ 0) STT)
  have HKA := hide (HK _ ba)
  have HLW := hide hlw
  have HN := hide hN
  clear HK ba hlw hN
  go_enter Tryz.func65, Tryz.ntmps65
  go_wp2_with fail
  refine (unhide HKA).mono ?_
  rintro e w3 ⟨rfl, h3, hb3⟩
  have HM := hide (midSt_start 1 h3 hb3 hl (unhide HLW))
  clear h3 hb3
  go_wp2_with (refine wpList_storeNew rfl _ _ rfl _ _ rfl rfl rfl rfl (by kernel_rfl) ?_)
  generalize w3.alloc (.cells (stZ 1) STT) = W4 at *
  generalize w3.heap.size = q at *
  refine (items_any T L rb W4 p er (unhide HM).rd (unhide HN)).mono ?_
  rintro e w5 ⟨v, m, rfl, hi5, hp5, h5, hb5⟩
  obtain ⟨a, c, hv⟩ := hi5.own.shape
  generalize m.length = n at hv
  subst hv
  have HM5 := hide ((unhide HM).call h5 hb5)
  have HM6 := hide ((unhide HM5).set 1 (.slice a n c) (fun _ => ⟨a, n, c, rfl⟩))
  have d1 := (unhide HM5).var.cell 1 (.slice none 0 0) rfl
  have f1 := (unhide HM5).var.frozen 1
  have hq := (unhide HM).qq
  have hqs := (unhide HM).var.lt
  have hi6 : ItemsAt (w.heap.size + 1) (w5.setCell ⟨q, 1, none⟩ (.slice a n c)) (.slice a n c) m := by
    have hb6 := ((unhide HM5).var.set 1 (.slice a n c)).2
    exact itemsMono (hi5.but hb6 hqs) (by omega)
  have H6 := hide (And.intro hi6 hp5)
  clear h5 hb5 hi5 hp5 hi6
  go_upto_region 24 with fail
  generalize w5.setCell ⟨q, 1, none⟩ (.slice a n c) = W6 at *
  clear d1 f1
  obtain ⟨z1, z2, z3, z4⟩ := (unhide HM6).done
  have HZ := hide (And.intro z1 (And.intro z2 (And.intro z3 ((unhide H6).1.but z4 (by omega)))))
  clear z1 z2 z3 z4
  have hone : ((stZ 1).setIfInBounds 1 (.slice a n c)).all (·.oneCell') = true := by kernel_rfl
  have hsz : ((stZ 1).setIfInBounds 1 (.slice a n c)).size = 29 := rfl
  generalize hcs : (stZ 1).setIfInBounds 1 (.slice a n c) = cs at *
  go_wp2_with (first | (refine wpList_loadRow rfl _ rfl _ _ rfl (unhide HM6).var ?_) | (refine wpList_storeRow rfl _ _ rfl _ _ _ rfl rfl (unhide HM6).res hsz hone ?_))
  exact bodyPost_ret (results_cell_row rfl _ _ w.heap.size STT cs (0, 0) _ rfl (unhide HZ).1.1 Tryz.underlying67 rfl (by rw [hsz]; exact infoS)) rfl ⟨.slice a n c, m, by rw [hcs], ⟨a, n, c, rfl⟩, (unhide HZ).2.2.2, (unhide H6).2, (unhide HZ).2.1, (unhide HZ).2.2.1⟩
theorem but_setc4 (q : Nat) (w : World) (i : Nat) (a b c d : Value) : But q w ((((w.setCell ⟨q, i, none⟩ a).setCell ⟨q, i + 1, none⟩ b).setCell ⟨q, i + 2, none⟩ c).setCell ⟨q, i + 3, none⟩ d) := (((set_but q w i a).trans (set_but q _ (i + 1) b)).trans (set_but q _ (i + 2) c)).trans (set_but q _ (i + 3) d)
theorem MidSt.glob {T : List Words.T} {L : Value} {rb : Nat} {w W : World} {q : Nat} {cs : Array Value} {p : Nat} {er : SE} (h : MidSt T L rb w W q cs p er) (hG : Glob w) (hr : 0 < rb) : Glob W := (h.old.cell (p := ⟨0, 0, none⟩) (cell_lt hG) (show 0 ≠ rb by omega)).trans hG
theorem forestBut {w w' : World} {l : List E} {v : Value} {q g : Nat} (h : Forest w (fun b => q < b) l v) (hb : But g w w') (hg : g ≤ q) : Forest w' (fun b => q < b) l v := h.keep (fun b hS hl => hb.block b hl (fun e => by injection e with e; omega)) (fun b hS hl => hS)
abbrev doV (nm : List UInt8) (x : E) (sx : Value) (y : E) (sy : Value) (st : Int) : Array Value := #[.int .i64 3, .slice none 0 0, .int .i64 0, .int .i64 0, .string ⟨#[]⟩, .slice none 0 0, .int .i64 0, .int .i64 0, .string ⟨#[]⟩, .slice none 0 0, .string ⟨#[]⟩, .int .i64 0, .int .i64 0, .string ⟨#[]⟩, .slice none 0 0, .int .i64 0, .int .i64 0, .string ⟨#[]⟩, .slice none 0 0, .string ⟨nm.toArray⟩, .int .i64 x.kind, .int .i64 x.n, .string ⟨x.name.toArray⟩, sx, .int .i64 y.kind, .int .i64 y.n, .string ⟨y.name.toArray⟩, sy, .int .i64 st]
abbrev do1 (nm : List UInt8) (x : E) (sx : Value) : Array Value := #[.int .i64 3, .slice none 0 0, .int .i64 0, .int .i64 0, .string ⟨#[]⟩, .slice none 0 0, .int .i64 0, .int .i64 0, .string ⟨#[]⟩, .slice none 0 0, .string ⟨#[]⟩, .int .i64 0, .int .i64 0, .string ⟨#[]⟩, .slice none 0 0, .int .i64 0, .int .i64 0, .string ⟨#[]⟩, .slice none 0 0, .string ⟨nm.toArray⟩, .int .i64 x.kind, .int .i64 x.n, .string ⟨x.name.toArray⟩, sx, .int .i64 0, .int .i64 0, .string ⟨#[]⟩, .slice none 0 0, .int .i64 0]
theorem do1_eq (nm : List UInt8) (x : E) (sx : Value) : (((((stZ 3).setIfInBounds 19 (.string ⟨nm.toArray⟩)).setIfInBounds 20 (.int .i64 x.kind)).setIfInBounds (20 + 1) (.int .i64 x.n)).setIfInBounds (20 + 2) (.string ⟨x.name.toArray⟩)).setIfInBounds (20 + 3) sx = do1 nm x sx := rfl
theorem do2_eq (nm : List UInt8) (x : E) (sx : Value) (y : E) (sy : Value) : ((((do1 nm x sx).setIfInBounds 24 (.int .i64 y.kind)).setIfInBounds (24 + 1) (.int .i64 y.n)).setIfInBounds (24 + 2) (.string ⟨y.name.toArray⟩)).setIfInBounds (24 + 3) sy = doV nm x sx y sy 0 := rfl
theorem do3_eq (nm : List UInt8) (x : E) (sx : Value) (y : E) (sy : Value) (st : Int) : (doV nm x sx y sy 0).setIfInBounds 28 (.int .i64 st) = doV nm x sx y sy st := rfl
def DoR (T : List Words.T) (p : Nat) (er : SE) (nm : List UInt8) (x y : E) (st : Int) (p' : Nat) (er' : SE) : Prop :=
  nm = nameAt T p (isKind T p er 1) ∧ ∃ p1 e1 pa ea p2 e2 pb eb p4 e4, p1 = nextP (isKind T p er 1) p ∧ e1 = mustE (isKind T p er 1) er p ∧ pa = nextP (isNext T p1 e1 [61]) p1 ∧ ea = mustE (isNext T p1 e1 [61]) e1 p1 ∧ XR T pa T.length ea x p2 e2 ∧ pb = nextP (isNext T p2 e2 [44]) p2 ∧ eb = mustE (isNext T p2 e2 [44]) e2 p2 ∧ XR T pb T.length eb y p4 e4 ∧ (st, p', er') = stepR T p4 e4
set_option maxHeartbeats 16000000 in
set_option maxRecDepth 100000 in
theorem stmt_do (HPARSE : ParseSpec) (T : List Words.T) (L : Value) (rb : Nat) (w : World) (p : Nat) (er : SE) (hl : rb < w.heap.size) (h0 : 0 < rb) (hlw : ∀ q, L.ownBlock = some q → q < w.heap.size) (hN : NumOk T) (hG : Glob w) (HK : KindIs T L rb w 3 p er) : Calls Tryz.prog 65 #[.pointer (some ⟨rb, 0, none⟩)] w fun e w' => ∃ nm x y st a n c a' n' c' p' er', DoR T p er nm x y st p' er' ∧ e = .returned (.agg (doV nm x (.slice a n c) y (.slice a' n' c') st)) ∧ Forest w' (fun b => w.heap.size < b) x.a (.slice a n c) ∧ Forest w' (fun b => w.heap.size < b) y.a (.slice a' n' c') ∧ SR T L rb w' p' er' ∧ But rb w w' := by
  have ba := alloc_below w (.cells (stZ 0) STT)
  have HKA := hide (HK _ ba)
  have HLW := hide hlw
  have HN := hide hN
  have HG := hide hG
  have HPA := hide HPARSE
  clear HK ba hlw hN hG HPARSE
  go_enter Tryz.func65, Tryz.ntmps65
  go_wp2_with fail
  refine (unhide HKA).mono ?_
  rintro e w3 ⟨rfl, h3, hb3⟩
  have HM := hide (midSt_start 3 h3 hb3 hl (unhide HLW))
  clear h3 hb3 HKA
  go_wp2_with (refine wpList_storeNew rfl _ _ rfl _ _ rfl rfl rfl rfl (by kernel_rfl) ?_)
  generalize w3.alloc (.cells (stZ 3) STT) = W4 at *
  generalize w3.heap.size = q at *
  refine (name_any T L rb W4 p er (unhide HM).rd).mono ?_
  rintro e w5 ⟨rfl, h5, hb5⟩
  have HR0 : Hid ((nameAt T p (isKind T p er 1)) = (nameAt T p (isKind T p er 1)) ∧ nextP (isKind T p er 1) p = nextP (isKind T p er 1) p ∧ mustE (isKind T p er 1) er p = mustE (isKind T p er 1) er p) := hide ⟨rfl, rfl, rfl⟩
  generalize hnm : nameAt T p (isKind T p er 1) = nm at *
  generalize hp1 : nextP (isKind T p er 1) p = p1 at *
  generalize he1 : mustE (isKind T p er 1) er p = e1 at *
  have HM5 := hide ((unhide HM).call h5 hb5)
  have HM6 := hide ((unhide HM5).set 19 (.string ⟨nm.toArray⟩) (fun e => by omega))
  have d1 := (unhide HM5).var.cell 19 (.string ⟨#[]⟩) rfl
  have f1 := (unhide HM5).var.frozen 19
  have HE0 := hide (And.intro hnm (And.intro hp1 he1))
  clear h5 hb5 hnm hp1 he1 HR0
  go_wp2_with fail
  generalize w5.setCell ⟨q, 19, none⟩ (.string ⟨nm.toArray⟩) = W6 at *
  clear d1 f1 HM5 HM
  refine (must_any T L rb W6 p1 e1 [61] (unhide HM6).rd).mono ?_
  rintro e w7 ⟨rfl, h7, hb7⟩
  generalize hpa : nextP (isNext T p1 e1 [61]) p1 = pa at *
  generalize hea : mustE (isNext T p1 e1 [61]) e1 p1 = ea at *
  have HM7 := hide ((unhide HM6).call h7 hb7)
  have HE1 := hide (And.intro hpa hea)
  clear h7 hb7 hpa hea HM6
  have HX7 := hide (expr_any (unhide HPA) T L rb w7 pa T.length ea (unhide HM7).rd ((unhide HM7).glob (unhide HG) h0) (unhide HM7).rd.hp (Nat.le_refl _))
  obtain ⟨la, lc, hLe⟩ := (unhide HM7).rd.tks.shape
  have c0 := (unhide HM7).rd.c0
  have hT := (unhide HM7).rd.ht
  rw [hLe] at c0
  go_wp2_with fail
  refine (unhide HX7).mono ?_
  rintro e w8 ⟨x, a, n, c, p2, e2, hx8, rfl, hf8, h8, hb8⟩
  have HM8 := hide ((unhide HM7).call h8 hb8)
  have hq7 := (unhide HM7).var.lt
  have hf8' : Forest w8 (fun b => q < b) x.a (.slice a n c) := hf8.mono (fun b hS _ => by omega)
  have HM9 := hide ((unhide HM8).set4 20 (by decide) (.int .i64 x.kind) (.int .i64 x.n) (.string ⟨x.name.toArray⟩) (.slice a n c))
  rw [do1_eq] at HM9
  have hb9 := but_setc4 q w8 20 (.int .i64 x.kind) (.int .i64 x.n) (.string ⟨x.name.toArray⟩) (.slice a n c)
  have HF9 := hide (forestBut hf8' hb9 (Nat.le_refl _))
  have HE2 := hide hx8
  have d1 := (unhide HM8).var.cell 20 (.int .i64 0) rfl
  have d2 := (unhide HM8).var.cell 21 (.int .i64 0) rfl
  have d3 := (unhide HM8).var.cell 22 (.string ⟨#[]⟩) rfl
  have d4 := (unhide HM8).var.cell 23 (.slice none 0 0) rfl
  have f1 := (unhide HM8).var.frozen 20
  have f2 := (unhide HM8).var.frozen 21
  have f3 := (unhide HM8).var.frozen 22
  have f4 := (unhide HM8).var.frozen 23
  clear h8 hb8 hf8 hf8' hb9 hx8 c0 HX7 HM7
  go_wp2_with fail
  generalize (((w8.setCell ⟨q, 20, none⟩ (.int .i64 x.kind)).setCell ⟨q, 21, none⟩ (.int .i64 x.n)).setCell ⟨q, 22, none⟩ (.string ⟨x.name.toArray⟩)).setCell ⟨q, 23, none⟩ (.slice a n c) = W9 at *
  clear d1 d2 d3 d4 f1 f2 f3 f4 HM8
  refine (must_any T L rb W9 p2 e2 [44] (unhide HM9).rd).mono ?_
  rintro e w10 ⟨rfl, h10, hb10⟩
  generalize hpb : nextP (isNext T p2 e2 [44]) p2 = pb at *
  generalize heb : mustE (isNext T p2 e2 [44]) e2 p2 = eb at *
  have hqq := (unhide HM9).qq
  have HM10 := hide ((unhide HM9).call h10 hb10)
  have HF10 := hide (forestBut (unhide HF9) hb10 (by omega))
  have HE3 := hide (And.intro hpb heb)
  clear h10 hb10 hpb heb HM9 HF9
  have HX10 := hide (expr_any (unhide HPA) T L rb w10 pb T.length eb (unhide HM10).rd ((unhide HM10).glob (unhide HG) h0) (unhide HM10).rd.hp (Nat.le_refl _))
  have c0 := (unhide HM10).rd.c0
  rw [hLe] at c0
  go_wp2_with fail
  refine (unhide HX10).mono ?_
  rintro e w11 ⟨y, a', n', c', p4, e4, hx11, rfl, hf11, h11, hb11⟩
  have HM11 := hide ((unhide HM10).call h11 hb11)
  have hq10 := (unhide HM10).var.lt
  have hf11' : Forest w11 (fun b => q < b) y.a (.slice a' n' c') := hf11.mono (fun b hS _ => by omega)
  have HM12 := hide ((unhide HM11).set4 24 (by decide) (.int .i64 y.kind) (.int .i64 y.n) (.string ⟨y.name.toArray⟩) (.slice a' n' c'))
  rw [do2_eq] at HM12
  have hb12 := but_setc4 q w11 24 (.int .i64 y.kind) (.int .i64 y.n) (.string ⟨y.name.toArray⟩) (.slice a' n' c')
  have HF12 := hide (And.intro (forestBut (forestBut (unhide HF10) hb11 (by omega)) hb12 (Nat.le_refl _)) (forestBut hf11' hb12 (Nat.le_refl _)))
  have HE4 := hide hx11
  have d1 := (unhide HM11).var.cell 24 (.int .i64 0) rfl
  have d2 := (unhide HM11).var.cell 25 (.int .i64 0) rfl
  have d3 := (unhide HM11).var.cell 26 (.string ⟨#[]⟩) rfl
  have d4 := (unhide HM11).var.cell 27 (.slice none 0 0) rfl
  have f1 := (unhide HM11).var.frozen 24
  have f2 := (unhide HM11).var.frozen 25
  have f3 := (unhide HM11).var.frozen 26
  have f4 := (unhide HM11).var.frozen 27
  clear h11 hb11 hf11 hf11' hb12 hx11 c0 HX10 HM10 HF10
  go_wp2_with fail
  generalize (((w11.setCell ⟨q, 24, none⟩ (.int .i64 y.kind)).setCell ⟨q, 25, none⟩ (.int .i64 y.n)).setCell ⟨q, 26, none⟩ (.string ⟨y.name.toArray⟩)).setCell ⟨q, 27, none⟩ (.slice a' n' c') = W12 at *
  clear d1 d2 d3 d4 f1 f2 f3 f4 HM11
  have hst := step_any T L rb W12 p4 e4 (unhide HM12).rd (unhide HN)
  obtain ⟨⟨st, p', er'⟩, hR⟩ : ∃ R, stepR T p4 e4 = R := ⟨_, rfl⟩
  rw [hR] at hst
  have HST : Hid (Calls Tryz.prog 103 #[.pointer (some ⟨rb, 0, none⟩)] W12 fun e w' => e = .returned (.int .i64 st) ∧ SR T L rb w' p' er' ∧ But rb W12 w') := hide hst
  have HE5 := hide hR.symm
  clear hst
  refine (unhide HST).mono ?_
  rintro e w13 ⟨rfl, h13, hb13⟩
  have HM13 := hide ((unhide HM12).call h13 hb13)
  have HM14 := hide ((unhide HM13).set 28 (.int .i64 st) (fun e => by omega))
  rw [do3_eq] at HM14
  have hb14 := set_but q w13 28 (.int .i64 st)
  have HF14 := hide (And.intro (forestBut (forestBut (unhide HF12).1 hb13 (by omega)) hb14 (Nat.le_refl _)) (forestBut (forestBut (unhide HF12).2 hb13 (by omega)) hb14 (Nat.le_refl _)))
  have d1 := (unhide HM13).var.cell 28 (.int .i64 0) rfl
  have f1 := (unhide HM13).var.frozen 28
  clear h13 hb13 hb14 hR HM12 HF12
  go_upto_region 24 with fail
  generalize w13.setCell ⟨q, 28, none⟩ (.int .i64 st) = W14 at *
  clear d1 f1 HM13
  obtain ⟨z1, z2, z3, z4⟩ := (unhide HM14).done
  have HZ := hide (And.intro z1 (And.intro z2 (And.intro z3 (And.intro ((forestBut (unhide HF14).1 z4 (by omega)).mono (S' := fun b => w.heap.size < b) (fun b hS _ => by omega)) ((forestBut (unhide HF14).2 z4 (by omega)).mono (S' := fun b => w.heap.size < b) (fun b hS _ => by omega))))))
  clear z1 z2 z3 z4 HF14
  have HDR : Hid (DoR T p er nm x y st p' er') := hide ⟨(unhide HE0).1.symm, p1, e1, pa, ea, p2, e2, pb, eb, p4, e4, (unhide HE0).2.1.symm, (unhide HE0).2.2.symm, (unhide HE1).1.symm, (unhide HE1).2.symm, unhide HE2, (unhide HE3).1.symm, (unhide HE3).2.symm, unhide HE4, unhide HE5⟩
  have hone : (doV nm x (.slice a n c) y (.slice a' n' c') st).all (·.oneCell') = true := by kernel_rfl
  have hsz : (doV nm x (.slice a n c) y (.slice a' n' c') st).size = 29 := rfl
  go_wp2_with (first | (refine wpList_loadRow rfl _ rfl _ _ rfl (unhide HM14).var ?_) | (refine wpList_storeRow rfl _ _ rfl _ _ _ rfl rfl (unhide HM14).res hsz hone ?_))
  exact bodyPost_ret (results_cell_row rfl _ _ w.heap.size STT (doV nm x (.slice a n c) y (.slice a' n' c') st) (0, 0) _ rfl (unhide HZ).1.1 Tryz.underlying67 rfl infoS) rfl ⟨nm, x, y, st, a, n, c, a', n', c', p', er', unhide HDR, rfl, (unhide HZ).2.2.2.1, (unhide HZ).2.2.2.2, (unhide HZ).2.1, (unhide HZ).2.2.1⟩
end Go.Proofs.YthkbchefjagbbaaGreatDoor.Line

namespace Go.Proofs.YthkbchefjagbbaaGreatDoor.Line
open Go.ChangeShapes Go.WideShapes Go.ChangeAt Go.RowKit
open Ex (E St)
set_option linter.unusedVariables false

abbrev toV (k : Int) (x : E) (sx : Value) : Array Value := #[.int .i64 k, .slice none 0 0, .int .i64 x.kind, .int .i64 x.n, .string ⟨x.name.toArray⟩, sx, .int .i64 0, .int .i64 0, .string ⟨#[]⟩, .slice none 0 0, .string ⟨#[]⟩, .int .i64 0, .int .i64 0, .string ⟨#[]⟩, .slice none 0 0, .int .i64 0, .int .i64 0, .string ⟨#[]⟩, .slice none 0 0, .string ⟨#[]⟩, .int .i64 0, .int .i64 0, .string ⟨#[]⟩, .slice none 0 0, .int .i64 0, .int .i64 0, .string ⟨#[]⟩, .slice none 0 0, .int .i64 0]
abbrev setV (k : Int) (x : E) (sx : Value) (y : E) (sy : Value) : Array Value := #[.int .i64 k, .slice none 0 0, .int .i64 x.kind, .int .i64 x.n, .string ⟨x.name.toArray⟩, sx, .int .i64 y.kind, .int .i64 y.n, .string ⟨y.name.toArray⟩, sy, .string ⟨#[]⟩, .int .i64 0, .int .i64 0, .string ⟨#[]⟩, .slice none 0 0, .int .i64 0, .int .i64 0, .string ⟨#[]⟩, .slice none 0 0, .string ⟨#[]⟩, .int .i64 0, .int .i64 0, .string ⟨#[]⟩, .slice none 0 0, .int .i64 0, .int .i64 0, .string ⟨#[]⟩, .slice none 0 0, .int .i64 0]
theorem to_eq (k : Int) (x : E) (sx : Value) : ((((stZ k).setIfInBounds 2 (.int .i64 x.kind)).setIfInBounds (2 + 1) (.int .i64 x.n)).setIfInBounds (2 + 2) (.string ⟨x.name.toArray⟩)).setIfInBounds (2 + 3) sx = toV k x sx := rfl
theorem set_eq (k : Int) (x : E) (sx : Value) (y : E) (sy : Value) : ((((toV k x sx).setIfInBounds 6 (.int .i64 y.kind)).setIfInBounds (6 + 1) (.int .i64 y.n)).setIfInBounds (6 + 2) (.string ⟨y.name.toArray⟩)).setIfInBounds (6 + 3) sy = setV k x sx y sy := rfl
def SetR (T : List Words.T) (p : Nat) (er : SE) (x y : E) (p' : Nat) (er' : SE) : Prop :=
  ∃ p1 e1 pa ea, TR T p er x p1 e1 ∧ pa = nextP (isNext T p1 e1 [61]) p1 ∧ ea = mustE (isNext T p1 e1 [61]) e1 p1 ∧ XR T pa T.length ea y p' er'
set_option maxHeartbeats 16000000 in
set_option maxRecDepth 100000 in
theorem stmt_set (HPARSE : ParseSpec) (T : List Words.T) (L : Value) (rb : Nat) (w : World) (p : Nat) (er : SE) (hl : rb < w.heap.size) (h0 : 0 < rb) (hlw : ∀ q, L.ownBlock = some q → q < w.heap.size) (hG : Glob w) (HK : KindIs T L rb w 2 p er) : Calls Tryz.prog 65 #[.pointer (some ⟨rb, 0, none⟩)] w fun e w' => ∃ x y a n c a' n' c' p' er', SetR T p er x y p' er' ∧ e = .returned (.agg (setV 2 x (.slice a n c) y (.slice a' n' c'))) ∧ Forest w' (fun b => w.heap.size < b) x.a (.slice a n c) ∧ Forest w' (fun b => w.heap.size < b) y.a (.slice a' n' c') ∧ SR T L rb w' p' er' ∧ But rb w w' := by
  have ba := alloc_below w (.cells (stZ 0) STT)
  have HKA := hide (HK _ ba)
  have HLW := hide hlw
  have HG := hide hG
  have HPA := hide HPARSE
  clear HK ba hlw hG HPARSE
  go_enter Tryz.func65, Tryz.ntmps65
  go_wp2_with fail
  refine (unhide HKA).mono ?_
  rintro e w3 ⟨rfl, h3, hb3⟩
  have HM := hide (midSt_start 2 h3 hb3 hl (unhide HLW))
  clear h3 hb3 HKA
  go_wp2_with (refine wpList_storeNew rfl _ _ rfl _ _ rfl rfl rfl rfl (by kernel_rfl) ?_)
  generalize w3.alloc (.cells (stZ 2) STT) = W4 at *
  generalize w3.heap.size = q at *
  refine (target_any (unhide HPA) T L rb W4 p er (unhide HM).rd ((unhide HM).glob (unhide HG) h0)).mono ?_
  rintro e w8 ⟨x, a, n, c, p2, e2, hx8, rfl, hf8, h8, hb8⟩
  have HM8 := hide ((unhide HM).call h8 hb8)
  have hq7 := (unhide HM).var.lt
  have hf8' : Forest w8 (fun b => q < b) x.a (.slice a n c) := hf8.mono (fun b hS _ => by omega)
  have HM9 := hide ((unhide HM8).set4 2 (by decide) (.int .i64 x.kind) (.int .i64 x.n) (.string ⟨x.name.toArray⟩) (.slice a n c))
  rw [to_eq] at HM9
  have hb9 := but_setc4 q w8 2 (.int .i64 x.kind) (.int .i64 x.n) (.string ⟨x.name.toArray⟩) (.slice a n c)
  have HF9 := hide (forestBut hf8' hb9 (Nat.le_refl _))
  have HE2 := hide hx8
  have d1 := (unhide HM8).var.cell 2 (.int .i64 0) rfl
  have d2 := (unhide HM8).var.cell 3 (.int .i64 0) rfl
  have d3 := (unhide HM8).var.cell 4 (.string ⟨#[]⟩) rfl
  have d4 := (unhide HM8).var.cell 5 (.slice none 0 0) rfl
  have f1 := (unhide HM8).var.frozen 2
  have f2 := (unhide HM8).var.frozen 3
  have f3 := (unhide HM8).var.frozen 4
  have f4 := (unhide HM8).var.frozen 5
  clear h8 hb8 hf8 hf8' hb9 hx8 HM
  go_wp2_with fail
  generalize (((w8.setCell ⟨q, 2, none⟩ (.int .i64 x.kind)).setCell ⟨q, 3, none⟩ (.int .i64 x.n)).setCell ⟨q, 4, none⟩ (.string ⟨x.name.toArray⟩)).setCell ⟨q, 5, none⟩ (.slice a n c) = W9 at *
  clear d1 d2 d3 d4 f1 f2 f3 f4 HM8
  refine (must_any T L rb W9 p2 e2 [61] (unhide HM9).rd).mono ?_
  rintro e w10 ⟨rfl, h10, hb10⟩
  generalize hpb : nextP (isNext T p2 e2 [61]) p2 = pb at *
  generalize heb : mustE (isNext T p2 e2 [61]) e2 p2 = eb at *
  have hqq := (unhide HM9).qq
  have HM10 := hide ((unhide HM9).call h10 hb10)
  have HF10 := hide (forestBut (unhide HF9) hb10 (by omega))
  have HE3 := hide (And.intro hpb heb)
  clear h10 hb10 hpb heb HM9 HF9
  have HX10 := hide (expr_any (unhide HPA) T L rb w10 pb T.length eb (unhide HM10).rd ((unhide HM10).glob (unhide HG) h0) (unhide HM10).rd.hp (Nat.le_refl _))
  obtain ⟨la, lc, hLe⟩ := (unhide HM10).rd.tks.shape
  have c0 := (unhide HM10).rd.c0
  have hT := (unhide HM10).rd.ht
  rw [hLe] at c0
  go_wp2_with fail
  refine (unhide HX10).mono ?_
  rintro e w11 ⟨y, a', n', c', p4, e4, hx11, rfl, hf11, h11, hb11⟩
  have HM11 := hide ((unhide HM10).call h11 hb11)
  have hq10 := (unhide HM10).var.lt
  have hf11' : Forest w11 (fun b => q < b) y.a (.slice a' n' c') := hf11.mono (fun b hS _ => by omega)
  have HM12 := hide ((unhide HM11).set4 6 (by decide) (.int .i64 y.kind) (.int .i64 y.n) (.string ⟨y.name.toArray⟩) (.slice a' n' c'))
  rw [set_eq] at HM12
  have hb12 := but_setc4 q w11 6 (.int .i64 y.kind) (.int .i64 y.n) (.string ⟨y.name.toArray⟩) (.slice a' n' c')
  have HF12 := hide (And.intro (forestBut (forestBut (unhide HF10) hb11 (by omega)) hb12 (Nat.le_refl _)) (forestBut hf11' hb12 (Nat.le_refl _)))
  have HE4 := hide hx11
  have d1 := (unhide HM11).var.cell 6 (.int .i64 0) rfl
  have d2 := (unhide HM11).var.cell 7 (.int .i64 0) rfl
  have d3 := (unhide HM11).var.cell 8 (.string ⟨#[]⟩) rfl
  have d4 := (unhide HM11).var.cell 9 (.slice none 0 0) rfl
  have f1 := (unhide HM11).var.frozen 6
  have f2 := (unhide HM11).var.frozen 7
  have f3 := (unhide HM11).var.frozen 8
  have f4 := (unhide HM11).var.frozen 9
  clear h11 hb11 hf11 hf11' hb12 hx11 c0 HX10 HM10 HF10
  go_upto_region 24 with fail
  generalize (((w11.setCell ⟨q, 6, none⟩ (.int .i64 y.kind)).setCell ⟨q, 7, none⟩ (.int .i64 y.n)).setCell ⟨q, 8, none⟩ (.string ⟨y.name.toArray⟩)).setCell ⟨q, 9, none⟩ (.slice a' n' c') = W14 at *
  clear d1 d2 d3 d4 f1 f2 f3 f4 HM11
  obtain ⟨z1, z2, z3, z4⟩ := (unhide HM12).done
  have HZ := hide (And.intro z1 (And.intro z2 (And.intro z3 (And.intro ((forestBut (unhide HF12).1 z4 (by omega)).mono (S' := fun b => w.heap.size < b) (fun b hS _ => by omega)) ((forestBut (unhide HF12).2 z4 (by omega)).mono (S' := fun b => w.heap.size < b) (fun b hS _ => by omega))))))
  clear z1 z2 z3 z4 HF12
  have HDR : Hid (SetR T p er x y p4 e4) := hide ⟨p2, e2, pb, eb, unhide HE2, (unhide HE3).1.symm, (unhide HE3).2.symm, unhide HE4⟩
  have hone : (setV 2 x (.slice a n c) y (.slice a' n' c')).all (·.oneCell') = true := by kernel_rfl
  have hsz : (setV 2 x (.slice a n c) y (.slice a' n' c')).size = 29 := rfl
  go_wp2_with (first | (refine wpList_loadRow rfl _ rfl _ _ rfl (unhide HM12).var ?_) | (refine wpList_storeRow rfl _ _ rfl _ _ _ rfl rfl (unhide HM12).res hsz hone ?_))
  exact bodyPost_ret (results_cell_row rfl _ _ w.heap.size STT (setV 2 x (.slice a n c) y (.slice a' n' c')) (0, 0) _ rfl (unhide HZ).1.1 Tryz.underlying67 rfl infoS) rfl ⟨x, y, a, n, c, a', n', c', p4, e4, unhide HDR, rfl, (unhide HZ).2.2.2.1, (unhide HZ).2.2.2.2, (unhide HZ).2.1, (unhide HZ).2.2.1⟩
end Go.Proofs.YthkbchefjagbbaaGreatDoor.Line

namespace Go.Proofs.YthkbchefjagbbaaGreatDoor.Line
open Go.ChangeShapes Go.WideShapes Go.ChangeAt Go.RowKit
open Ex (E St)
set_option linter.unusedVariables false

abbrev prV (k : Int) (y : E) (sy : Value) : Array Value := #[.int .i64 k, .slice none 0 0, .int .i64 0, .int .i64 0, .string ⟨#[]⟩, .slice none 0 0, .int .i64 y.kind, .int .i64 y.n, .string ⟨y.name.toArray⟩, sy, .string ⟨#[]⟩, .int .i64 0, .int .i64 0, .string ⟨#[]⟩, .slice none 0 0, .int .i64 0, .int .i64 0, .string ⟨#[]⟩, .slice none 0 0, .string ⟨#[]⟩, .int .i64 0, .int .i64 0, .string ⟨#[]⟩, .slice none 0 0, .int .i64 0, .int .i64 0, .string ⟨#[]⟩, .slice none 0 0, .int .i64 0]
theorem pr_eq (k : Int) (y : E) (sy : Value) : ((((stZ k).setIfInBounds 6 (.int .i64 y.kind)).setIfInBounds (6 + 1) (.int .i64 y.n)).setIfInBounds (6 + 2) (.string ⟨y.name.toArray⟩)).setIfInBounds (6 + 3) sy = prV k y sy := rfl
set_option maxHeartbeats 16000000 in
set_option maxRecDepth 100000 in
theorem stmt_read (HPARSE : ParseSpec) (T : List Words.T) (L : Value) (rb : Nat) (w : World) (p : Nat) (er : SE) (hl : rb < w.heap.size) (h0 : 0 < rb) (hlw : ∀ q, L.ownBlock = some q → q < w.heap.size) (hG : Glob w) (HK : KindIs T L rb w 8 p er) : Calls Tryz.prog 65 #[.pointer (some ⟨rb, 0, none⟩)] w fun e w' => ∃ x a n c p' er', TR T p er x p' er' ∧ e = .returned (.agg (toV 8 x (.slice a n c))) ∧ Forest w' (fun b => w.heap.size < b) x.a (.slice a n c) ∧ SR T L rb w' p' er' ∧ But rb w w' := by
  have ba := alloc_below w (.cells (stZ 0) STT)
  have HKA := hide (HK _ ba)
  have HLW := hide hlw
  have HG := hide hG
  have HPA := hide HPARSE
  clear HK ba hlw hG HPARSE
  go_enter Tryz.func65, Tryz.ntmps65
  go_wp2_with fail
  refine (unhide HKA).mono ?_
  rintro e w3 ⟨rfl, h3, hb3⟩
  have HM := hide (midSt_start 8 h3 hb3 hl (unhide HLW))
  clear h3 hb3 HKA
  go_wp2_with (refine wpList_storeNew rfl _ _ rfl _ _ rfl rfl rfl rfl (by kernel_rfl) ?_)
  generalize w3.alloc (.cells (stZ 8) STT) = W4 at *
  generalize w3.heap.size = q at *
  refine (target_any (unhide HPA) T L rb W4 p er (unhide HM).rd ((unhide HM).glob (unhide HG) h0)).mono ?_
  rintro e w8 ⟨x, a, n, c, p2, e2, hx8, rfl, hf8, h8, hb8⟩
  have HM8 := hide ((unhide HM).call h8 hb8)
  have hq7 := (unhide HM).var.lt
  have hf8' : Forest w8 (fun b => q < b) x.a (.slice a n c) := hf8.mono (fun b hS _ => by omega)
  have HM9 := hide ((unhide HM8).set4 2 (by decide) (.int .i64 x.kind) (.int .i64 x.n) (.string ⟨x.name.toArray⟩) (.slice a n c))
  rw [to_eq] at HM9
  have hb9 := but_setc4 q w8 2 (.int .i64 x.kind) (.int .i64 x.n) (.string ⟨x.name.toArray⟩) (.slice a n c)
  have HF9 := hide (forestBut hf8' hb9 (Nat.le_refl _))
  have HE2 := hide hx8
  have d1 := (unhide HM8).var.cell 2 (.int .i64 0) rfl
  have d2 := (unhide HM8).var.cell 3 (.int .i64 0) rfl
  have d3 := (unhide HM8).var.cell 4 (.string ⟨#[]⟩) rfl
  have d4 := (unhide HM8).var.cell 5 (.slice none 0 0) rfl
  have f1 := (unhide HM8).var.frozen 2
  have f2 := (unhide HM8).var.frozen 3
  have f3 := (unhide HM8).var.frozen 4
  have f4 := (unhide HM8).var.frozen 5
  clear h8 hb8 hf8 hf8' hb9 hx8 HM
  go_upto_region 24 with fail
  generalize (((w8.setCell ⟨q, 2, none⟩ (.int .i64 x.kind)).setCell ⟨q, 3, none⟩ (.int .i64 x.n)).setCell ⟨q, 4, none⟩ (.string ⟨x.name.toArray⟩)).setCell ⟨q, 5, none⟩ (.slice a n c) = W9 at *
  clear d1 d2 d3 d4 f1 f2 f3 f4 HM8
  have hqq := (unhide HM9).qq
  obtain ⟨z1, z2, z3, z4⟩ := (unhide HM9).done
  have HZ := hide (And.intro z1 (And.intro z2 (And.intro z3 ((forestBut (unhide HF9) z4 (by omega)).mono (S' := fun b => w.heap.size < b) (fun b hS _ => by omega)))))
  clear z1 z2 z3 z4 HF9
  have hone : (toV 8 x (.slice a n c)).all (·.oneCell') = true := by kernel_rfl
  have hsz : (toV 8 x (.slice a n c)).size = 29 := rfl
  go_wp2_with (first | (refine wpList_loadRow rfl _ rfl _ _ rfl (unhide HM9).var ?_) | (refine wpList_storeRow rfl _ _ rfl _ _ _ rfl rfl (unhide HM9).res hsz hone ?_))
  exact bodyPost_ret (results_cell_row rfl _ _ w.heap.size STT (toV 8 x (.slice a n c)) (0, 0) _ rfl (unhide HZ).1.1 Tryz.underlying67 rfl infoS) rfl ⟨x, a, n, c, p2, e2, unhide HE2, rfl, (unhide HZ).2.2.2, (unhide HZ).2.1, (unhide HZ).2.2.1⟩
set_option maxHeartbeats 16000000 in
set_option maxRecDepth 100000 in
theorem stmt_print (HPARSE : ParseSpec) (T : List Words.T) (L : Value) (rb : Nat) (w : World) (p : Nat) (er : SE) (hl : rb < w.heap.size) (h0 : 0 < rb) (hlw : ∀ q, L.ownBlock = some q → q < w.heap.size) (hG : Glob w) (HK : KindIs T L rb w 9 p er) : Calls Tryz.prog 65 #[.pointer (some ⟨rb, 0, none⟩)] w fun e w' => ∃ y a n c p' er', XR T p T.length er y p' er' ∧ e = .returned (.agg (prV 9 y (.slice a n c))) ∧ Forest w' (fun b => w.heap.size < b) y.a (.slice a n c) ∧ SR T L rb w' p' er' ∧ But rb w w' := by
  have ba := alloc_below w (.cells (stZ 0) STT)
  have HKA := hide (HK _ ba)
  have HLW := hide hlw
  have HG := hide hG
  have HPA := hide HPARSE
  clear HK ba hlw hG HPARSE
  go_enter Tryz.func65, Tryz.ntmps65
  go_wp2_with fail
  refine (unhide HKA).mono ?_
  rintro e w3 ⟨rfl, h3, hb3⟩
  have HM := hide (midSt_start 9 h3 hb3 hl (unhide HLW))
  clear h3 hb3 HKA
  go_upto_region 23 with (refine wpList_storeNew rfl _ _ rfl _ _ rfl rfl rfl rfl (by kernel_rfl) ?_)
  generalize w3.alloc (.cells (stZ 9) STT) = W4 at *
  generalize w3.heap.size = q at *
  have HX10 := hide (expr_any (unhide HPA) T L rb W4 p T.length er (unhide HM).rd ((unhide HM).glob (unhide HG) h0) (unhide HM).rd.hp (Nat.le_refl _))
  obtain ⟨la, lc, hLe⟩ := (unhide HM).rd.tks.shape
  have c0 := (unhide HM).rd.c0
  have hT := (unhide HM).rd.ht
  have hqq := (unhide HM).qq
  rw [hLe] at c0
  go_wp2_with fail
  refine (unhide HX10).mono ?_
  rintro e w11 ⟨y, a, n, c, p4, e4, hx11, rfl, hf11, h11, hb11⟩
  have HM11 := hide ((unhide HM).call h11 hb11)
  have hq10 := (unhide HM).var.lt
  have hf11' : Forest w11 (fun b => q < b) y.a (.slice a n c) := hf11.mono (fun b hS _ => by omega)
  have HM12 := hide ((unhide HM11).set4 6 (by decide) (.int .i64 y.kind) (.int .i64 y.n) (.string ⟨y.name.toArray⟩) (.slice a n c))
  rw [pr_eq] at HM12
  have hb12 := but_setc4 q w11 6 (.int .i64 y.kind) (.int .i64 y.n) (.string ⟨y.name.toArray⟩) (.slice a n c)
  have HF12 := hide (forestBut hf11' hb12 (Nat.le_refl _))
  have HE4 := hide hx11
  have d1 := (unhide HM11).var.cell 6 (.int .i64 0) rfl
  have d2 := (unhide HM11).var.cell 7 (.int .i64 0) rfl
  have d3 := (unhide HM11).var.cell 8 (.string ⟨#[]⟩) rfl
  have d4 := (unhide HM11).var.cell 9 (.slice none 0 0) rfl
  have f1 := (unhide HM11).var.frozen 6
  have f2 := (unhide HM11).var.frozen 7
  have f3 := (unhide HM11).var.frozen 8
  have f4 := (unhide HM11).var.frozen 9
  clear h11 hb11 hf11 hf11' hb12 hx11 c0 HX10 HM
  go_upto_region 24 with fail
  generalize (((w11.setCell ⟨q, 6, none⟩ (.int .i64 y.kind)).setCell ⟨q, 7, none⟩ (.int .i64 y.n)).setCell ⟨q, 8, none⟩ (.string ⟨y.name.toArray⟩)).setCell ⟨q, 9, none⟩ (.slice a n c) = W14 at *
  clear d1 d2 d3 d4 f1 f2 f3 f4 HM11
  obtain ⟨z1, z2, z3, z4⟩ := (unhide HM12).done
  have HZ := hide (And.intro z1 (And.intro z2 (And.intro z3 ((forestBut (unhide HF12) z4 (by omega)).mono (S' := fun b => w.heap.size < b) (fun b hS _ => by omega)))))
  clear z1 z2 z3 z4 HF12
  have hone : (prV 9 y (.slice a n c)).all (·.oneCell') = true := by kernel_rfl
  have hsz : (prV 9 y (.slice a n c)).size = 29 := rfl
  go_wp2_with (first | (refine wpList_loadRow rfl _ rfl _ _ rfl (unhide HM12).var ?_) | (refine wpList_storeRow rfl _ _ rfl _ _ _ rfl rfl (unhide HM12).res hsz hone ?_))
  exact bodyPost_ret (results_cell_row rfl _ _ w.heap.size STT (prV 9 y (.slice a n c)) (0, 0) _ rfl (unhide HZ).1.1 Tryz.underlying67 rfl infoS) rfl ⟨y, a, n, c, p4, e4, unhide HE4, rfl, (unhide HZ).2.2.2, (unhide HZ).2.1, (unhide HZ).2.2.1⟩
end Go.Proofs.YthkbchefjagbbaaGreatDoor.Line
