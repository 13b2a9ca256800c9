/- The contract of eval.cell. -/
import Derived.Test.YtomnbidppkpfiaaDoorEvFind
import Derived.BigQuiet
import Derived.Deep.QuietTactic
namespace Go.Proofs.YtomnbidppkpfiaaDoor.Line
open Go.ChangeShapes Go.WideShapes Go.ChangeAt Go.RowKit
open Ex (E)
open Ev (Sy Res)
set_option linter.unusedVariables false

theorem says_new (B : Nat) (W : World) (t : TypeId) (word : List UInt8) (k err : Nat) (h : err ≠ 0) (hB : B ≤ W.heap.size) : Says B (W.alloc (.cells #[.string ⟨word.toArray⟩, .int .i64 k, .iface 72 (.int .i64 err)] t)) (.iface 73 (.pointer (some ⟨W.heap.size, 0, none⟩))) word k err :=
  .inr ⟨h, W.heap.size, hB, rfl, by simp, by simp, by simp⟩
theorem says_none (B : Nat) (W : World) (word : List UInt8) (k : Nat) : Says B W .nilIface word k 0 := .inl ⟨rfl, rfl⟩
set_option maxHeartbeats 8000000 in
set_option maxRecDepth 100000 in
theorem cell_any (w : World) (sv : Value) (c : Int) (T : List Sy) (name : List UInt8) (lv : Value) (l : List Int) (hs : Syms w sv T) (ht : Ev.Fine T) (hl : Ints w lv l) (hn : l.length ≤ 1000000) :
    Calls Tryd.prog 27 #[.agg #[sv, .int .i64 c], .string ⟨name.toArray⟩, lv] w fun e w' => ∃ f, e = .returned (.tuple #[.int .i64 (Ev.cellP T name l).v, f]) ∧ Says w.heap.size w' f (Ev.cellP T name l).word (Ev.cellP T name l).at_ (Ev.cellP T name l).err ∧ Below w.heap.size w w' := by
  have ha := alloc_below w (.cells #[sv, .int .i64 c] TbT)
  have HFI := hide (find_any _ sv c T name (hs.below ha) (fun x hx => (ht x hx).1))
  have hfine := Ev.fine_find ht name
  have HL := hide (hl.below ha)
  obtain ⟨la, lc, rfl⟩ := hl.shape
  obtain ⟨sa, sc, rfl⟩ := hs.shape
  have HR : Hid (Ev.cellP T name l = Ev.cellGo 0 l ((Ev.find T name).getD Ev.zSy).dims ((Ev.find T name).getD Ev.zSy).at_ 1) := hide rfl
  clear hs hl ha ht
  generalize Ev.cellP T name l = R at *
  generalize (Ev.find T name).getD Ev.zSy = x at *
  generalize hTn : T.length = tn at *
  generalize hln : l.length = ln at *
  go_enter Tryd.func27, Tryd.ntmps27
  go_wp2_with fail
  refine (unhide HFI).mono ?_
  rintro ev w1 ⟨dv, rfl, hI, hb1⟩
  have hbw : Below w.heap.size w w1 := bthen (alloc_below w _) hb1
  obtain ⟨da, dc, hda⟩ := hI.shape
  have a1 := alloc_below w1 (.cells #[.string ⟨x.name.toArray⟩, dv, .int .i64 x.at_, .int .i64 x.size] SyT)
  have HI := hide (hI.below a1)
  have HL2 := hide (((unhide HL).below hb1).below a1)
  have HB := hide (bthen hbw a1)
  obtain ⟨k1, k2⟩ : (w1.alloc (.cells #[.string ⟨x.name.toArray⟩, dv, .int .i64 x.at_, .int .i64 x.size] SyT)).cell? ⟨w1.heap.size, 1, none⟩ = some dv ∧ (w1.alloc (.cells #[.string ⟨x.name.toArray⟩, dv, .int .i64 x.at_, .int .i64 x.size] SyT)).cell? ⟨w1.heap.size, 2, none⟩ = some (.int .i64 x.at_) := by constructor <;> simp
  obtain ⟨h1, h2, h3, h4, h5⟩ := hfine
  have HS : Hid (Ev.Small x.at_ 1 x.dims) := hide ⟨h4, by omega, by omega, by rw [Int.one_mul]; exact h3, h2⟩
  generalize hdn : x.dims.length = dn at *
  subst hda
  clear hI hb1 hbw a1 HFI HL h2 h3
  have hmn : ∃ m, m = min ln dn := ⟨_, rfl⟩
  obtain ⟨m, hm⟩ := hmn
  by_cases hle : dn < ln
  · have hm2 : m = dn := by omega
    have hle2 : (dn : Int) < ln := by omega
    go_wp2_with fail
    generalize (w1.alloc (.cells #[.string ⟨x.name.toArray⟩, .slice da dn dc, .int .i64 x.at_, .int .i64 x.size] SyT)) = W at *
    have hWs : w.heap.size ≤ W.heap.size := (unhide HB).size
    go_loopw [10, 11, 27] (fun a p q wr => ∃ (i : Nat) (A P : Int), i ≤ m ∧ q = .int .i64 i ∧ a = .int .i64 A ∧ p = .int .i64 P ∧ Hid (Ev.Small A P (x.dims.drop i)) ∧ Hid (R = Ev.cellGo i (l.drop i) (x.dims.drop i) A P) ∧ Hid (Below w.heap.size w wr ∧ ∀ a, wr.cell? a = W.cell? a)) (fun _ _ q _ => m - (intOf q).toNat)
    case atStart => exact ⟨0, x.at_, 1, Nat.zero_le _, rfl, rfl, rfl, HS, HR, hide ⟨unhide HB, fun _ => rfl⟩⟩
    case round =>
      obtain ⟨i, A, P, hi, rfl, rfl, rfl, HSM, HRR, HND⟩ := hrel
      by_cases hlt : i < m
      · have i1 : i < l.length := by omega
        have i2 : i < x.dims.length := by omega
        have i3 : (i : Int) < ln := by omega
        have i4 : (i : Int) < dn := by omega
        obtain ⟨lb, lo, lcap, hv, hc1, hc2, hcl⟩ := (unhide HL2).at (by omega)
        injection hv with hv1 hv2 hv3
        subst hv1
        obtain ⟨db, do_, dcap, hv', hd1, hd2, hcd⟩ := (unhide HI).at (by omega)
        injection hv' with hv1' hv2' hv3'
        subst hv1'
        have cl : wr.cell? ⟨lb, lo + i, none⟩ = some (.int .i64 l[i]) := ((unhide HND).2 _).trans (hcl i i1)
        have cd : wr.cell? ⟨db, do_ + i, none⟩ = some (.int .i64 x.dims[i]) := ((unhide HND).2 _).trans (hcd i i2)
        have k1' : wr.cell? ⟨w1.heap.size, 1, none⟩ = some (.slice (some ⟨db, do_, none⟩) dn dc) := ((unhide HND).2 _).trans k1
        have hSM := unhide HSM
        rw [List.drop_eq_getElem_cons i2] at hSM
        have hRR := unhide HRR
        rw [List.drop_eq_getElem_cons i1, List.drop_eq_getElem_cons i2] at hRR
        have HS2 := hide hSM
        have HR2 := hide hRR
        have hp0 := hSM.p0
        have hp1 := hSM.ple
        have ha0 := hSM.a0
        have ha1 := hSM.a1
        clear hv2 hv3 hv2' hv3' hcl hcd hSM hRR HSM HRR
        generalize l[i] = s at *
        generalize x.dims[i] = d at *
        by_cases g1 : s < 1
        · have q1 : decide (s < 1) = true := decide_eq_true g1
          have HRB := hide ((unhide HR2).trans (Ev.cellGo_out _ _ _ _ _ _ _ (.inl g1)))
          go_wp2_with fail
          go_quiet (fail)
          go_wp2_with fail
          go_ret2
          have hz := (unhide HB).size
          have hbe := (unhide HND).1
          exact ⟨_, by rw [unhide HRB]; rfl, by rw [unhide HRB]; exact says_new _ (wr.drewN nq) _ _ _ _ (by decide) hbe.size, (below_drewN hbe nq).alloc hbe.size _⟩
        · by_cases g2 : d < s
          · have q1 : decide (s < 1) = false := decide_eq_false g1
            have q2 : decide (d < s) = true := decide_eq_true g2
            have HRB := hide ((unhide HR2).trans (Ev.cellGo_out _ _ _ _ _ _ _ (.inr g2)))
            go_wp2_with fail
            go_quiet (fail)
            go_wp2_with fail
            go_ret2
            have hz := (unhide HB).size
            have hbe := (unhide HND).1
            exact ⟨_, by rw [unhide HRB]; rfl, by rw [unhide HRB]; exact says_new _ (wr.drewN nq) _ _ _ _ (by decide) hbe.size, (below_drewN hbe nq).alloc hbe.size _⟩
          · have q1 : decide (s < 1) = false := decide_eq_false g1
            have q2 : decide (d < s) = false := decide_eq_false g2
            have HRN := hide ((unhide HR2).trans (Ev.cellGo_in _ _ _ _ _ _ _ g1 g2))
            obtain ⟨hN, n1, n2, n3⟩ := (unhide HS2).next g1 g2
            have hq0 := hN.p0
            have hq1 := hN.ple
            have HSN := hide hN
            clear hN HS2 HR2
            go_wp2_with fail
            go_quiet (fail)
            go_wp2_with fail
            go_roundw
            case rel => exact ⟨i + 1, A + (s - 1) * P, P * d, by omega, by go_num, rfl, rfl, HSN, HRN, hide ⟨below_drewN (unhide HND).1 nq, (unhide HND).2⟩⟩
            case measure => simp [intOf]; omega
      · have i3 : ¬ (i : Int) < dn := by omega
        go_wp2_with fail
        go_ret2
        have hend : R = .ok A := by
          rw [unhide HRR]
          refine Ev.cellGo_end _ _ _ _ _ ?_
          exact .inr (List.drop_of_length_le (by omega))
        have hbe := (unhide HND).1
        exact ⟨_, by rw [hend]; rfl, by rw [hend]; exact says_none _ _ _ _, hbe⟩
  · have hm2 : m = ln := by omega
    have hle2 : ¬ (dn : Int) < ln := by omega
    go_wp2_with fail
    generalize (w1.alloc (.cells #[.string ⟨x.name.toArray⟩, .slice da dn dc, .int .i64 x.at_, .int .i64 x.size] SyT)) = W at *
    have hWs : w.heap.size ≤ W.heap.size := (unhide HB).size
    go_loopw [10, 11, 27] (fun a p q wr => ∃ (i : Nat) (A P : Int), i ≤ m ∧ q = .int .i64 i ∧ a = .int .i64 A ∧ p = .int .i64 P ∧ Hid (Ev.Small A P (x.dims.drop i)) ∧ Hid (R = Ev.cellGo i (l.drop i) (x.dims.drop i) A P) ∧ Hid (Below w.heap.size w wr ∧ ∀ a, wr.cell? a = W.cell? a)) (fun _ _ q _ => m - (intOf q).toNat)
    case atStart => exact ⟨0, x.at_, 1, Nat.zero_le _, rfl, rfl, rfl, HS, HR, hide ⟨unhide HB, fun _ => rfl⟩⟩
    case round =>
      obtain ⟨i, A, P, hi, rfl, rfl, rfl, HSM, HRR, HND⟩ := hrel
      by_cases hlt : i < m
      · have i1 : i < l.length := by omega
        have i2 : i < x.dims.length := by omega
        have i3 : (i : Int) < ln := by omega
        have i4 : (i : Int) < dn := by omega
        obtain ⟨lb, lo, lcap, hv, hc1, hc2, hcl⟩ := (unhide HL2).at (by omega)
        injection hv with hv1 hv2 hv3
        subst hv1
        obtain ⟨db, do_, dcap, hv', hd1, hd2, hcd⟩ := (unhide HI).at (by omega)
        injection hv' with hv1' hv2' hv3'
        subst hv1'
        have cl : wr.cell? ⟨lb, lo + i, none⟩ = some (.int .i64 l[i]) := ((unhide HND).2 _).trans (hcl i i1)
        have cd : wr.cell? ⟨db, do_ + i, none⟩ = some (.int .i64 x.dims[i]) := ((unhide HND).2 _).trans (hcd i i2)
        have k1' : wr.cell? ⟨w1.heap.size, 1, none⟩ = some (.slice (some ⟨db, do_, none⟩) dn dc) := ((unhide HND).2 _).trans k1
        have hSM := unhide HSM
        rw [List.drop_eq_getElem_cons i2] at hSM
        have hRR := unhide HRR
        rw [List.drop_eq_getElem_cons i1, List.drop_eq_getElem_cons i2] at hRR
        have HS2 := hide hSM
        have HR2 := hide hRR
        have hp0 := hSM.p0
        have hp1 := hSM.ple
        have ha0 := hSM.a0
        have ha1 := hSM.a1
        clear hv2 hv3 hv2' hv3' hcl hcd hSM hRR HSM HRR
        generalize l[i] = s at *
        generalize x.dims[i] = d at *
        by_cases g1 : s < 1
        · have q1 : decide (s < 1) = true := decide_eq_true g1
          have HRB := hide ((unhide HR2).trans (Ev.cellGo_out _ _ _ _ _ _ _ (.inl g1)))
          go_wp2_with fail
          go_quiet (fail)
          go_wp2_with fail
          go_ret2
          have hz := (unhide HB).size
          have hbe := (unhide HND).1
          exact ⟨_, by rw [unhide HRB]; rfl, by rw [unhide HRB]; exact says_new _ (wr.drewN nq) _ _ _ _ (by decide) hbe.size, (below_drewN hbe nq).alloc hbe.size _⟩
        · by_cases g2 : d < s
          · have q1 : decide (s < 1) = false := decide_eq_false g1
            have q2 : decide (d < s) = true := decide_eq_true g2
            have HRB := hide ((unhide HR2).trans (Ev.cellGo_out _ _ _ _ _ _ _ (.inr g2)))
            go_wp2_with fail
            go_quiet (fail)
            go_wp2_with fail
            go_ret2
            have hz := (unhide HB).size
            have hbe := (unhide HND).1
            exact ⟨_, by rw [unhide HRB]; rfl, by rw [unhide HRB]; exact says_new _ (wr.drewN nq) _ _ _ _ (by decide) hbe.size, (below_drewN hbe nq).alloc hbe.size _⟩
          · have q1 : decide (s < 1) = false := decide_eq_false g1
            have q2 : decide (d < s) = false := decide_eq_false g2
            have HRN := hide ((unhide HR2).trans (Ev.cellGo_in _ _ _ _ _ _ _ g1 g2))
            obtain ⟨hN, n1, n2, n3⟩ := (unhide HS2).next g1 g2
            have hq0 := hN.p0
            have hq1 := hN.ple
            have HSN := hide hN
            clear hN HS2 HR2
            go_wp2_with fail
            go_quiet (fail)
            go_wp2_with fail
            go_roundw
            case rel => exact ⟨i + 1, A + (s - 1) * P, P * d, by omega, by go_num, rfl, rfl, HSN, HRN, hide ⟨below_drewN (unhide HND).1 nq, (unhide HND).2⟩⟩
            case measure => simp [intOf]; omega
      · have i3 : ¬ (i : Int) < ln := by omega
        go_wp2_with fail
        go_ret2
        have hend : R = .ok A := by
          rw [unhide HRR]
          refine Ev.cellGo_end _ _ _ _ _ ?_
          exact .inl (List.drop_of_length_le (by omega))
        have hbe := (unhide HND).1
        exact ⟨_, by rw [hend]; rfl, by rw [hend]; exact says_none _ _ _ _, hbe⟩
end Go.Proofs.YtomnbidppkpfiaaDoor.Line
