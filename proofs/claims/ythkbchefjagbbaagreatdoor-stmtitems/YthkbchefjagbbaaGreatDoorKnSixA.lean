/- The contract of the reference's Within: another Fault round the told one, in new memory.
   The law's known, walked: a loop's head with a note, a declaration, a setting that breaks off, a note alone.
   known, and Tells at a Fault in a Fault, put together. -/
import Derived.Test.YthkbchefjagbbaaGreatDoorBaseAll
import Derived.Test.YthkbchefjagbbaaGreatDoorExMem
import Derived.Maps.AppendAt
import Derived.Deep.RegionLaw
import Derived.Test.YthkbchefjagbbaaGreatDoorStTxA
import Derived.Test.YthkbchefjagbbaaGreatDoorTells2
namespace Go.Proofs.YthkbchefjagbbaaGreatDoor.Line
open Go.ChangeShapes Go.WideShapes Go.ChangeAt Go.RowKit
set_option linter.unusedVariables false

theorem infoPart : (Tryz.prog.info? 151).map (fun i => (i.zero, i.size, i.bytes)) = some (some (.agg #[.string ⟨#[]⟩, .int .i64 0]), 2, 24) := by kernel_rfl
theorem step_append43 {ops : Array Oper} {o : Oper} {a : Act} {w : World} {K : Act → World → Prop} {Q : Exit → Act → World → Prop} {P : Prop} (hgd : o.guard = none) (s x : Operand)
    (ho : o.op = .call { callee := .builtin .append, args := #[s, x], argTypes := #[35, 35] }) (hty : o.type = 35) (sv xv : Value) (hs : a.eval s = sv) (hx : a.eval x = xv) (v' : Value) (w' : World)
    (hr : (Builtin.append_ #[35, 35] 35 #[sv, xv]).run Tryz.prog w = .ok v' w') (h : K (a.put o.dst v') w') : if Region.wanted o (yielded ops a.tmps) = true then Oper.wp Tryz.prog o a w K Q else P := by
  have hw : Region.wanted o (yielded ops a.tmps) = true := by simp [Region.wanted, hgd]
  rw [if_pos hw]
  unfold Oper.wp execOp
  simp only [ho, hty, resolve, invoke, builtin, Sem.run_bind, Sem.run_pure, Result.andThen_ok, List.map_toArray, List.map_cons, List.map_nil, hs, hx, hr]
  exact h
/-- a Part behind a Part -/
theorem parts_run (W : World) (word word2 : List UInt8) (k kk b : Nat) (h0 : W.cell? ⟨b, 0, none⟩ = some (.string ⟨word2.toArray⟩)) (h1 : W.cell? ⟨b, 1, none⟩ = some (.int .i64 kk)) :
    ∃ g cap w', (Builtin.append_ #[35, 35] 35 #[.slice (some ⟨W.heap.size, 0, none⟩) 1 1, .slice (some ⟨b, 0, none⟩) 1 1]).run Tryz.prog (W.alloc (.cells #[.string ⟨word.toArray⟩, .int .i64 k] 151)) = .ok (.slice (some ⟨g, 0, none⟩) 2 cap) w' ∧ W.heap.size ≤ g ∧ w'.cell? ⟨g, 0, none⟩ = some (.string ⟨word.toArray⟩) ∧ w'.cell? ⟨g, 1, none⟩ = some (.int .i64 k) ∧ w'.cell? ⟨g, 2, none⟩ = some (.string ⟨word2.toArray⟩) ∧ w'.cell? ⟨g, 3, none⟩ = some (.int .i64 kk) ∧ Below W.heap.size W w' := by
  obtain ⟨i, hi, he⟩ := Option.map_eq_some_iff.1 infoPart
  injection he with e1 e2
  injection e2 with e2 e3
  have hb := cell_lt h0
  have ha := alloc_below W (.cells #[.string ⟨word.toArray⟩, .int .i64 k] 151)
  have hown : (W.alloc (.cells #[.string ⟨word.toArray⟩, .int .i64 k] 151)).ownsRow W.heap.size 151 2 (.slice (some ⟨W.heap.size, 0, none⟩) 1 1) 1 [.string ⟨word.toArray⟩, .int .i64 k] := World.ownsRow_lit W #[.string ⟨word.toArray⟩, .int .i64 k] 1 (Nat.le_refl _) (by decide) rfl
  have hnews : ∀ j u, ([.string ⟨word2.toArray⟩, .int .i64 kk] : List Value)[j]? = some u → (W.alloc (.cells #[.string ⟨word.toArray⟩, .int .i64 k] 151)).cell? ((⟨b, 0, none⟩ : Addr).add j) = some u := fun j u hj => by
    rcases j with _ | j
    · have hj : Value.string ⟨word2.toArray⟩ = u := by simpa using hj
      subst hj
      exact (ha.cell (p := ⟨b, 0, none⟩) hb).trans h0
    · rcases j with _ | j
      · have hj : Value.int .i64 kk = u := by simpa using hj
        subst hj
        exact (ha.cell (p := ⟨b, 1, none⟩) hb).trans h1
      · simp at hj
  obtain ⟨v', w', hr, ho, hg, _, hv⟩ := run_append_own_at (P := Tryz.prog) (w := W.alloc (.cells #[.string ⟨word.toArray⟩, .int .i64 k] 151)) W.heap.size 35 35 151 i _ 2 24 Tryz.underlying35 hi e1 e2 e3 rfl (by decide) _ 1 _ hown ⟨b, 0, none⟩ 1 1 [.string ⟨word2.toArray⟩, .int .i64 kk] rfl hnews (by simp [Value.oneCell']) (by decide) (by decide) (by simp)
  rcases ho.2 with ⟨_, h5⟩ | ⟨g, cap, cur, rfl, hgg, hh, r⟩
  · simp at h5
  · have c0 := World.ownsRow.cellAt ho 0 (by decide)
    have c1 := World.ownsRow.cellAt ho 1 (by decide)
    have c2 := World.ownsRow.cellAt ho 2 (by decide)
    have c3 := World.ownsRow.cellAt ho 3 (by decide)
    exact ⟨g, cap, w', hr, hgg, c0, c1, c2, c3, ⟨hg.os.trans ha.os, hg.tape.trans ha.tape, hg.output.trans ha.output, Nat.le_trans ha.size hg.size, fun q hq => (hg.block q (Nat.lt_of_lt_of_le hq ha.size) (fun e => by injection e with e; first | exact absurd (show W.heap.size = q from e) (by omega) | exact absurd (show q = W.heap.size from e) (by omega))).trans (ha.block q hq)⟩⟩
set_option maxHeartbeats 4000000 in
set_option maxRecDepth 100000 in
theorem within_any (word word2 : List UInt8) (k kk err b : Nat) (w : World) (he : ((err : Int) == 0) = false) (h0 : w.cell? ⟨b, 0, none⟩ = some (.string ⟨word2.toArray⟩)) (h1 : w.cell? ⟨b, 1, none⟩ = some (.int .i64 kk)) :
    Calls Tryz.prog 62 #[.string ⟨word.toArray⟩, .int .i64 k, .agg #[.slice (some ⟨b, 0, none⟩) 1 1, .int .i64 err]] w fun e w' => ∃ g cap, e = .returned (.agg #[.slice (some ⟨g, 0, none⟩) 2 cap, .int .i64 err]) ∧ w'.cell? ⟨g, 0, none⟩ = some (.string ⟨word.toArray⟩) ∧ w'.cell? ⟨g, 1, none⟩ = some (.int .i64 k) ∧ w'.cell? ⟨g, 2, none⟩ = some (.string ⟨word2.toArray⟩) ∧ w'.cell? ⟨g, 3, none⟩ = some (.int .i64 kk) ∧ Below w.heap.size w w' := by
  have hb := cell_lt h0
  have hA : Below w.heap.size w ((w.alloc (.cells #[.slice (some ⟨b, 0, none⟩) 1 1, .int .i64 err] 37)).alloc (.cells #[.slice none 0 0, .int .i64 0] 37)).drew := (((Below.refl _ _).alloc (Nat.le_refl _) _).alloc (by simp) _).drew
  have hz : ((w.alloc (.cells #[.slice (some ⟨b, 0, none⟩) 1 1, .int .i64 err] 37)).alloc (.cells #[.slice none 0 0, .int .i64 0] 37)).drew.heap.size = w.heap.size + 2 := by simp
  obtain ⟨g, cap, w9, hr, hg, c0, c1, c2, c3, hB⟩ := parts_run ((w.alloc (.cells #[.slice (some ⟨b, 0, none⟩) 1 1, .int .i64 err] 37)).alloc (.cells #[.slice none 0 0, .int .i64 0] 37)).drew word word2 k kk b ((hA.cell (p := ⟨b, 0, none⟩) hb).trans h0) ((hA.cell (p := ⟨b, 1, none⟩) hb).trans h1)
  rw [hz] at hr hg hB
  have d0 : w9.cell? ⟨w.heap.size, 0, none⟩ = some (.slice (some ⟨b, 0, none⟩) 1 1) := (hB.cell (p := ⟨w.heap.size, 0, none⟩) (by show w.heap.size < w.heap.size + 2; omega)).trans (by simp)
  have d1 : w9.cell? ⟨w.heap.size, 1, none⟩ = some (.int .i64 err) := (hB.cell (p := ⟨w.heap.size, 1, none⟩) (by show w.heap.size < w.heap.size + 2; omega)).trans (by simp)
  have e0 : w9.cell? ⟨w.heap.size + 1, 0, none⟩ = some (.slice none 0 0) := (hB.cell (p := ⟨w.heap.size + 1, 0, none⟩) (by show w.heap.size + 1 < w.heap.size + 2; omega)).trans (by simp)
  have e1 : w9.cell? ⟨w.heap.size + 1, 1, none⟩ = some (.int .i64 0) := (hB.cell (p := ⟨w.heap.size + 1, 1, none⟩) (by show w.heap.size + 1 < w.heap.size + 2; omega)).trans (by simp)
  have f0 : w9.frozen? ⟨w.heap.size + 1, 0, none⟩ = false := (hB.frozen (p := ⟨w.heap.size + 1, 0, none⟩) (by show w.heap.size + 1 < w.heap.size + 2; omega)).trans (by simp)
  have f1 : w9.frozen? ⟨w.heap.size + 1, 1, none⟩ = false := (hB.frozen (p := ⟨w.heap.size + 1, 1, none⟩) (by show w.heap.size + 1 < w.heap.size + 2; omega)).trans (by simp)
  have HR := hide hr
  have HF := hide (And.intro hg (And.intro c0 (And.intro c1 (And.intro c2 (And.intro c3 (hA.trans (hB.mono (by omega))))))))
  clear hr hg c0 c1 c2 c3 hB hA hz
  go_enter Tryz.func62, Tryz.ntmps62
  go_wp2_with fail
  go_region_law (refine step_append43 rfl _ _ rfl rfl _ _ rfl rfl _ _ (unhide HR) ?_)
  all_goals (
    go_wp2
    obtain ⟨hg, c0, c1, c2, c3, hB⟩ := unhide HF
    have hk : ∀ o, ((w9.setCell ⟨w.heap.size + 1, 0, none⟩ (.slice (some ⟨g, 0, none⟩) 2 cap)).setCell ⟨w.heap.size + 1, 1, none⟩ (.int .i64 err)).cell? ⟨g, o, none⟩ = w9.cell? ⟨g, o, none⟩ := fun o => World.cell?_of_block (a := ⟨g, o, none⟩) ((Below.heap_setCell _ _ _ _ (show g ≠ w.heap.size + 1 by omega)).trans (Below.heap_setCell _ _ _ _ (show g ≠ w.heap.size + 1 by omega)))
    exact bodyPost_ret (v := .agg #[.slice (some ⟨g, 0, none⟩) 2 cap, .int .i64 err]) (by simp [results, Tryz.results62, go_sem, e0, e1]) rfl ⟨g, cap, rfl, (hk 0).trans c0, (hk 1).trans c1, (hk 2).trans c2, (hk 3).trans c3, (hB.setCell (show w.heap.size ≤ w.heap.size + 1 by omega) _).setCell (show w.heap.size ≤ w.heap.size + 1 by omega) _⟩)
end Go.Proofs.YthkbchefjagbbaaGreatDoor.Line

namespace Go.Proofs.YthkbchefjagbbaaGreatDoor.Line
open Go.ChangeShapes Go.WideShapes Go.ChangeAt Go.RowKit
open Ex (E St)
set_option linter.unusedVariables false

abbrev sD : List UInt8 := [32, 32, 100, 111, 32, 105, 32, 61, 32, 49, 44, 32, 110, 32, 45, 32, 49, 44, 32, 45, 50, 32, 33, 32, 100, 111, 119, 110, 10]
abbrev sI : List UInt8 := [105, 110, 116, 101, 103, 101, 114, 32, 97, 40, 51, 44, 32, 52, 41, 44, 32, 120]
abbrev sB : List UInt8 := [97, 40, 49, 41, 32, 61, 32, 50, 32, 43]
abbrev sN : List UInt8 := [33, 32, 110, 111, 116, 104, 105, 110, 103]
def psD : PS := .loop [105] (.mk 1 1 [] []) (.mk 6 0 [] [.mk 2 0 [110] [], .mk 1 1 [] []]) (-2)
def mI : List (List UInt8 × List Nat) := [([97], [3, 4]), ([120], [])]
def psI : PS := .decl mI
def psB : PS := .set (.mk 3 0 [97] [.mk 1 1 [] []]) E.none
theorem liD : Lined sD psD 11 .ok := ⟨by decide, by decide +kernel, by kernel_rfl, by unfold NumOk; decide +kernel, by decide +kernel, readF_ok (by kernel_rfl)⟩
theorem liI : Lined sI psI 9 .ok := ⟨by decide, by decide +kernel, by kernel_rfl, by unfold NumOk; decide +kernel, by decide +kernel, readF_ok (by kernel_rfl)⟩
theorem liB : Lined sB psB 7 (.sub 7 2 2) := ⟨by decide, by decide +kernel, by kernel_rfl, by unfold NumOk; decide +kernel, by decide +kernel, readF_ok (by kernel_rfl)⟩
theorem liN : Lined sN (.plain 0) 0 .ok := ⟨by decide, by decide +kernel, by kernel_rfl, by unfold NumOk; decide +kernel, by decide +kernel, readF_ok (by kernel_rfl)⟩
theorem okD : OkS psD := ⟨okX_of (by decide +kernel) (by decide +kernel) (by decide +kernel), okX_of (by decide +kernel) (by decide +kernel) (by decide +kernel), by decide, by decide, by decide⟩
theorem okI : OkS psI := ⟨by decide, fun x hx => by
  simp only [mI, List.mem_cons, List.not_mem_nil, or_false] at hx
  rcases hx with rfl | rfl
  · exact ⟨by decide, by decide, by decide⟩
  · exact ⟨by decide, by decide, by decide⟩, by decide, by decide +kernel⟩
theorem txD : stText psD = [100, 111, 32, 105, 32, 61, 32, 49, 44, 32, 110, 32, 45, 32, 49, 44, 32, 45, 50] := by kernel_rfl
theorem txI : stText psI = [105, 110, 116, 101, 103, 101, 114, 32, 97, 40, 51, 44, 32, 52, 41, 44, 32, 120] := by kernel_rfl
theorem decl_cells {base : Nat} {w : World} {v : Value} {M : List Itm} (h : ItemsAt base w v M) (hm : plainI M = mI) : ∃ g cap a2 c2, v = .slice (some ⟨g, 0, none⟩) 2 cap ∧ 2 ≤ cap ∧ w.cell? ⟨g, 1, none⟩ = some (.slice a2 2 c2) := by
  have hlen : M.length = 2 := by
    have : (plainI M).length = 2 := by rw [hm]; rfl
    unfold plainI at this
    rwa [List.length_map] at this
  match M, hlen, h, hm with
  | [x, y], _, h, hm =>
    have hx : (x.1, x.2.1) = (([97], [3, 4]) : List UInt8 × List Nat) := by
      unfold plainI mI at hm
      simp only [List.map_cons, List.cons.injEq] at hm
      exact hm.1
    obtain ⟨b, cap, hv, hr⟩ := itRow_of h (by simp) (fun z hz => okI.2.1 z (by rw [hm] at hz; exact hz))
    have h1 := (hr.at_ 0 (convI x) rfl).2.1
    have hl : (convI x).2.1.length = 2 := by
      show (intsI x.2.1).length = 2
      injection hx with _ hx
      rw [hx]
      rfl
    rw [hl] at h1
    have ho := h.own
    unfold OwnM at ho
    subst hv
    have hcap : 2 ≤ cap := by
      rcases ho.2 with ⟨h5, _⟩ | ⟨g, cp, cur, he, hg, hh, hc, r⟩
      · cases h5
      · injection he with _ _ he
        subst he
        exact hc
    exact ⟨b, cap, _, _, rfl, hcap, h1⟩
def Tells2Spec : Prop := ∀ (b bb b2 cp k kk err : Nat) (word word2 : List UInt8) (w : World), ((err : Int) == 0) = false → Glob w →
    w.cell? ⟨b, 0, none⟩ = some (.string ⟨word.toArray⟩) → w.cell? ⟨b, 1, none⟩ = some (.int .i64 k) → w.cell? ⟨b, 2, none⟩ = some (.iface FPT (.pointer (some ⟨bb, 0, none⟩))) →
    w.cell? ⟨bb, 0, none⟩ = some (.string ⟨word2.toArray⟩) → w.cell? ⟨bb, 1, none⟩ = some (.int .i64 kk) → w.cell? ⟨bb, 2, none⟩ = some (.iface ENT (.int .i64 err)) →
    w.cell? ⟨b2, 0, none⟩ = some (.string ⟨word.toArray⟩) → w.cell? ⟨b2, 1, none⟩ = some (.int .i64 k) → w.cell? ⟨b2, 2, none⟩ = some (.string ⟨word2.toArray⟩) → w.cell? ⟨b2, 3, none⟩ = some (.int .i64 kk) →
    Calls Tryz.prog 28 #[.iface FPT (.pointer (some ⟨b, 0, none⟩)), .agg #[.slice (some ⟨b2, 0, none⟩) 2 cp, .int .i64 err]] w fun e w' => e = .returned (.bool true) ∧ Below w.heap.size w w'
def Known6Spec : Prop := ∀ w, Glob w → Tab w → Calls Tryz.prog 21 #[] w fun e w' => e = .returned (.bool true) ∧ Below w.heap.size w w'
set_option maxHeartbeats 16000000 in
set_option maxRecDepth 100000 in
theorem known6_of (HT2 : Tells2Spec) : Known6Spec := by
  intro w hG hT
  have hw0 := cell_lt hG
  have HP1 := hide (parse_good liD (by decide +kernel) w hG (by omega))
  have HGT := hide (And.intro hG hT)
  have HP2 : Hid (∀ W, Below w.heap.size w W → Calls Tryz.prog 24 #[.string ⟨#[105, 110, 116, 101, 103, 101, 114, 32, 97, 40, 51, 44, 32, 52, 41, 44, 32, 120]⟩] W fun e w' => ∃ B cs, W.heap.size < B ∧ Holds B w' cs psI ∧ Below W.heap.size W w' ∧ e = .returned (.tuple #[.agg cs, .nilIface])) := hide (fun W h => parse_good liI (by decide +kernel) W (hG.below h) (by have := h.size; omega))
  have HP3 : Hid (∀ W, Below w.heap.size w W → Calls Tryz.prog 24 #[.string ⟨#[97, 40, 49, 41, 32, 61, 32, 50, 32, 43]⟩] W fun e w' => ∃ g, Se (W.heap.size + 1) w' g (.sub 7 2 2) ∧ Below W.heap.size W w' ∧ e = .returned (.tuple #[.agg (stZ 0), g])) := hide (fun W h => parse_fail liB (.sub 7 2 2) (by kernel_rfl) (by decide) W (hG.below h) (by have := h.size; omega))
  have HP4 : Hid (∀ W, Below w.heap.size w W → Calls Tryz.prog 24 #[.string ⟨#[33, 32, 110, 111, 116, 104, 105, 110, 103]⟩] W fun e w' => ∃ B cs, W.heap.size < B ∧ Holds B w' cs (.plain 0) ∧ Below W.heap.size W w' ∧ e = .returned (.tuple #[.agg cs, .nilIface])) := hide (fun W h => parse_good liN (by decide +kernel) W (hG.below h) (by have := h.size; omega))
  have HXD : Hid (∀ B cs W, Holds B W cs psD → Below w.heap.size w W → Calls Tryz.prog 27 #[.agg cs] W fun e w' => e = .returned (.string ⟨#[100, 111, 32, 105, 32, 61, 32, 49, 44, 32, 110, 32, 45, 32, 49, 44, 32, 45, 50]⟩) ∧ Below W.heap.size W w') := hide (fun B cs W h hb => by have := text_all h okD (hT.below hb); rw [txD] at this; exact this)
  have HXI : Hid (∀ B cs W, Holds B W cs psI → Below w.heap.size w W → Calls Tryz.prog 27 #[.agg cs] W fun e w' => e = .returned (.string ⟨#[105, 110, 116, 101, 103, 101, 114, 32, 97, 40, 51, 44, 32, 52, 41, 44, 32, 120]⟩) ∧ Below W.heap.size W w') := hide (fun B cs W h hb => by have := text_all h okI (hT.below hb); rw [txI] at this; exact this)
  have HTL := hide HT2
  clear hG hT HT2 hw0
  go_enter Tryz.func21, Tryz.ntmps21
  go_wp2_with fail
  refine (unhide HP1).mono ?_
  rintro e w1 ⟨B1, cs1, hB1, hh1, hb1, rfl⟩
  have hc1 := hh1.size
  have a1 := alloc_below w1 (.cells cs1 STT)
  have H1 := hide (And.intro (bthen hb1 a1) (And.intro (StAt.new w1 cs1 hc1.1) (hh1.below a1)))
  obtain ⟨hz1, ho1⟩ := hc1
  clear a1 hb1 hh1 HP1
  go_wp2_with (refine wpList_storeNew rfl _ _ rfl _ _ rfl rfl rfl hz1 ho1 ?_)
  generalize hq1 : w1.heap.size = q1 at *
  generalize w1.alloc (.cells cs1 STT) = W1 at *
  clear hq1
  refine (unhide HP2 W1 (unhide H1).1).mono ?_
  rintro e w2 ⟨B2, cs2, hB2, hh2, hb2, rfl⟩
  have hc2 := hh2.size
  have a2 := alloc_below w2 (.cells cs2 STT)
  have h12 := bthen hb2 a2
  have H2 := hide (And.intro (bthen (unhide H1).1 h12) (And.intro ((unhide H1).2.1.keep (h12.block _ (unhide H1).2.1.lt)) (And.intro ((unhide H1).2.2.below h12) (And.intro (StAt.new w2 cs2 hc2.1) (hh2.below a2)))))
  obtain ⟨hz2, ho2⟩ := hc2
  clear a2 hb2 hh2 HP2 H1 h12 ho1
  go_wp2_with (refine wpList_storeNew rfl _ _ rfl _ _ rfl rfl rfl hz2 ho2 ?_)
  generalize hq2 : w2.heap.size = q2 at *
  generalize w2.alloc (.cells cs2 STT) = W2 at *
  clear hq2
  refine (unhide HP3 W2 (unhide H2).1).mono ?_
  rintro e w3 ⟨g3, hs3, hb3, rfl⟩
  have a3 := alloc_below w3 (.cells (stZ 0) STT)
  have h23 := bthen hb3 a3
  obtain ⟨b3, b4, _, _, rfl, ⟨e0, e1, e2⟩, e3, e4, e5⟩ := hs3
  have hce : ∀ {b o : Nat} {v : Value}, w3.cell? ⟨b, o, none⟩ = some v → (w3.alloc (.cells (stZ 0) STT)).cell? ⟨b, o, none⟩ = some v := fun {b o v} h => (a3.cell (p := ⟨b, o, none⟩) (cell_lt h)).trans h
  have H3 := hide (And.intro (bthen (unhide H2).1 h23) (And.intro ((unhide H2).2.1.keep (h23.block _ (unhide H2).2.1.lt)) (And.intro ((unhide H2).2.2.1.below h23) (And.intro ((unhide H2).2.2.2.1.keep (h23.block _ (unhide H2).2.2.2.1.lt)) ((unhide H2).2.2.2.2.below h23)))))
  have HE := hide (And.intro (hce e0) (And.intro (hce e1) (And.intro (hce e2) (And.intro (hce e3) (And.intro (hce e4) (hce e5))))))
  clear a3 hb3 H2 h23 ho2 HP3 hce e0 e1 e2 e3 e4 e5
  go_wp2_with (refine wpList_storeNew rfl _ _ rfl _ _ rfl rfl rfl rfl (stZ_one 0) ?_)
  generalize hq3 : w3.heap.size = q3 at *
  generalize w3.alloc (.cells (stZ 0) STT) = W3 at *
  clear hq3
  refine (unhide HP4 W3 (unhide H3).1).mono ?_
  rintro e w4 ⟨B4, cs4, hB4, hh4, hb4, rfl⟩
  obtain rfl : cs4 = stZ 0 := hh4
  have a4 := alloc_below w4 (.cells (stZ 0) STT)
  have h34 := bthen hb4 a4
  have hce : ∀ {b o : Nat} {v : Value}, W3.cell? ⟨b, o, none⟩ = some v → (w4.alloc (.cells (stZ 0) STT)).cell? ⟨b, o, none⟩ = some v := fun {b o v} h => (h34.cell (p := ⟨b, o, none⟩) (cell_lt h)).trans h
  have H4 := hide (And.intro (bthen (unhide H3).1 h34) (And.intro ((unhide H3).2.1.keep (h34.block _ (unhide H3).2.1.lt)) (And.intro ((unhide H3).2.2.1.below h34) (And.intro ((unhide H3).2.2.2.1.keep (h34.block _ (unhide H3).2.2.2.1.lt)) (And.intro ((unhide H3).2.2.2.2.below h34) (StAt.new w4 (stZ 0) rfl))))))
  have HE4 := hide (And.intro (hce (unhide HE).1) (And.intro (hce (unhide HE).2.1) (And.intro (hce (unhide HE).2.2.1) (And.intro (hce (unhide HE).2.2.2.1) (And.intro (hce (unhide HE).2.2.2.2.1) (hce (unhide HE).2.2.2.2.2))))))
  have m0 : (w4.alloc (.cells (stZ 0) STT)).cell? ⟨q1, 0, none⟩ = some (.int .i64 3) := (unhide H4).2.1.cell 0 _ (unhide H4).2.2.1.kind
  have m28 : (w4.alloc (.cells (stZ 0) STT)).cell? ⟨q1, 28, none⟩ = some (.int .i64 (-2)) := (unhide H4).2.1.cell 28 _ (unhide H4).2.2.1.step
  clear a4 hb4 H3 h34 HP4 hce HE
  go_wp2_with (first | (refine wpList_storeNew rfl _ _ rfl _ _ rfl rfl rfl rfl (stZ_one 0) ?_) | (refine wpList_loadRowG (by rfl) _ rfl _ _ rfl (unhide H4).2.1 ?_))
  generalize hq4 : w4.heap.size = q4 at *
  generalize w4.alloc (.cells (stZ 0) STT) = W4 at *
  clear hq4 m0 m28
  refine (unhide HXD _ _ W4 (unhide H4).2.2.1 (unhide H4).1).mono ?_
  rintro e w5 ⟨rfl, hb5⟩
  have hce : ∀ {b o : Nat} {v : Value}, W4.cell? ⟨b, o, none⟩ = some v → w5.cell? ⟨b, o, none⟩ = some v := fun {b o v} h => (hb5.cell (p := ⟨b, o, none⟩) (cell_lt h)).trans h
  obtain ⟨v, M, hcs, _, hit, hpm⟩ := (unhide H4).2.2.2.2.1
  obtain ⟨g, cap, da, dc, rfl, hcap, hd1⟩ := decl_cells hit hpm
  have m1 : w5.cell? ⟨q2, 1, none⟩ = some (.slice (some ⟨g, 0, none⟩) 2 cap) := hce ((unhide H4).2.2.2.1.cell 1 _ (by rw [hcs]; rfl))
  have m2 := hce hd1
  have H5 := hide (And.intro (bthen (unhide H4).1 hb5) (And.intro ((unhide H4).2.2.2.1.keep (hb5.block _ (unhide H4).2.2.2.1.lt)) (And.intro ((unhide H4).2.2.2.2.1.below hb5) ((unhide H4).2.2.2.2.2.keep (hb5.block _ (unhide H4).2.2.2.2.2.lt)))))
  have HE5 := hide (And.intro (hce (unhide HE4).1) (And.intro (hce (unhide HE4).2.1) (And.intro (hce (unhide HE4).2.2.1) (And.intro (hce (unhide HE4).2.2.2.1) (And.intro (hce (unhide HE4).2.2.2.2.1) (hce (unhide HE4).2.2.2.2.2))))))
  clear hce hb5 hcs hit hpm hd1 H4 HE4 HXD
  go_wp2_with (refine wpList_loadRowG (by rfl) _ rfl _ _ rfl (unhide H5).2.1 ?_)
  clear m1 m2
  refine (unhide HXI _ _ w5 (unhide H5).2.2.1 (unhide H5).1).mono ?_
  rintro e w6 ⟨rfl, hb6⟩
  have hce : ∀ {b o : Nat} {v : Value}, w5.cell? ⟨b, o, none⟩ = some v → w6.cell? ⟨b, o, none⟩ = some v := fun {b o v} h => (hb6.cell (p := ⟨b, o, none⟩) (cell_lt h)).trans h
  have H6 := hide (And.intro (bthen (unhide H5).1 hb6) (hce ((unhide H5).2.2.2.cell 0 (.int .i64 0) rfl)))
  have HE6 := hide (And.intro (hce (unhide HE5).1) (And.intro (hce (unhide HE5).2.1) (And.intro (hce (unhide HE5).2.2.1) (And.intro (hce (unhide HE5).2.2.2.1) (And.intro (hce (unhide HE5).2.2.2.2.1) (hce (unhide HE5).2.2.2.2.2))))))
  clear hce hb6 H5 HE5 HXI
  go_wp2_with fail
  refine (at_any wExpr 2 2 w6).mono ?_
  rintro e w7 ⟨b7, rfl, hb7, d0, d1, hB7⟩
  have HW := hide (within_any wStmt wExpr 7 2 2 b7 w7 (by decide) d0 d1)
  clear d0 d1
  go_wp2_with fail
  refine (unhide HW).mono ?_
  rintro e w8 ⟨b8, c8, rfl, p0, p1, p2, p3, hB8⟩
  have h68 := bthen hB7 hB8
  have hce : ∀ {b o : Nat} {v : Value}, w6.cell? ⟨b, o, none⟩ = some v → w8.cell? ⟨b, o, none⟩ = some v := fun {b o v} h => (h68.cell (p := ⟨b, o, none⟩) (cell_lt h)).trans h
  have h8 := bthen (unhide H6).1 h68
  have HTT := hide (unhide HTL b3 b4 b8 c8 7 2 2 wStmt wExpr w8 (by decide) ((unhide HGT).1.below h8) (hce (unhide HE6).1) (hce (unhide HE6).2.1) (hce (unhide HE6).2.2.1) (hce (unhide HE6).2.2.2.1) (hce (unhide HE6).2.2.2.2.1) (hce (unhide HE6).2.2.2.2.2) p0 p1 p2 p3)
  have H8 := hide (And.intro h8 (hce (unhide H6).2))
  clear hB7 hB8 h68 hce h8 p0 p1 p2 p3 H6 HE6 HW HTL
  go_wp2_with fail
  refine (unhide HTT).mono ?_
  rintro e w9 ⟨rfl, hb9⟩
  have m4 := (hb9.cell (p := ⟨q4, 0, none⟩) (cell_lt (unhide H8).2)).trans (unhide H8).2
  have H9 := hide (bthen (unhide H8).1 hb9)
  clear hb9 H8 HTT
  go_wp2_with fail
  go_ret
  exact ⟨rfl, unhide H9⟩
end Go.Proofs.YthkbchefjagbbaaGreatDoor.Line

namespace Go.Proofs.YthkbchefjagbbaaGreatDoor.Line

theorem known6_any : Known6Spec := known6_of fun b bb b2 cp k kk err word word2 w he hg h0 h1 h2 k0 k1 k2 p0 p1 p2 p3 => Err.tells_two b bb b2 cp k kk err word word2 w he hg h0 h1 h2 k0 k1 k2 p0 p1 p2 p3
end Go.Proofs.YthkbchefjagbbaaGreatDoor.Line
