/- The contract of the project's stmt.Parse, over one of statement, where the line has words.
   The contract of the project's stmt.Parse, over one of statement, whatever is wrong.
   The contract of the project's stmt.Parse where the words themselves are wrong. -/
import Derived.Test.YthkbchefjagbbaaGreatDoorStTgA
import Derived.Test.YthkbchefjagbbaaGreatDoorLineAll
import Derived.Laws.ResultCell
import Derived.Deep.RegionLaw
namespace Go.Proofs.YthkbchefjagbbaaGreatDoor.Line
open Go.ChangeShapes Go.WideShapes Go.ChangeAt Go.RowKit
open Ex (E St)
set_option linter.unusedVariables false

/-- what a statement's fields say, in blocks behind B alone -/
def Far (B : Nat) (RES : Array Value → Nat → SE → World → Prop) : Prop := ∀ cs p er W W', RES cs p er W → (∀ b, B < b → b < W.heap.size → W'.heap[b]? = W.heap[b]?) → RES cs p er W'
def StmtSpec (T : List Words.T) (B : Nat) (RES : Array Value → Nat → SE → World → Prop) : Prop := ∀ (L : Value) (rb : Nat) (W : World), W.heap.size = B → SR T L rb W 0 .ok → rb < W.heap.size → 0 < rb → (∀ q, L.ownBlock = some q → q < W.heap.size) → Glob W →
  Calls Tryz.prog 65 #[.pointer (some ⟨rb, 0, none⟩)] W fun e w' => ∃ cs p er, e = .returned (.agg cs) ∧ cs.size = 29 ∧ cs.all (·.oneCell') = true ∧ SR T L rb w' p er ∧ But rb W w' ∧ RES cs p er w'
def endE (T : List Words.T) (p : Nat) (er : SE) : SE := if p < T.length then failE er p 2 else er
theorem seMono {B B' : Nat} {w : World} {g : Value} {er : SE} (h : Se B' w g er) (hb : B ≤ B') : Se B w g er := by
  cases er with
  | ok => exact h
  | leaf p e => obtain ⟨b, h1, h2⟩ := h; exact ⟨b, Nat.le_trans hb h1, h2⟩
  | sub p k e => obtain ⟨b, b2, h1, h2, h3⟩ := h; exact ⟨b, b2, Nat.le_trans hb h1, Nat.le_trans hb h2, h3⟩
theorem res_st {fn : Func} {p u : Tmp} (h : fn.results = #[.cell p STT, .tmp u]) (tmps : Array Value) (W : World) (r : Nat) (cs : Array Value) (hp : tmps.getD p undef = .pointer (some ⟨r, 0, none⟩)) (hs : StAt W r cs) (g : Value) (hg : tmps.getD u undef = g) : (results fn tmps).run Tryz.prog W = .ok (.tuple #[.agg cs, g]) W := by
  rw [results_cell_tmp h, hp, hg]
  simp only [asAddr, Sem.run_pure, Result.andThen_ok]
  rw [run_loadVar_row (P := Tryz.prog) W r STT STT cs (0, 0) _ hs.1 Tryz.underlying67 rfl (by rw [hs.2]; exact infoS)]
  rfl
theorem step_storeRow {ops : Array Oper} {op : Oper} {a : Act} {w : World} {K : Act → World → Prop} {Q : Exit → Act → World → Prop} {P : Prop} (hgd : op.guard = none) (x y : Operand) (ho : op.op = .store STT x y) (g : Nat) (c c' : Array Value)
    (hx : a.eval x = .pointer (some ⟨g, 0, none⟩)) (hy : a.eval y = .agg c') (hs : StAt w g c) (hc' : c'.size = 29) (h1 : c'.all (·.oneCell') = true)
    (h : K (a.put op.dst undef) (w.setRow g c')) : if Region.wanted op (yielded ops a.tmps) = true then Oper.wp Tryz.prog op a w K Q else P := by
  have hw : Region.wanted op (yielded ops a.tmps) = true := by simp [Region.wanted, hgd]
  rw [if_pos hw]
  unfold Oper.wp execOp
  simp only [ho, hx, hy, Instr.storeAt, Instr.sureAddr, Sem.run_bind, Sem.run_pure, Result.andThen_ok, run_storeVar_row (P := Tryz.prog) w g STT STT c c' hs.1 (by rw [hc']; exact infoS) (by rw [hs.2, hc']) h1]
  exact h
set_option maxHeartbeats 16000000 in
set_option maxRecDepth 100000 in
theorem parse_ok (s : List UInt8) (T : List Words.T) (w : World) (hs : s.length ≤ 65536) (hT : Words.toks (Plain.bodyOf s) = (T, 0, 0)) (hTl : T.length ≤ 100000) (hbl : (Plain.bodyOf s).length ≤ 65536) (hG : Glob w) (hw0 : 0 < w.heap.size) (RES : Nat → Array Value → Nat → SE → World → Prop) (hfar : ∀ B, Far B (RES B)) (HST : ∀ B, StmtSpec T B (RES B)) (hokk : ∀ B cs p er W, RES B cs p er W → endE T p er = .ok) :
    Calls Tryz.prog 24 #[.string ⟨s.toArray⟩] w fun e w' => ∃ B cs p er, w.heap.size < B ∧ RES B cs p er w' ∧ Below w.heap.size w w' ∧ e = .returned (.tuple #[.agg cs, .nilIface]) := by
  have ba := alloc_below w (.cells (stZ 0) STT)
  have hz1 : (w.alloc (.cells (stZ 0) STT)).heap.size = w.heap.size + 1 := by simp
  have HP : Hid (Calls Tryz.prog 64 #[.string ⟨s.toArray⟩] (w.alloc (.cells (stZ 0) STT)) fun e w' => e = .returned (.tuple #[.string ⟨(Plain.bodyOf s).toArray⟩, .string ⟨(Plain.noteOf s).toArray⟩, .string ⟨(Plain.endOf s).toArray⟩]) ∧ ∃ n, w' = (w.alloc (.cells (stZ 0) STT)).drewN n) := hide (part_any s (w.alloc (.cells (stZ 0) STT)) hs)
  have H1 := hide (And.intro ba (And.intro (StAt.new w (stZ 0) rfl) (hG.below ba)))
  have HLN := hide (line_any (Plain.bodyOf s))
  rw [hT] at HLN
  generalize Plain.bodyOf s = body at *
  have HF := hide (And.intro hfar HST)
  have HOK := hide hokk
  clear ba hT hfar HST hG hokk
  go_enter Tryz.func24, Tryz.ntmps24
  go_wp2_with fail
  generalize (w.alloc (.cells (stZ 0) STT)) = W1 at *
  refine (unhide HP).mono ?_
  rintro e w2 ⟨rfl, n, rfl⟩
  have hd := below_drewN (Below.refl W1.heap.size W1) n
  have hzd : (W1.drewN n).heap.size = W1.heap.size := rfl
  have H2 := hide (And.intro (bthen (unhide H1).1 hd) (And.intro ((unhide H1).2.1.keep (hd.block _ (unhide H1).2.1.lt)) ((unhide H1).2.2.below hd)))
  rw [hz1] at hzd
  clear hd HP hz1
  generalize hW2 : W1.drewN n = W2 at *
  clear hW2
  go_wp2_with fail
  refine (unhide HLN W2 (by omega)).mono ?_
  rintro e w3 ⟨u, g, err, rfl, hu, hg, hn, hb3⟩
  obtain rfl : err = 0 := by
    rcases hn with h | ⟨h, _⟩
    · exact h
    · exact absurd h (by decide)
  obtain rfl := says_nilS hg rfl
  have H3 := hide (And.intro hu (And.intro (bthen (unhide H2).1 hb3) (And.intro ((unhide H2).2.1.keep (hb3.block _ (unhide H2).2.1.lt)) ((unhide H2).2.2.below hb3))))
  have hs3 := hb3.size
  obtain ⟨ua, uc, hus⟩ := hu.tks.shape
  subst hus
  clear hu hg hn hb3 HLN
  have bar := alloc_below w3 (.cells #[.slice ua T.length uc, .int .i64 0, .nilIface] SRT)
  have hzr : (w3.alloc (.cells #[.slice ua T.length uc, .int .i64 0, .nilIface] SRT)).heap.size = w3.heap.size + 1 := by simp
  have hown := (unhide H3).1.ownLt
  have HSR : Hid (SR T (.slice ua T.length uc) w3.heap.size (w3.alloc (.cells #[.slice ua T.length uc, .int .i64 0, .nilIface] SRT)) 0 .ok) := hide ⟨by simp, by simp, ⟨.nilIface, by simp, rfl⟩, by simp, by simp, by omega, (unhide H3).1.tks.below bar, fun e => by have := hown _ e; omega, fun q hq => by have := hown q hq; omega, Nat.zero_le _, hTl⟩
  have H4 := hide (And.intro (bthen (unhide H3).2.1 bar) (And.intro ((unhide H3).2.2.1.keep (bar.block _ (unhide H3).2.2.1.lt)) (And.intro ((unhide H3).2.2.2.below bar) (fun q hq => Nat.lt_of_lt_of_le (hown q hq) bar.size))))
  clear bar hown
  go_wp2_with fail
  generalize (w3.alloc (.cells #[.slice ua T.length uc, .int .i64 0, .nilIface] SRT)) = W4 at *
  generalize w3.heap.size = rb at *
  have HSB := hide ((unhide HF).2 W4.heap.size (.slice ua T.length uc) rb W4 rfl (unhide HSR) (unhide HSR).lt (by omega) (unhide H4).2.2.2 (unhide H4).2.2.1)
  refine (unhide HSB).mono ?_
  rintro e w5 ⟨cs, p, er, rfl, hcs, hone, h5, hb5, hres⟩
  have hzz := (unhide H4).1.size
  have HOW := hide (unhide H3).1.ownLt
  have hrl := (unhide H4).2.1.lt
  have hrb : w.heap.size < rb := by have := (unhide H2).2.1.lt; omega
  have b6 := alloc_below w5 (.cells cs STT)
  have hres5 := (unhide H4).2.1.keep (hb5.block _ hrl (fun e => by injection e with e; omega))
  have hm6 := And.intro (h5.below b6) (And.intro (hres5.keep (b6.block _ hres5.lt)) (And.intro (StAt.new w5 cs hcs) (And.intro ((unhide HF).1 _ cs p er _ _ hres (fun b _ hl => b6.block b hl)) ((but_below (rb := rb) (unhide H4).1).trans (hb5.trans (but_below b6))))))
  have hs5 := hb5.size
  have HM6 := hide hm6
  clear h5 hb5 hres b6 hres5 hm6 HSB
  go_wp2_with (refine wpList_storeNew rfl _ _ rfl _ _ rfl rfl rfl hcs hone ?_)
  generalize w5.alloc (.cells cs STT) = W6 at *
  generalize hq : w5.heap.size = q at *
  refine (endS_any T _ rb W6 p er (unhide HM6).1).mono ?_
  rintro e w7 ⟨rfl, h7, hb7⟩
  have hE : (if p < T.length then failE er p 2 else er) = endE T p er := rfl
  rw [hE] at h7
  obtain ⟨g, hg, hse⟩ := h7.ce
  have hqq : W4.heap.size ≤ q := by omega
  have hv7 := (unhide HM6).2.2.1.keep (hb7.block _ (unhide HM6).2.2.1.lt (fun e => by injection e with e; omega))
  have hr7 := (unhide HM6).2.1.keep (hb7.block _ (unhide HM6).2.1.lt (fun e => by injection e with e; omega))
  have hres7 := (unhide HF).1 _ cs p er _ _ (unhide HM6).2.2.2.1 (fun b hB hl => hb7.block b hl (fun e => by injection e with e; omega))
  have HM7 := hide (And.intro hv7 (And.intro hr7 (And.intro hres7 (And.intro ((unhide HM6).2.2.2.2.trans hb7) (And.intro h7 hse)))))
  clear hb7 h7 hv7 hr7 hres7 HM6 hE
  rcases hse.shape with ⟨hok, rfl⟩ | ⟨hbad, b, rfl⟩
  · obtain ⟨z1, z2⟩ := (unhide HM7).2.1.setRow (c' := cs) hcs
    have HZ := hide (And.intro z1 (And.intro ((unhide HF).1 _ cs p er _ _ (unhide HM7).2.2.1 (fun b hB hl => z2.block b hl (fun e => by injection e with e; omega))) ((stBut (unhide HM7).2.2.2.1 z2 (Nat.le_refl _)).below (show w.heap.size ≤ rb by omega) (Nat.le_refl _))))
    clear z1 z2 hse
    go_wp2_with (first | (refine wpList_loadRow rfl _ rfl _ _ rfl (unhide HM7).1 ?_) | (refine wpList_storeRow rfl _ _ rfl _ _ _ rfl rfl (unhide HM7).2.1 hcs hone ?_))
    exact bodyPost_ret (res_st rfl _ _ w.heap.size cs rfl (unhide HZ).1 _ rfl) rfl ⟨W4.heap.size, cs, p, er, by omega, (unhide HZ).2.1, (unhide HZ).2.2, rfl⟩
  · exact absurd (unhide HOK _ _ _ _ _ (unhide HM7).2.2.1) hbad
end Go.Proofs.YthkbchefjagbbaaGreatDoor.Line

namespace Go.Proofs.YthkbchefjagbbaaGreatDoor.Line
open Go.ChangeShapes Go.WideShapes Go.ChangeAt Go.RowKit
open Ex (E St)
set_option linter.unusedVariables false

set_option maxHeartbeats 16000000 in
set_option maxRecDepth 100000 in
theorem parse_of (s : List UInt8) (T : List Words.T) (w : World) (hs : s.length ≤ 65536) (hT : Words.toks (Plain.bodyOf s) = (T, 0, 0)) (hTl : T.length ≤ 100000) (hbl : (Plain.bodyOf s).length ≤ 65536) (hG : Glob w) (hw0 : 0 < w.heap.size) (RES : Nat → Array Value → Nat → SE → World → Prop) (hfar : ∀ B, Far B (RES B)) (HST : ∀ B, StmtSpec T B (RES B)) :
    Calls Tryz.prog 24 #[.string ⟨s.toArray⟩] w fun e w' => ∃ B cs p er, w.heap.size < B ∧ RES B cs p er w' ∧ Below w.heap.size w w' ∧ ((endE T p er = .ok ∧ e = .returned (.tuple #[.agg cs, .nilIface])) ∨ (endE T p er ≠ .ok ∧ ∃ g, e = .returned (.tuple #[.agg (stZ 0), g]) ∧ Se (w.heap.size + 1) w' g (endE T p er))) := by
  have ba := alloc_below w (.cells (stZ 0) STT)
  have hz1 : (w.alloc (.cells (stZ 0) STT)).heap.size = w.heap.size + 1 := by simp
  have HP : Hid (Calls Tryz.prog 64 #[.string ⟨s.toArray⟩] (w.alloc (.cells (stZ 0) STT)) fun e w' => e = .returned (.tuple #[.string ⟨(Plain.bodyOf s).toArray⟩, .string ⟨(Plain.noteOf s).toArray⟩, .string ⟨(Plain.endOf s).toArray⟩]) ∧ ∃ n, w' = (w.alloc (.cells (stZ 0) STT)).drewN n) := hide (part_any s (w.alloc (.cells (stZ 0) STT)) hs)
  have H1 := hide (And.intro ba (And.intro (StAt.new w (stZ 0) rfl) (hG.below ba)))
  have HLN := hide (line_any (Plain.bodyOf s))
  rw [hT] at HLN
  generalize Plain.bodyOf s = body at *
  have HF := hide (And.intro hfar HST)
  clear ba hT hfar HST hG
  go_enter Tryz.func24, Tryz.ntmps24
  go_wp2_with fail
  generalize (w.alloc (.cells (stZ 0) STT)) = W1 at *
  refine (unhide HP).mono ?_
  rintro e w2 ⟨rfl, n, rfl⟩
  have hd := below_drewN (Below.refl W1.heap.size W1) n
  have hzd : (W1.drewN n).heap.size = W1.heap.size := rfl
  have H2 := hide (And.intro (bthen (unhide H1).1 hd) (And.intro ((unhide H1).2.1.keep (hd.block _ (unhide H1).2.1.lt)) ((unhide H1).2.2.below hd)))
  rw [hz1] at hzd
  clear hd HP hz1
  generalize hW2 : W1.drewN n = W2 at *
  clear hW2
  go_wp2_with fail
  refine (unhide HLN W2 (by omega)).mono ?_
  rintro e w3 ⟨u, g, err, rfl, hu, hg, hn, hb3⟩
  obtain rfl : err = 0 := by
    rcases hn with h | ⟨h, _⟩
    · exact h
    · exact absurd h (by decide)
  obtain rfl := says_nilS hg rfl
  have H3 := hide (And.intro hu (And.intro (bthen (unhide H2).1 hb3) (And.intro ((unhide H2).2.1.keep (hb3.block _ (unhide H2).2.1.lt)) ((unhide H2).2.2.below hb3))))
  have hs3 := hb3.size
  obtain ⟨ua, uc, hus⟩ := hu.tks.shape
  subst hus
  clear hu hg hn hb3 HLN
  have bar := alloc_below w3 (.cells #[.slice ua T.length uc, .int .i64 0, .nilIface] SRT)
  have hzr : (w3.alloc (.cells #[.slice ua T.length uc, .int .i64 0, .nilIface] SRT)).heap.size = w3.heap.size + 1 := by simp
  have hown := (unhide H3).1.ownLt
  have HSR : Hid (SR T (.slice ua T.length uc) w3.heap.size (w3.alloc (.cells #[.slice ua T.length uc, .int .i64 0, .nilIface] SRT)) 0 .ok) := hide ⟨by simp, by simp, ⟨.nilIface, by simp, rfl⟩, by simp, by simp, by omega, (unhide H3).1.tks.below bar, fun e => by have := hown _ e; omega, fun q hq => by have := hown q hq; omega, Nat.zero_le _, hTl⟩
  have H4 := hide (And.intro (bthen (unhide H3).2.1 bar) (And.intro ((unhide H3).2.2.1.keep (bar.block _ (unhide H3).2.2.1.lt)) (And.intro ((unhide H3).2.2.2.below bar) (fun q hq => Nat.lt_of_lt_of_le (hown q hq) bar.size))))
  clear bar hown
  go_wp2_with fail
  generalize (w3.alloc (.cells #[.slice ua T.length uc, .int .i64 0, .nilIface] SRT)) = W4 at *
  generalize w3.heap.size = rb at *
  have HSB := hide ((unhide HF).2 W4.heap.size (.slice ua T.length uc) rb W4 rfl (unhide HSR) (unhide HSR).lt (by omega) (unhide H4).2.2.2 (unhide H4).2.2.1)
  refine (unhide HSB).mono ?_
  rintro e w5 ⟨cs, p, er, rfl, hcs, hone, h5, hb5, hres⟩
  have hzz := (unhide H4).1.size
  have HOW := hide (unhide H3).1.ownLt
  have hrl := (unhide H4).2.1.lt
  have hrb : w.heap.size < rb := by have := (unhide H2).2.1.lt; omega
  have b6 := alloc_below w5 (.cells cs STT)
  have hres5 := (unhide H4).2.1.keep (hb5.block _ hrl (fun e => by injection e with e; omega))
  have hm6 := And.intro (h5.below b6) (And.intro (hres5.keep (b6.block _ hres5.lt)) (And.intro (StAt.new w5 cs hcs) (And.intro ((unhide HF).1 _ cs p er _ _ hres (fun b _ hl => b6.block b hl)) ((but_below (rb := rb) (unhide H4).1).trans (hb5.trans (but_below b6))))))
  have hs5 := hb5.size
  have HM6 := hide hm6
  clear h5 hb5 hres b6 hres5 hm6 HSB
  go_wp2_with (refine wpList_storeNew rfl _ _ rfl _ _ rfl rfl rfl hcs hone ?_)
  generalize w5.alloc (.cells cs STT) = W6 at *
  generalize hq : w5.heap.size = q at *
  refine (endS_any T _ rb W6 p er (unhide HM6).1).mono ?_
  rintro e w7 ⟨rfl, h7, hb7⟩
  have hE : (if p < T.length then failE er p 2 else er) = endE T p er := rfl
  rw [hE] at h7
  obtain ⟨g, hg, hse⟩ := h7.ce
  have hqq : W4.heap.size ≤ q := by omega
  have hv7 := (unhide HM6).2.2.1.keep (hb7.block _ (unhide HM6).2.2.1.lt (fun e => by injection e with e; omega))
  have hr7 := (unhide HM6).2.1.keep (hb7.block _ (unhide HM6).2.1.lt (fun e => by injection e with e; omega))
  have hres7 := (unhide HF).1 _ cs p er _ _ (unhide HM6).2.2.2.1 (fun b hB hl => hb7.block b hl (fun e => by injection e with e; omega))
  have HM7 := hide (And.intro hv7 (And.intro hr7 (And.intro hres7 (And.intro ((unhide HM6).2.2.2.2.trans hb7) (And.intro h7 hse)))))
  clear hb7 h7 hv7 hr7 hres7 HM6 hE
  rcases hse.shape with ⟨hok, rfl⟩ | ⟨hbad, b, rfl⟩
  · obtain ⟨z1, z2⟩ := (unhide HM7).2.1.setRow (c' := cs) hcs
    have HZ := hide (And.intro z1 (And.intro ((unhide HF).1 _ cs p er _ _ (unhide HM7).2.2.1 (fun b hB hl => z2.block b hl (fun e => by injection e with e; omega))) ((stBut (unhide HM7).2.2.2.1 z2 (Nat.le_refl _)).below (show w.heap.size ≤ rb by omega) (Nat.le_refl _))))
    clear z1 z2 hse
    go_wp2_with (first | (refine wpList_loadRow rfl _ rfl _ _ rfl (unhide HM7).1 ?_) | (refine wpList_storeRow rfl _ _ rfl _ _ _ rfl rfl (unhide HM7).2.1 hcs hone ?_))
    exact bodyPost_ret (res_st rfl _ _ w.heap.size cs rfl (unhide HZ).1 _ rfl) rfl ⟨W4.heap.size, cs, p, er, by omega, (unhide HZ).2.1, (unhide HZ).2.2, .inl ⟨hok, rfl⟩⟩
  · have hdr : Below w7.heap.size w7 w7.drew := below_drewN (Below.refl _ _) 1
    have hst := (unhide HM7).2.1.keep (w' := w7.drew) rfl
    obtain ⟨z1, z2⟩ := hst.setRow (c' := stZ 0) rfl
    have hse2 : Se (w.heap.size + 1) (w7.drew.setRow w.heap.size (stZ 0)) (.iface FPT (.pointer (some ⟨b, 0, none⟩))) (endE T p er) := by
      have h1 : Se (rb + 1) w7.drew (.iface FPT (.pointer (some ⟨b, 0, none⟩))) (endE T p er) := hse.keep (fun b _ hl => hdr.block b hl)
      have h2 := h1.keep (w' := w7.drew.setRow w.heap.size (stZ 0)) (fun b hB hl => z2.block b hl (fun e => by injection e with e; omega))
      exact seMono h2 (by omega)
    have HZ := hide (And.intro z1 (And.intro ((unhide HF).1 _ cs p er _ _ (unhide HM7).2.2.1 (fun b hB hl => (z2.block b hl (fun e => by injection e with e; omega)).trans (hdr.block b hl))) (And.intro ((stBut ((unhide HM7).2.2.2.1.trans (but_below hdr)) z2 (Nat.le_refl _)).below (show w.heap.size ≤ rb by omega) (Nat.le_refl _)) hse2)))
    have HST7 := hide hst
    clear z1 z2 hse hse2 hdr hst
    have hg2 : (w7.drew.setRow w.heap.size (stZ 0)).cell? ⟨rb, 2, none⟩ = some (.iface FPT (.pointer (some ⟨b, 0, none⟩))) := (((unhide HST7).setRow (c' := stZ 0) rfl).2.cell (p := ⟨rb, 2, none⟩) (show rb < w7.heap.size from cell_lt hg) (show rb ≠ w.heap.size by omega)).trans hg
    go_wp2_with fail
    refine wp_region_any (by kernel_rfl) ?_
    change wpAny _ _ _ _ _ _ _ (World.drew _)
    refine wpAny_take (i := 0) (v := .agg (stZ 0)) rfl (by kernel_rfl) (by kernel_rfl) (by kernel_rfl) (fun _ _ _ h => h) (Or.inl ⟨by rfl, ?_⟩) ?_
    · intro W
      go_simp
    refine wpAny_take (i := 1) (v := .pointer (some ⟨rb, 2, none⟩)) rfl (by kernel_rfl) (by kernel_rfl) (by kernel_rfl) (fun _ _ _ h => h) (Or.inl ⟨by rfl, ?_⟩) ?_
    · intro W
      go_simp
    simp only [List.getElem_toArray, List.getElem_cons_succ, List.getElem_cons_zero, Act.put, List.setIfInBounds_toArray, List.set_cons_zero, List.set_cons_succ]
    refine wpAny_ready (rs := [2, 3]) (by kernel_rfl) (by simp) ?_
    refine AllReady.cons rfl (fun K hK => ?_) ?_
    · go_simp
      refine hK _ _ ?_
      clear hK K
      try simp only [List.getElem_toArray, List.getElem_cons_succ, List.getElem_cons_zero, Act.put, List.setIfInBounds_toArray, List.set_cons_zero, List.set_cons_succ]
      refine wpAny_ready (rs := [3]) (by kernel_rfl) (by simp) ?_
      refine AllReady.cons rfl (fun K hK => ?_) AllReady.nil
      refine step_storeRow rfl _ _ rfl _ _ _ rfl rfl (unhide HST7) rfl (by kernel_rfl) ?_
      refine hK _ _ ?_
      clear hK K
      try simp only [List.getElem_toArray, List.getElem_cons_succ, List.getElem_cons_zero, Act.put]
      refine wpAny_take (i := 4) (v := .iface FPT (.pointer (some ⟨b, 0, none⟩))) rfl (by kernel_rfl) (by kernel_rfl) (by kernel_rfl) (fun _ _ _ h => h) (Or.inl ⟨by rfl, ?_⟩) ?_
      · intro W
        go_simp
      refine wpAny_done (by kernel_rfl) ?_ _
      try simp only [List.getElem_toArray, List.getElem_cons_succ, List.getElem_cons_zero, Act.put, List.setIfInBounds_toArray, List.set_cons_zero, List.set_cons_succ]
      rename_i K1 a1 K2 a2
      refine a2 _ _ ?_
      go_wp2_with fail
      exact bodyPost_ret (res_st rfl _ _ w.heap.size (stZ 0) rfl (unhide HZ).1 (.iface FPT (.pointer (some ⟨b, 0, none⟩))) rfl) rfl ⟨W4.heap.size, cs, p, er, by omega, (unhide HZ).2.1, (unhide HZ).2.2.1, .inr ⟨hbad, _, rfl, (unhide HZ).2.2.2⟩⟩
    · refine AllReady.cons rfl (fun K hK => ?_) AllReady.nil
      refine step_storeRow rfl _ _ rfl _ _ _ rfl rfl (unhide HST7) rfl (by kernel_rfl) ?_
      refine hK _ _ ?_
      clear hK K
      try simp only [List.getElem_toArray, List.getElem_cons_succ, List.getElem_cons_zero, Act.put]
      refine wpAny_ready (rs := [2]) (by kernel_rfl) (by simp) ?_
      refine AllReady.cons rfl (fun K hK => ?_) AllReady.nil
      go_simp
      refine hK _ _ ?_
      clear hK K
      try simp only [List.getElem_toArray, List.getElem_cons_succ, List.getElem_cons_zero, Act.put, List.setIfInBounds_toArray, List.set_cons_zero, List.set_cons_succ]
      refine wpAny_take (i := 4) (v := .iface FPT (.pointer (some ⟨b, 0, none⟩))) rfl (by kernel_rfl) (by kernel_rfl) (by kernel_rfl) (fun _ _ _ h => h) (Or.inl ⟨by rfl, ?_⟩) ?_
      · intro W
        go_simp
      refine wpAny_done (by kernel_rfl) ?_ _
      try simp only [List.getElem_toArray, List.getElem_cons_succ, List.getElem_cons_zero, Act.put, List.setIfInBounds_toArray, List.set_cons_zero, List.set_cons_succ]
      rename_i K1 a1 K2 a2
      refine a2 _ _ ?_
      go_wp2_with fail
      exact bodyPost_ret (res_st rfl _ _ w.heap.size (stZ 0) rfl (unhide HZ).1 (.iface FPT (.pointer (some ⟨b, 0, none⟩))) rfl) rfl ⟨W4.heap.size, cs, p, er, by omega, (unhide HZ).2.1, (unhide HZ).2.2.1, .inr ⟨hbad, _, rfl, (unhide HZ).2.2.2⟩⟩
end Go.Proofs.YthkbchefjagbbaaGreatDoor.Line

namespace Go.Proofs.YthkbchefjagbbaaGreatDoor.Line
open Go.ChangeShapes Go.WideShapes Go.ChangeAt Go.RowKit
open Ex (E St)
set_option linter.unusedVariables false

set_option maxHeartbeats 16000000 in
set_option maxRecDepth 100000 in
theorem parse_tok (s : List UInt8) (T : List Words.T) (er k : Nat) (w : World) (hs : s.length ≤ 65536) (hT : Words.toks (Plain.bodyOf s) = (T, er, k)) (her : er ≠ 0) (hbl : (Plain.bodyOf s).length ≤ 65536) (hG : Glob w) (hw0 : 0 < w.heap.size) :
    Calls Tryz.prog 24 #[.string ⟨s.toArray⟩] w fun e w' => ∃ b g err, Words.Near er err ∧ w.heap.size + 1 ≤ b ∧ e = .returned (.tuple #[.agg (stZ 0), .iface FPT (.pointer (some ⟨b, 0, none⟩))]) ∧ w'.cell? ⟨b, 0, none⟩ = some (.string ⟨#[115, 116, 109, 116]⟩) ∧ w'.cell? ⟨b, 1, none⟩ = some (.int .i64 0) ∧ w'.cell? ⟨b, 2, none⟩ = some g ∧ Says (w.heap.size + 1) w' g wWord k err ∧ Below w.heap.size w w' := by
  have ba := alloc_below w (.cells (stZ 0) STT)
  have hz1 : (w.alloc (.cells (stZ 0) STT)).heap.size = w.heap.size + 1 := by simp
  have HP : Hid (Calls Tryz.prog 64 #[.string ⟨s.toArray⟩] (w.alloc (.cells (stZ 0) STT)) fun e w' => e = .returned (.tuple #[.string ⟨(Plain.bodyOf s).toArray⟩, .string ⟨(Plain.noteOf s).toArray⟩, .string ⟨(Plain.endOf s).toArray⟩]) ∧ ∃ n, w' = (w.alloc (.cells (stZ 0) STT)).drewN n) := hide (part_any s (w.alloc (.cells (stZ 0) STT)) hs)
  have H1 := hide (And.intro ba (And.intro (StAt.new w (stZ 0) rfl) (hG.below ba)))
  have HLN := hide (line_any (Plain.bodyOf s))
  rw [hT] at HLN
  generalize Plain.bodyOf s = body at *
  clear ba hT hG
  go_enter Tryz.func24, Tryz.ntmps24
  go_wp2_with fail
  generalize (w.alloc (.cells (stZ 0) STT)) = W1 at *
  refine (unhide HP).mono ?_
  rintro e w2 ⟨rfl, n, rfl⟩
  have hd := below_drewN (Below.refl W1.heap.size W1) n
  have hzd : (W1.drewN n).heap.size = W1.heap.size := rfl
  have H2 := hide (And.intro (bthen (unhide H1).1 hd) (And.intro ((unhide H1).2.1.keep (hd.block _ (unhide H1).2.1.lt)) ((unhide H1).2.2.below hd)))
  rw [hz1] at hzd
  clear hd HP hz1
  generalize hW2 : W1.drewN n = W2 at *
  clear hW2
  go_wp2_with fail
  refine (unhide HLN W2 (by omega)).mono ?_
  rintro e w3 ⟨u, g, err, rfl, hu, hg, hn, hb3⟩
  have herr : err ≠ 0 := by rcases hn with h | ⟨h, h'⟩ <;> omega
  have hg' := hg
  obtain ⟨b0, hgg⟩ : ∃ b0, g = .iface FPT (.pointer (some ⟨b0, 0, none⟩)) := by
    rcases hg with ⟨h, _⟩ | ⟨_, b0, _, h, _⟩
    · exact absurd h herr
    · exact ⟨b0, h⟩
  subst hgg
  have hs3 := hb3.size
  have hst3 := (unhide H2).2.1.keep (hb3.block _ (unhide H2).2.1.lt)
  have bar := alloc_below w3 (.cells #[.string ⟨#[115, 116, 109, 116]⟩, .int .i64 0, .iface FPT (.pointer (some ⟨b0, 0, none⟩))] 139)
  have hst4 := hst3.keep (bar.block _ hst3.lt)
  obtain ⟨z1, z2⟩ := hst4.setRow (c' := stZ 0) rfl
  have hl2 := (unhide H2).2.1.lt
  have hn0 : ∀ o v, (w3.alloc (.cells #[.string ⟨#[115, 116, 109, 116]⟩, .int .i64 0, .iface FPT (.pointer (some ⟨b0, 0, none⟩))] 139)).cell? ⟨w3.heap.size, o, none⟩ = some v → ((w3.alloc (.cells #[.string ⟨#[115, 116, 109, 116]⟩, .int .i64 0, .iface FPT (.pointer (some ⟨b0, 0, none⟩))] 139)).setRow w.heap.size (stZ 0)).cell? ⟨w3.heap.size, o, none⟩ = some v := fun o v h => (z2.cell (p := ⟨w3.heap.size, o, none⟩) (by simp) (show w3.heap.size ≠ w.heap.size by omega)).trans h
  have hsay : Says (w.heap.size + 1) ((w3.alloc (.cells #[.string ⟨#[115, 116, 109, 116]⟩, .int .i64 0, .iface FPT (.pointer (some ⟨b0, 0, none⟩))] 139)).setRow w.heap.size (stZ 0)) (.iface FPT (.pointer (some ⟨b0, 0, none⟩))) wWord k err := by
    rcases hg'.below bar with ⟨h, _⟩ | ⟨h, b1, hb1, he, k0, k1, k2⟩
    · exact absurd h herr
    · have hc : ∀ o, _ = (w3.alloc (.cells #[.string ⟨#[115, 116, 109, 116]⟩, .int .i64 0, .iface FPT (.pointer (some ⟨b0, 0, none⟩))] 139)).cell? ⟨b1, o, none⟩ := fun o => z2.cell (p := ⟨b1, o, none⟩) (cell_lt k0) (show b1 ≠ w.heap.size by omega)
      exact .inr ⟨h, b1, by omega, he, (hc 0).trans k0, (hc 1).trans k1, (hc 2).trans k2⟩
  have hold : Below w.heap.size w ((w3.alloc (.cells #[.string ⟨#[115, 116, 109, 116]⟩, .int .i64 0, .iface FPT (.pointer (some ⟨b0, 0, none⟩))] 139)).setRow w.heap.size (stZ 0)) := (bthen (bthen (unhide H2).1 hb3) bar).trans (z2.below (Nat.le_refl _) (by have := bar.size; omega))
  have HZ := hide (And.intro z1 (And.intro (hn0 0 _ (by simp; rfl)) (And.intro (hn0 1 _ (by simp; rfl)) (And.intro (hn0 2 _ (by simp; rfl)) (And.intro hsay hold)))))
  have HS4 := hide hst4
  have HN := hide hn
  obtain ⟨ua, uc, hus⟩ := hu.tks.shape
  subst hus
  clear hu hg hg' hn hb3 HLN bar hst3 hst4 z1 z2 hn0 hsay hold
  go_wp2_with (refine wpList_storeRow rfl _ _ rfl _ _ _ rfl rfl (unhide HS4) rfl (by kernel_rfl) ?_)
  exact bodyPost_ret (res_st rfl _ _ w.heap.size (stZ 0) rfl (unhide HZ).1 (.iface FPT (.pointer (some ⟨w3.heap.size, 0, none⟩))) rfl) rfl ⟨w3.heap.size, _, err, unhide HN, by omega, rfl, (unhide HZ).2.1, (unhide HZ).2.2.1, (unhide HZ).2.2.2.1, (unhide HZ).2.2.2.2.1, (unhide HZ).2.2.2.2.2⟩
end Go.Proofs.YthkbchefjagbbaaGreatDoor.Line
