/- The contract of the reference's reader: subs.
   The contract of the law's Of: the project's tree as the reference's. -/
import Derived.Test.YtepnafnljfjeoaaGreatDoorExRd
import Derived.Test.YtepnafnljfjeoaaGreatDoorExMem
import Derived.Deep.RegionLaw
namespace Go.Proofs.YtepnafnljfjeoaaGreatDoor.Line
open Go.ChangeShapes Go.WideShapes Go.ChangeAt Go.RowKit
open Ex (E St)
set_option linter.unusedVariables false

theorem infoRE : (Tryz.prog.info? ET).map (fun i => (i.zero, i.size, i.bytes)) = some (some (.agg #[.int .i64 0, .int .i64 0, .string ⟨#[]⟩, .slice none 0 0]), 4, 56) := by kernel_rfl
abbrev ETS : TypeId := 28
/-- an append of trees in a plain region, by its run -/
theorem wpList_append_runE {ops : Array Oper} {rest : List Oper} {o : Oper} {a : Act} {w : World} {Q : Exit → Act → World → Prop} (hgd : o.guard = none) (s x : Operand)
    (ho : o.op = .call { callee := .builtin .append, args := #[s, x], argTypes := #[ETS, ETS] }) (hty : o.type = ETS) (sv xv : Value) (hs : a.eval s = sv) (hx : a.eval x = xv) (v' : Value) (w' : World)
    (hr : (Builtin.append_ #[ETS, ETS] ETS #[sv, xv]).run Tryz.prog w = .ok v' w') (h : wpList Tryz.prog ops Q rest (a.put o.dst v') w') : wpList Tryz.prog ops Q (o :: rest) a w := by
  refine wpList_plain hgd fun K hK => ?_
  unfold Oper.wp execOp
  simp only [ho, hty, resolve, invoke, builtin, Sem.run_bind, Sem.run_pure, Result.andThen_ok, List.map_toArray, List.map_cons, List.map_nil, hs, hx, hr]
  exact hK _ _ h
def ReadsL (T : List Words.T) (L : Value) (fn : FuncId) (n : Nat) : Prop :=
  ∀ (w : World) (S : Nat → Prop) (rb d : Nat) (s : St), Rdr w S wExpr rb L s → Tks w L T → (∀ p, L.ownBlock = some p → p < w.heap.size ∧ p ≠ rb) → ¬ S rb → (∀ b, w.heap.size ≤ b → S b) → s.pos ≤ T.length → T.length - s.pos ≤ n → d ≤ 20 →
    Calls Tryz.prog fn #[.pointer (some ⟨rb, 0, none⟩), .int .i64 d] w fun e w' => ∃ xs s' v, e = .returned v ∧ Ex.RSubs T d s (xs, s') ∧ Forest w' (fun b => w.heap.size ≤ b) xs v ∧ Rdr w' S wExpr rb L s' ∧ But rb w w' ∧ s'.pos ≤ T.length ∧ s.pos ≤ s'.pos
/-- in the midst of subscripts -/
structure MidL (T : List Words.T) (L : Value) (w : World) (S : Nat → Prop) (rb : Nat) (wr : World) (l : List (E × Value)) (s : St) (v : Value) : Prop where
  own : OwnF ET w.heap.size wr (fun b => w.heap.size ≤ b) v l
  rdr : Rdr wr (fun b => S b ∧ some b ≠ v.ownBlock) wExpr rb L s
  tks : Tks wr L T
  but : But rb w wr
  rbl : rb < w.heap.size
theorem MidL.step {T : List Words.T} {L : Value} {w : World} {S : Nat → Prop} {rb : Nat} {wr w3 : World} {l : List (E × Value)} {s s3 : St} {v : Value} (h : MidL T L w S rb wr l s v) (hL : L.ownBlock ≠ some rb) (hb : But rb wr w3) (hR : Rdr w3 (fun b => S b ∧ some b ≠ v.ownBlock) wExpr rb L s3) : MidL T L w S rb w3 l s3 v := by
  have h2 := h.rbl
  exact ⟨h.own.but hb (fun b hs => by omega) (fun e => by have := (h.own.row.lt rb e).1; omega), hR, h.tks.but hb hL, h.but.trans hb, h2⟩
theorem MidL.done {T : List Words.T} {L : Value} {w : World} {S : Nat → Prop} {rb : Nat} {wr : World} {l : List (E × Value)} {s : St} {v : Value} (h : MidL T L w S rb wr l s v) : Forest wr (fun b => w.heap.size ≤ b) (l.map (·.1)) v ∧ Rdr wr S wExpr rb L s ∧ But rb w wr :=
  ⟨h.own.forest (fun k hk => (h.own.row.lt k hk).1), h.rdr.mono (fun b hs _ => hs.1), h.but⟩
theorem MidL.more {T : List Words.T} {L : Value} {w : World} {S : Nat → Prop} {rb : Nat} {wr : World} {l : List (E × Value)} {s : St} {v : Value} (h : MidL T L w S rb wr l s v) (hL : ∀ p, L.ownBlock = some p → p < w.heap.size ∧ p ≠ rb) {x : E} {sx : Value} {B : Nat} (hx : Forest wr (fun b => B ≤ b) x.a sx) (hB : w.heap.size ≤ B) (hv : ∀ k, v.ownBlock = some k → k < B) (hl : l.length + 1 ≤ 1000000) :
    ∃ v' w', (Builtin.append_ #[ETS, ETS] ETS #[v, .slice (some ⟨wr.heap.size, 0, none⟩) 1 1]).run Tryz.prog (wr.alloc (.cells #[.int .i64 x.kind, .int .i64 x.n, .string ⟨x.name.toArray⟩, sx] ET)) = .ok v' w' ∧ MidL T L w S rb w' (l ++ [(x, sx)]) s v' := by
  have hsz := h.but.size
  obtain ⟨v', w', hr, ho, hg, hat⟩ := append_tree infoRE Tryz.underlying28 h.own (hx.mono (S' := fun b => w.heap.size ≤ b ∧ some b ≠ v.ownBlock) (fun b hs _ => ⟨by omega, fun e => by have := hv b e.symm; omega⟩)) hsz hl
  have hz : (wr.alloc (.cells #[.int .i64 x.kind, .int .i64 x.n, .string ⟨x.name.toArray⟩, sx] ET)).heap.size = wr.heap.size + 1 := by simp
  have hkeep : ∀ b, b < wr.heap.size → some b ≠ v.ownBlock → w'.heap[b]? = wr.heap[b]? := fun b hb hne => (hg.block b (by omega) hne).trans ((alloc_below wr _).block b hb)
  have hown : ∀ k, v.ownBlock = some k → w.heap.size ≤ k := fun k hk => (h.own.row.lt k hk).1
  refine ⟨v', w', hr, ho, ?_, ?_, ?_, h.rbl⟩
  · refine h.rdr.keep (hkeep rb h.rdr.lt (fun e => by have := hown rb e.symm; have := h.rbl; omega)) (by have := hg.size; omega) (fun b hs hl => hkeep b hl hs.2) (fun b hs hl => ⟨hs.1, ?_⟩)
    rcases hat with e | e
    · rw [e]; exact hs.2
    · rw [e]; intro e2; injection e2 with e2; omega
  · rcases h.tks with h4 | ⟨b, off, cap, rfl, hc, h4⟩
    · exact .inl h4
    · refine .inr ⟨b, off, cap, rfl, hc, fun i hi => ?_⟩
      obtain ⟨e0, e1, e2, e3⟩ := h4 i hi
      have hbl := (hL b rfl).1
      have hh := hkeep b (by omega) (fun e => by have := hown b e.symm; omega)
      exact ⟨(World.cell?_of_block (a := ⟨b, off + i * 4, none⟩) hh).trans e0, (World.cell?_of_block (a := ⟨b, off + i * 4 + 1, none⟩) hh).trans e1, (World.cell?_of_block (a := ⟨b, off + i * 4 + 2, none⟩) hh).trans e2, (World.cell?_of_block (a := ⟨b, off + i * 4 + 3, none⟩) hh).trans e3⟩
  · exact ⟨hg.os.trans h.but.os, hg.tape.trans h.but.tape, hg.output.trans h.but.output, by have := hg.size; omega, fun k hk hne => (hkeep k (by omega) (fun e => by have := hown k e.symm; omega)).trans (h.but.block k hk hne)⟩

set_option maxHeartbeats 8000000 in
set_option maxRecDepth 100000 in
theorem rdSubs_of (T : List Words.T) (L : Value) (hl : T.length ≤ 1000000) (n : Nat) (HF : Reads T L 39 Ex.RExpr n) : ReadsL T L 91 n := by
  intro w S rb d s0 hR hT hL hS hN hp hn hd
  have hrb := hR.lt
  have HC := hide (HF w S rb d s0 hR hT hL hS hN hp hn hd)
  have HFF := hide HF
  have H4 := hide (And.intro hT (And.intro hN (And.intro hL hS)))
  clear HF hR hT hN hL hS
  go_enter Tryz.func91, Tryz.ntmps91
  go_wp2_with fail
  refine (unhide HC).mono ?_
  rintro ev w1 ⟨x, s1, sl, rfl, hr1, hf1, hR1, hb1, hp1, hp2⟩
  obtain ⟨la, lc, hsl⟩ := hf1.shape
  generalize hln : x.a.length = ln at hsl
  subst hsl
  clear hln
  have HM : Hid (MidL T L w S rb (w1.alloc (.cells #[.int .i64 x.kind, .int .i64 x.n, .string ⟨x.name.toArray⟩, .slice la ln lc] ET)) [(x, .slice la ln lc)] s1 (.slice (some ⟨w1.heap.size, 0, none⟩) 1 1)) := hide (by
    have hsz := hb1.size
    refine ⟨ownF_one hf1 hsz, (hR1.mono (S' := fun b => S b ∧ some b ≠ Value.ownBlock (.slice (some ⟨w1.heap.size, 0, none⟩) 1 1)) (fun b hs hl => ⟨hs, fun e => by simp [Value.ownBlock] at e; omega⟩)).below (alloc_below _ _), ((unhide H4).1.but hb1 (fun h => ((unhide H4).2.2.1 rb h).2 rfl)).below (alloc_below _ _), hb1.alloc _, hrb⟩)
  have HRR : Hid (∀ r, Ex.RMore T d [x] s1 r → Ex.RSubs T d s0 r) := hide (fun r h => Ex.rSubs hr1 h)
  have HLR : Hid (L.ownBlock ≠ some rb) := hide (fun h => ((unhide H4).2.2.1 rb h).2 rfl)
  clear hr1 hf1 hR1 hb1 HC
  go_wp2_with fail
  generalize w1.alloc (.cells #[.int .i64 x.kind, .int .i64 x.n, .string ⟨x.name.toArray⟩, .slice la ln lc] ET) = W1 at *
  generalize hv1 : Value.slice (some ⟨w1.heap.size, 0, none⟩) 1 1 = v1 at *
  clear hv1
  go_loopw [5] (fun v wr => ∃ (l : List (E × Value)) (s : St), s.pos ≤ T.length ∧ s1.pos ≤ s.pos ∧ l.length ≤ 4 ∧ Hid (MidL T L w S rb wr l s v) ∧ Hid (∀ r, Ex.RMore T d (l.map (·.1)) s r → Ex.RSubs T d s0 r)) (fun _ wr => T.length - posOf rb wr)
  case atStart => exact ⟨[(x, _)], s1, hp1, Nat.le_refl _, by simp, HM, HRR⟩
  case round =>
    obtain ⟨l, s, hps, hps2, hl4, HMM, HRS⟩ := hrel
    obtain ⟨va, vc, hsl⟩ := (unhide HMM).own.shape
    subst hsl
    have HT1 := hide (rdSign_any T L wr (fun b => S b ∧ some b ≠ Value.ownBlock (.slice va l.length vc)) rb s [44] (unhide HMM).rdr (unhide HMM).tks hl)
    cases hc1 : Ex.isSign T s [44]
    · rw [hc1] at HT1
      have HC1 := hide hc1
      clear hc1
      go_wp2_with fail
      refine (unhide HT1).mono ?_
      rintro ev w2 ⟨rfl, n2, rfl⟩
      have hM2 : MidL T L w S rb (wr.drewN n2) l s (.slice va l.length vc) := (unhide HMM).step (unhide HLR) ((but_refl _ _).drewN n2) ((unhide HMM).rdr.drewN n2)
      have HT2 := hide (rdTook_any T L (wr.drewN n2) (fun b => S b ∧ some b ≠ Value.ownBlock (.slice va l.length vc)) rb s [41] hM2.rdr hM2.tks hl (fun h => (unhide H4).2.2.2 h.1))
      have HM2 := hide hM2
      clear hM2 HT1
      cases hc2 : Ex.isSign T s [41]
      · rw [hc2] at HT2
        have HC2 := hide hc2
        clear hc2
        go_wp2_with fail
        refine (unhide HT2).mono ?_
        rintro ev w3 ⟨rfl, hR3, hb3, hz3⟩
        have hM3 : MidL T L w S rb w3 l s (.slice va l.length vc) := (unhide HM2).step (unhide HLR) hb3 hR3
        have HM3 := hide hM3
        have g1 := hM3.rdr.pos
        have HFA := hide (rdFail_any L w3 (fun b => S b ∧ some b ≠ Value.ownBlock (.slice va l.length vc)) rb s s.pos 2 hM3.rdr (fun h => (unhide H4).2.2.2 h.1) (fun b hb => ⟨(unhide H4).2.1 b (by have := hM3.but.size; omega), fun e => by have := (hM3.own.row.lt b e.symm).2; omega⟩) (by decide))
        clear hR3 hb3 hM3 HT2
        go_wp2_with fail
        refine (unhide HFA).mono ?_
        rintro ev w4 ⟨rfl, hR4, hb4⟩
        have hM4 : MidL T L w S rb w4 l (s.fail s.pos 2) (.slice va l.length vc) := (unhide HM3).step (unhide HLR) hb4 hR4
        have HM4 := hide hM4
        have hfp : (s.fail s.pos 2).pos = s.pos := by unfold St.fail; split <;> rfl
        have HRE : Hid (Ex.RSubs T d s0 (l.map (·.1), s.fail s.pos 2)) := hide (unhide HRS _ (by have := Ex.rMore_end (d := d) (xs := l.map (·.1)) (unhide HC1); rw [unhide HC2] at this; simpa using this))
        clear hR4 hb4 hM4 HFA
        go_wp2
        go_ret
        obtain ⟨r1, r2, r3⟩ := (unhide HM4).done
        exact ⟨_, _, _, rfl, unhide HRE, r1, r2, r3, by omega, by omega⟩
      · have hlt : s.pos < T.length := by
          rcases Nat.lt_or_ge s.pos T.length with h1 | h1
          · exact h1
          · rw [isSign_out (by omega)] at hc2; cases hc2
        rw [hc2] at HT2
        have HC2 := hide hc2
        clear hc2
        go_wp2_with fail
        refine (unhide HT2).mono ?_
        rintro ev w3 ⟨rfl, hR3, hb3, hz3⟩
        have hM3 : MidL T L w S rb w3 l s.next (.slice va l.length vc) := (unhide HM2).step (unhide HLR) hb3 hR3
        have HM3 := hide hM3
        have HRE : Hid (Ex.RSubs T d s0 (l.map (·.1), s.next)) := hide (unhide HRS _ (by have := Ex.rMore_end (d := d) (xs := l.map (·.1)) (unhide HC1); rw [unhide HC2] at this; simpa using this))
        have hfp : s.next.pos = s.pos + 1 := rfl
        clear hR3 hb3 hM3 HT2
        go_wp2
        go_ret
        obtain ⟨r1, r2, r3⟩ := (unhide HM3).done
        exact ⟨_, _, _, rfl, unhide HRE, r1, r2, r3, by omega, by omega⟩
    · have hlt : s.pos < T.length := by
        rcases Nat.lt_or_ge s.pos T.length with h1 | h1
        · exact h1
        · rw [isSign_out (by omega)] at hc1; cases hc1
      rw [hc1] at HT1
      have HC1 := hide hc1
      clear hc1
      go_wp2_with fail
      refine (unhide HT1).mono ?_
      rintro ev w2 ⟨rfl, n2, rfl⟩
      have hM2 : MidL T L w S rb (wr.drewN n2) l s (.slice va l.length vc) := (unhide HMM).step (unhide HLR) ((but_refl _ _).drewN n2) ((unhide HMM).rdr.drewN n2)
      have HM2 := hide hM2
      have g1 := hM2.rdr.pos
      have g2 := hM2.rdr.fr.2.1
      have HPW := hide (unhide HMM).rdr.posOf
      by_cases h4 : 4 ≤ l.length
      · have q1 : decide (4 ≤ l.length) = true := decide_eq_true h4
        have HFA := hide (rdFail_any L (wr.drewN n2) (fun b => S b ∧ some b ≠ Value.ownBlock (.slice va l.length vc)) rb s s.pos 4 hM2.rdr (fun h => (unhide H4).2.2.2 h.1) (fun b hb => ⟨(unhide H4).2.1 b (by have := hM2.but.size; omega), fun e => by have := (hM2.own.row.lt b e.symm).2; omega⟩) (by decide))
        have HRE : Hid (Ex.RSubs T d s0 (l.map (·.1), s.fail s.pos 4)) := hide (unhide HRS _ (Ex.rMore_long (unhide HC1) (by rw [List.length_map]; exact h4)))
        clear hM2 HT1
        go_wp2_with fail
        refine (unhide HFA).mono ?_
        rintro ev w4 ⟨rfl, hR4, hb4⟩
        have hM4 : MidL T L w S rb w4 l (s.fail s.pos 4) (.slice va l.length vc) := (unhide HM2).step (unhide HLR) hb4 hR4
        have HM4 := hide hM4
        have hfp : (s.fail s.pos 4).pos = s.pos := by unfold St.fail; split <;> rfl
        clear hR4 hb4 hM4 HFA
        go_wp2
        go_ret
        obtain ⟨r1, r2, r3⟩ := (unhide HM4).done
        exact ⟨_, _, _, rfl, unhide HRE, r1, r2, r3, by omega, by omega⟩
      · have q1 : decide (4 ≤ l.length) = false := decide_eq_false h4
        have hM3 : MidL T L w S rb ((wr.drewN n2).setCell ⟨rb, 1, none⟩ (.int .i64 ((s.pos + 1 : Nat) : Int))) l s.next (.slice va l.length vc) := hM2.step (unhide HLR) (But.set (p := ⟨rb, 1, none⟩) (but_refl _ _) (.inr rfl) _) (hM2.rdr.next (fun h => (unhide H4).2.2.2 h.1))
        have HM3 := hide hM3
        have hsp : s.pos ≤ 1000000 := by omega
        have HFC := hide (unhide HFF ((wr.drewN n2).setCell ⟨rb, 1, none⟩ (.int .i64 ((s.pos + 1 : Nat) : Int))) (fun b => S b ∧ some b ≠ Value.ownBlock (.slice va l.length vc)) rb d s.next hM3.rdr hM3.tks (fun p h => ⟨by have := ((unhide H4).2.2.1 p h).1; have := hM3.but.size; omega, ((unhide H4).2.2.1 p h).2⟩) (fun h => (unhide H4).2.2.2 h.1) (fun b hb => ⟨(unhide H4).2.1 b (by have := hM3.but.size; omega), fun e => by have := (hM3.own.row.lt b e.symm).2; omega⟩) (by show s.pos + 1 ≤ T.length; omega) (by show T.length - (s.pos + 1) ≤ n; omega) hd)
        clear hM2 hM3 HT1
        go_wp2_with fail
        refine (unhide HFC).mono ?_
        rintro ev w5 ⟨x5, s5, sl5, rfl, hr5, hf5, hR5, hb5, hp5, hp6⟩
        obtain ⟨la5, lc5, hsl⟩ := hf5.shape
        generalize hln : x5.a.length = ln5 at hsl
        subst hsl
        clear hln
        have hM5 : MidL T L w S rb w5 l s5 (.slice va l.length vc) := (unhide HM3).step (unhide HLR) hb5 hR5
        obtain ⟨v9, w9, hr9, hM9⟩ := hM5.more (unhide H4).2.2.1 hf5 (unhide HM3).but.size (fun k hk => ((unhide HM3).own.row.lt k hk).2) (by omega)
        have HM9 := hide hM9
        have HPO := hide hM9.rdr.posOf
        have HRN : Hid (∀ r, Ex.RMore T d ((l ++ [(x5, Value.slice la5 ln5 lc5)]).map (·.1)) s5 r → Ex.RSubs T d s0 r) := hide (fun r h => unhide HRS r (Ex.rMore_more (unhide HC1) (by rw [List.length_map]; exact h4) hr5 (by simpa using h)))
        have hfp : s.next.pos = s.pos + 1 := rfl
        clear hr5 hf5 hR5 hb5 hM5 hM9 HFC
        go_wp2_with (at_builtin; refine wpList_append_runE rfl _ _ rfl rfl _ _ rfl rfl v9 w9 hr9 ?_)
        go_roundw
        case rel => exact ⟨_, s5, hp5, by omega, by rw [List.length_append, List.length_singleton]; omega, HM9, HRN⟩
        case measure => rw [unhide HPO, unhide HPW]; omega
end Go.Proofs.YtepnafnljfjeoaaGreatDoor.Line

namespace Go.Proofs.YtepnafnljfjeoaaGreatDoor.Line
open Go.ChangeShapes Go.WideShapes Go.ChangeAt Go.RowKit
open Ex (E St)
set_option linter.unusedVariables false

abbrev PET : TypeId := 24
/-- an append at a step of a region that draws, by its run -/
theorem step_append_runE {ops : Array Oper} {o : Oper} {a : Act} {w : World} {K : Act → World → Prop} {Q : Exit → Act → World → Prop} {P : Prop} (hgd : o.guard = none) (s x : Operand)
    (ho : o.op = .call { callee := .builtin .append, args := #[s, x], argTypes := #[ETS, ETS] }) (hty : o.type = ETS) (sv xv : Value) (hs : a.eval s = sv) (hx : a.eval x = xv) (v' : Value) (w' : World)
    (hr : (Builtin.append_ #[ETS, ETS] ETS #[sv, xv]).run Tryz.prog w = .ok v' w') (h : K (a.put o.dst v') w') : if Region.wanted o (yielded ops a.tmps) = true then Oper.wp Tryz.prog o a w K Q else P := by
  have hw : Region.wanted o (yielded ops a.tmps) = true := by simp [Region.wanted, hgd]
  rw [if_pos hw]
  unfold Oper.wp execOp
  simp only [ho, hty, resolve, invoke, builtin, Sem.run_bind, Sem.run_pure, Result.andThen_ok, List.map_toArray, List.map_cons, List.map_nil, hs, hx, hr]
  exact h
/-- in the midst of Of -/
structure MidO (w : World) (S : Nat → Prop) (x : E) (sx : Value) (wr : World) (i : Nat) (v : Value) (l : List (E × Value)) : Prop where
  box1 : Box wr w.heap.size x sx
  box2 : Box wr (w.heap.size + 1) E.none (.slice none 0 0)
  box3 : Box wr (w.heap.size + 2) x v
  own : OwnF ET (w.heap.size + 3) wr (fun b => w.heap.size + 3 ≤ b) v l
  row : l.map (·.1) = x.a.take i
  old : Below w.heap.size w wr
  sz : w.heap.size + 3 ≤ wr.heap.size
theorem MidO.step {w : World} {S : Nat → Prop} {x : E} {sx : Value} {wr w' : World} {i : Nat} {v : Value} {l : List (E × Value)} (h : MidO w S x sx wr i v l) (hb : Below wr.heap.size wr w') : MidO w S x sx w' i v l :=
  ⟨h.box1.keep (hb.block _ h.box1.lt) hb.size, h.box2.keep (hb.block _ h.box2.lt) hb.size, h.box3.keep (hb.block _ h.box3.lt) hb.size, h.own.old hb, h.row, bthen h.old hb, by have := hb.size; have := h.sz; omega⟩
theorem box_set3 {w : World} {p : Nat} {x : E} {sl : Value} (h : Box w p x sl) (sm : Value) : Box (w.setCell ⟨p, 3, none⟩ sm) p x sm := by
  obtain ⟨c0, c1, c2, c3, f0, f1, f2, f3, hl⟩ := h
  refine ⟨by simp [go_sem, c0], by simp [go_sem, c1], by simp [go_sem, c2], by simp [go_sem, c3], by simp [go_sem, f0], by simp [go_sem, f1], by simp [go_sem, f2], by simp [go_sem, f3], by simp [World.setCell]; omega⟩
theorem MidO.more {w : World} {S : Nat → Prop} {x : E} {sx : Value} {wr : World} {i : Nat} {v : Value} {l : List (E × Value)} (h : MidO w S x sx wr i v l) (hi : i < x.a.length) (hl : x.a.length ≤ 1000) {sy : Value} {B : Nat} (hy : Forest wr (fun b => B ≤ b) x.a[i].a sy) (hB : w.heap.size + 3 ≤ B) (hv : ∀ k, v.ownBlock = some k → k < B) :
    ∃ v' w', (Builtin.append_ #[ETS, ETS] ETS #[v, .slice (some ⟨wr.heap.size, 0, none⟩) 1 1]).run Tryz.prog (wr.alloc (.cells #[.int .i64 x.a[i].kind, .int .i64 x.a[i].n, .string ⟨x.a[i].name.toArray⟩, sy] ET)) = .ok v' w' ∧ (w'.cell? ⟨w.heap.size + 2, 3, none⟩ = some v ∧ w'.frozen? ⟨w.heap.size + 2, 3, none⟩ = false) ∧ MidO w S x sx (w'.setCell ⟨w.heap.size + 2, 3, none⟩ v') (i + 1) v' (l ++ [(x.a[i], sy)]) ∧ ∃ a n c, v' = .slice a n c := by
  have hsz := h.sz
  have hll : l.length = i := by have := congrArg List.length h.row; rw [List.length_map, List.length_take] at this; omega
  obtain ⟨v', w', hr, ho, hg, hat⟩ := append_tree infoRE Tryz.underlying28 h.own (hy.mono (S' := fun b => w.heap.size + 3 ≤ b ∧ some b ≠ v.ownBlock) (fun b hs _ => ⟨by omega, fun e => by have := hv b e.symm; omega⟩)) hsz (by omega)
  have hown : ∀ k, v.ownBlock = some k → w.heap.size + 3 ≤ k := fun k hk => (h.own.row.lt k hk).1
  have hkeep : ∀ b, b < w.heap.size + 3 → w'.heap[b]? = wr.heap[b]? := fun b hb => (hg.block b (by simp; omega) (fun e => by have := hown b e.symm; omega)).trans ((alloc_below wr _).block b (by omega))
  have hz' : wr.heap.size ≤ w'.heap.size := by have := hg.size; simp at this; omega
  have hb3 := h.box3.keep (hkeep _ (by omega)) hz'
  have hset : ∀ b, b ≠ w.heap.size + 2 → (w'.setCell ⟨w.heap.size + 2, 3, none⟩ v').heap[b]? = w'.heap[b]? := fun b hb => Below.heap_setCell _ _ _ _ hb
  have hzs : (w'.setCell ⟨w.heap.size + 2, 3, none⟩ v').heap.size = w'.heap.size := by simp [World.setCell]
  obtain ⟨va, vc, hva⟩ := ho.shape
  refine ⟨v', w', hr, ⟨hb3.c3, hb3.f3⟩, ⟨?_, ?_, box_set3 hb3 v', ?_, ?_, ?_, by omega⟩, ⟨va, _, vc, hva⟩⟩
  · exact (h.box1.keep (hkeep _ (by omega)) hz').keep (hset _ (by omega)) (by omega)
  · exact (h.box2.keep (hkeep _ (by omega)) hz').keep (hset _ (by omega)) (by omega)
  · exact ho.keep (fun k hk => hset k (by have := (ho.row.lt k hk).1; omega)) (fun b hs _ => hset b (by omega)) (fun _ h _ => h)
  · rw [List.map_append, h.row, List.take_succ_eq_append_getElem hi]; rfl
  · refine ⟨hg.os.trans h.old.os, hg.tape.trans h.old.tape, hg.output.trans h.old.output, by have := h.old.size; omega, fun k hk => ?_⟩
    exact ((hset k (by omega)).trans (hkeep k (by omega))).trans (h.old.block k hk)
set_option maxHeartbeats 8000000 in
set_option maxRecDepth 100000 in
theorem of_any : ∀ (x : E) (w : World) (S : Nat → Prop) (sx : Value), Forest w S x.a sx → Ex.Sm x → Calls Tryz.prog 7 #[treeV x sx] w fun e w' => ∃ sy, e = .returned (treeV x sy) ∧ Forest w' (fun b => w.heap.size ≤ b) x.a sy ∧ Below w.heap.size w w' := by
  refine E.ind _ ?_
  intro x ih w S sx hx hsm
  have hln := hsm.len
  obtain ⟨xa, xc, hsx⟩ := hx.shape
  have b1 := alloc_below w (.cells #[.int .i64 x.kind, .int .i64 x.n, .string ⟨x.name.toArray⟩, sx] PET)
  have b2 := alloc_below (w.alloc (.cells #[.int .i64 x.kind, .int .i64 x.n, .string ⟨x.name.toArray⟩, sx] PET)) (.cells zeroE ET)
  have b3 := alloc_below ((w.alloc (.cells #[.int .i64 x.kind, .int .i64 x.n, .string ⟨x.name.toArray⟩, sx] PET)).alloc (.cells zeroE ET)) (.cells #[.int .i64 x.kind, .int .i64 x.n, .string ⟨x.name.toArray⟩, .slice none 0 0] ET)
  have z1 : (w.alloc (.cells #[.int .i64 x.kind, .int .i64 x.n, .string ⟨x.name.toArray⟩, sx] PET)).heap.size = w.heap.size + 1 := by simp
  have z2 : ((w.alloc (.cells #[.int .i64 x.kind, .int .i64 x.n, .string ⟨x.name.toArray⟩, sx] PET)).alloc (.cells zeroE ET)).heap.size = w.heap.size + 2 := by simp
  have HM : Hid (MidO w S x sx (((w.alloc (.cells #[.int .i64 x.kind, .int .i64 x.n, .string ⟨x.name.toArray⟩, sx] PET)).alloc (.cells zeroE ET)).alloc (.cells #[.int .i64 x.kind, .int .i64 x.n, .string ⟨x.name.toArray⟩, .slice none 0 0] ET)) 0 (.slice none 0 0) []) := hide (by
    have k1 := ((box_new w x sx PET).keep (b2.block _ (by omega)) b2.size).keep (b3.block _ (by omega)) b3.size
    have k2 := box_new (w.alloc (.cells #[.int .i64 x.kind, .int .i64 x.n, .string ⟨x.name.toArray⟩, sx] PET)) E.none (.slice none 0 0) ET
    rw [z1] at k2
    have k3 := box_new ((w.alloc (.cells #[.int .i64 x.kind, .int .i64 x.n, .string ⟨x.name.toArray⟩, sx] PET)).alloc (.cells zeroE ET)) x (.slice none 0 0) ET
    rw [z2] at k3
    exact ⟨k1, k2.keep (b3.block _ (by omega)) b3.size, k3, OwnF.nil _ _ _ _, by simp, bthen (bthen b1 b2) b3, by simp⟩)
  have HX := hide hx
  have IH := hide ih
  have HSM := hide hsm
  generalize hn : x.a.length = n at *
  subst hsx
  have HN := hide hn
  clear b1 b2 b3 z1 z2 hx ih hsm hn
  go_enter Tryz.func7, Tryz.ntmps7
  go_wp2_with fail
  generalize (((w.alloc (.cells #[.int .i64 x.kind, .int .i64 x.n, .string ⟨x.name.toArray⟩, .slice xa n xc] PET)).alloc (.cells zeroE ET)).alloc (.cells #[.int .i64 x.kind, .int .i64 x.n, .string ⟨x.name.toArray⟩, .slice none 0 0] ET)) = W3 at *
  go_loopw [4] (fun q wr => ∃ (i : Nat) (v : Value) (l : List (E × Value)), i ≤ n ∧ q = .int .i64 i ∧ Hid (MidO w S x (.slice xa n xc) wr i v l)) (fun q _ => n - (intOf q).toNat)
  case atStart => exact ⟨0, _, _, Nat.zero_le _, rfl, HM⟩
  case round =>
    obtain ⟨i, v, l, hi, rfl, HMM⟩ := hrel
    obtain ⟨a0, a1, a2, a3, -, -, -, -, -⟩ := (unhide HMM).box1
    obtain ⟨c0, c1, c2, c3, f0, f1, f2, f3, hg3⟩ := (unhide HMM).box3
    by_cases hlt : i < n
    · have hlt' : i < x.a.length := by rw [unhide HN]; exact hlt
      obtain ⟨bx, ox, cx, fx, hvx, hcx, hmx, hcellx, hforx⟩ := ((unhide HX).old (unhide HMM).old).at (by omega)
      injection hvx with hvx1 hvx2 hvx3
      subst hvx1
      obtain ⟨d0, d1, d2, d3⟩ := hcellx i hlt'
      have hsx := hforx i hlt'
      obtain ⟨ua, uc, hua⟩ := hsx.shape
      have HCA : Hid (∀ m, Calls Tryz.prog 7 #[treeV (x.a[i]) (fx i)] (wr.drewN m) fun e w' => ∃ sy, e = .returned (treeV (x.a[i]) sy) ∧ Forest w' (fun b => wr.heap.size ≤ b) (x.a[i]).a sy ∧ Below wr.heap.size wr w') := hide (fun m => by
        refine (unhide IH _ (List.getElem_mem hlt') (wr.drewN m) S (fx i) (hsx.old (below_drewN (Below.refl _ _) m)) ((unhide HSM).part _ (List.getElem_mem hlt'))).mono ?_
        rintro e w' ⟨sy, h1, h2, h3⟩
        exact ⟨sy, h1, h2, (below_drewN (Below.refl _ _) m).trans h3⟩)
      rw [hua] at d3 HCA
      obtain ⟨va, vc, hva⟩ := (unhide HMM).own.shape
      generalize hll : l.length = ll at hva
      subst hva
      have HMO : Hid (∀ w5 sy, Forest w5 (fun b => wr.heap.size ≤ b) x.a[i].a sy → Below wr.heap.size wr w5 → ∃ v' w', (Builtin.append_ #[ETS, ETS] ETS #[.slice va ll vc, .slice (some ⟨w5.heap.size, 0, none⟩) 1 1]).run Tryz.prog (w5.alloc (.cells #[.int .i64 x.a[i].kind, .int .i64 x.a[i].n, .string ⟨x.a[i].name.toArray⟩, sy] ET)) = .ok v' w' ∧ (w'.cell? ⟨w.heap.size + 2, 3, none⟩ = some (.slice va ll vc) ∧ w'.frozen? ⟨w.heap.size + 2, 3, none⟩ = false) ∧ MidO w S x (.slice (some ⟨bx, ox, none⟩) n xc) (w'.setCell ⟨w.heap.size + 2, 3, none⟩ v') (i + 1) v' (l ++ [(x.a[i], sy)]) ∧ ∃ a n c, v' = .slice a n c) := hide (fun w5 sy hf hb => ((unhide HMM).step hb).more hlt' (by rw [unhide HN]; exact hln) hf (unhide HMM).sz (fun k hk => ((unhide HMM).own.row.lt k hk).2))
      clear hcellx hforx hsx hua hvx2 hvx3 hcx hmx hll
      have hlt2 : (i : Int) < n := by omega
      have hp3 : w.heap.size + 2 < wr.heap.size := hg3
      generalize x.a[i].a.length = m2 at *
      go_wp2_with fail
      go_region_law (first
        | (go_simp; go_at_call 7; refine (unhide HCA _).mono ?_; rintro ev w5 ⟨sy, rfl, hf5, hb5⟩; obtain ⟨v9, w9, hr9, ⟨hc9, hf9⟩, hM9, va9, vn9, vc9, hv9⟩ := unhide HMO w5 sy hf5 hb5; obtain ⟨la5, lc5, hsl⟩ := hf5.shape; generalize hln5 : x.a[i].a.length = ln5 at hsl; subst hsl; subst hv9; clear hln5; have k3 := (hb5.cell (p := ⟨w.heap.size + 2, 3, none⟩) hp3).trans c3; have hp5 : w.heap.size + 2 < w5.heap.size := Nat.lt_of_lt_of_le hp3 hb5.size; have k4 : (w5.alloc (.cells #[.int .i64 x.a[i].kind, .int .i64 x.a[i].n, .string ⟨x.a[i].name.toArray⟩, .slice la5 ln5 lc5] ET)).cell? ⟨w.heap.size + 2, 3, none⟩ = some (.slice va ll vc) := ((alloc_below w5 _).cell (p := ⟨w.heap.size + 2, 3, none⟩) hp5).trans k3; have HM9 := hide hM9; have HR9 := hide hr9; clear hf5 hb5 hM9 hr9; dsimp only)
        | (refine step_append_runE rfl _ _ rfl rfl _ _ rfl rfl _ _ (unhide HR9) ?_))
      all_goals (
        go_wp2
        go_roundw
        case rel => exact ⟨i + 1, _, _, by omega, by go_num, HM9⟩
        case measure => simp [intOf]; omega)
    · have q1 : decide (i < n) = false := decide_eq_false hlt
      obtain ⟨e0, e1, e2, e3, z0, z1, z2, z3, hg2⟩ := (unhide HMM).box2
      have HF : Hid (Forest wr (fun b => w.heap.size + 3 ≤ b) x.a v) := hide (by
        have := (unhide HMM).own.forest (fun k hk => ((unhide HMM).own.row.lt k hk).1)
        rwa [(unhide HMM).row, List.take_of_length_le (by have := unhide HN; omega)] at this)
      obtain ⟨va, vc, hva⟩ := (unhide HF).shape
      have hva2 : v = .slice va n vc := by rw [hva, unhide HN]
      clear hva
      subst hva2
      go_wp2
      refine bodyPost_ret (v := treeV x (.slice va n vc)) (by simp [results, Tryz.results7, go_sem, e0, e1, e2, e3]) rfl ⟨_, rfl, ?_, ?_⟩
      · exact (unhide HF).keep (fun b hs _ => heap_set4 _ _ _ _ _ _ _ (by omega)) (fun b hs _ => by omega)
      · have ho := (unhide HMM).old
        exact (((ho.setCell (p := ⟨w.heap.size + 1, 0, none⟩) (Nat.le_succ _) _).setCell (p := ⟨w.heap.size + 1, 1, none⟩) (Nat.le_succ _) _).setCell (p := ⟨w.heap.size + 1, 2, none⟩) (Nat.le_succ _) _).setCell (p := ⟨w.heap.size + 1, 3, none⟩) (Nat.le_succ _) _
end Go.Proofs.YtepnafnljfjeoaaGreatDoor.Line
