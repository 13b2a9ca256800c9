/- The contract of line.Split: the lines in new memory, or the Fault.
   tree.Parse: a text's lines, and what Of makes of them. -/
import Derived.Test.YthkbchefjagbbaaGreatDoorLineAll
import Derived.Test.YthkbchefjagbbaaGreatDoorBaseAll
import Derived.Test.YthkbchefjagbbaaGreatDoorTrEndA
import Derived.Test.YthkbchefjagbbaaGreatDoorWkA
import Derived.Test.YthkbchefjagbbaaGreatDoorAsB
import Derived.BigQuiet
import Derived.Deep.Onto
namespace Go.Proofs.YthkbchefjagbbaaGreatDoor.Line
open Go.ChangeShapes Go.WideShapes Go.ChangeAt Go.RowKit Plain
set_option linter.unusedVariables false

def errVS (n : Nat) : Value := if n = 0 then .nilIface else .iface 147 (.int .i64 n)
set_option maxHeartbeats 400000 in
theorem allowed_any (c : UInt8) (w : World) : Calls Tryz.prog 192 #[.int .u8 (c.toNat : Int)] w fun e w' => e = .returned (.bool (okB c)) ∧ w' = w := by
  have hb : c.toNat < 256 := c.toNat_lt
  generalize hk : okB c = k
  have HK : Hid (okB c = k) := hk
  clear hk
  go_enter Tryz.func192, Tryz.ntmps192
  go_wp2
  all_goals go_ret
  all_goals
    refine ⟨ret_bool ?_, rfl⟩
    have h := HK.out
    rw [← h]
    unfold okB
    rw [Bool.eq_iff_iff]
    simp
    try omega

set_option maxHeartbeats 1000000 in
theorem firstLine_any (l : List UInt8) (w : World) (hl : l.length ≤ 9223372036854775807) : Calls Tryz.prog 160 #[.string ⟨l.toArray⟩] w fun e w' => e = .returned (.int .i64 (fl l : Int)) ∧ w' = w := by
  have h := fl_idx l
  have hle := fl_le l
  obtain ⟨k, hk⟩ : ∃ k, Lib.indexByte l 10 = k := ⟨_, rfl⟩
  rw [hk] at h
  have HK : Hid (Lib.indexByte l 10 = k) := hk
  have hg := Lib.indexByte_ge l 10
  rw [hk] at hg
  clear hk
  have H : Hid ((0 ≤ k → (fl l : Int) = k + 1) ∧ (¬ 0 ≤ k → fl l = l.length)) := h
  clear h
  have hc : (Lib.indexByte (⟨l.toArray⟩ : ByteArray).data.toList (10 : Int).toNat.toUInt8) = k := HK.out
  by_cases h0 : 0 ≤ k
  · have hk2 : k < 9223372036854775807 := by have := H.out.1 h0; omega
    go_enter Tryz.func160, Tryz.ntmps160
    go_wp2_with (go_at_call 97; refine (indexByte_any _ _ _).mono ?_; rintro e w' ⟨rfl, rfl⟩; rw [hc])
    go_ret
    exact ⟨ret_int (H.out.1 h0).symm, rfl⟩
  · go_enter Tryz.func160, Tryz.ntmps160
    go_wp2_with (go_at_call 97; refine (indexByte_any _ _ _).mono ?_; rintro e w' ⟨rfl, rfl⟩; rw [hc])
    go_ret
    exact ⟨ret_int (by have := H.out.2 h0; omega), rfl⟩

set_option maxHeartbeats 1000000 in
theorem check_any (l : List UInt8) (w : World) (hl : l.length ≤ 65536) : Calls Tryz.prog 161 #[.string ⟨l.toArray⟩] w fun e w' => e = .returned (errVS (bad l)) ∧ w' = w := by
  by_cases h : 200 < l.length
  · have hb : errVS (bad l) = .iface 147 (.int .i64 4) := by rw [bad_long l h]; rfl
    rw [hb]
    go_enter Tryz.func161, Tryz.ntmps161
    go_wp2
    go_ret
    exact ⟨rfl, rfl⟩
  · have H0 : Hid (bad l = bad l) := rfl
    go_enter Tryz.func161, Tryz.ntmps161
    go_wp2
    go_loop [10] (fun i => ∃ k : Nat, k ≤ l.length ∧ i = .int .i64 k ∧ ∀ j (hj : j < l.length), j < k → okB l[j] = true) (fun i => l.length - (intOf i).toNat)
    case atStart => exact ⟨0, Nat.zero_le _, rfl, fun j hj h => by omega⟩
    case round =>
      obtain ⟨k, hk, rfl, hok⟩ := hrel
      have HOK : Hid (∀ j (hj : j < l.length), j < k → okB l[j] = true) := hok
      clear hok
      by_cases hlt : k < l.length
      · have hsz : k < (⟨l.toArray⟩ : ByteArray).size := hlt
        cases hb : okB l[k]
        · have hb' : okB ((⟨l.toArray⟩ : ByteArray)[k]'hsz) = false := hb
          have HBAD : Hid (errVS (bad l) = .iface 147 (.int .i64 3)) := by show _ = _; rw [bad_word l h k hlt hb]; rfl
          clear hb
          go_wp2_with (go_at_call 192; refine (allowed_any _ _).mono ?_; rintro e w' ⟨rfl, rfl⟩; rw [hb'])
          go_ret
          exact ⟨ret_val HBAD.out.symm, rfl⟩
        · have hb' : okB ((⟨l.toArray⟩ : ByteArray)[k]'hsz) = true := hb
          have HB : Hid (okB l[k] = true) := hb
          clear hb
          go_wp2_with (go_at_call 192; refine (allowed_any _ _).mono ?_; rintro e w' ⟨rfl, rfl⟩; rw [hb'])
          go_round
          case rel => exact ⟨k + 1, by omega, by go_num, fun j hj hjk => by
            by_cases e : j = k
            · subst e; exact HB.out
            · exact HOK.out j hj (by omega)⟩
          case measure => simp [intOf]; omega
      · have HBAD : Hid (errVS (bad l) = .nilIface) := by show _ = _; rw [bad_none l h (fun j hj => HOK.out j hj (by omega))]; rfl
        go_wp2
        go_ret
        exact ⟨ret_val HBAD.out.symm, rfl⟩

set_option maxHeartbeats 1000000 in
theorem split_long (l : List UInt8) (w : World) (hl : 65536 < l.length) (hm : l.length ≤ 9223372036854775807) : Calls Tryz.prog 116 #[.string ⟨l.toArray⟩] w fun e w' =>
    ∃ v f, e = .returned (.tuple #[v, f]) ∧ Own w.heap.size w' v (rowS l) ∧ Says w.heap.size w' f (wordS l) (atS l) (errS l) ∧ Below w.heap.size w w' := by
  obtain ⟨e1, e2, e3, e4⟩ := errS_long l hl
  rw [e1, e2, e3, e4]
  clear e1 e2 e3 e4
  go_enter Tryz.func116, Tryz.ntmps116
  go_wp2
  go_ret2
  exact ⟨_, _, rfl, Own.nil _ _, .inr ⟨by decide, w.heap.size, Nat.le_refl _, rfl, by simp, by simp, by simp⟩, (Below.refl _ _).alloc (Nat.le_refl _) _⟩

set_option maxHeartbeats 2000000 in
set_option maxRecDepth 100000 in
theorem split_short (l : List UInt8) (w : World) (hl : ¬ 65536 < l.length) : Calls Tryz.prog 116 #[.string ⟨l.toArray⟩] w fun e w' =>
    ∃ v f, e = .returned (.tuple #[v, f]) ∧ Own w.heap.size w' v (rowS l) ∧ Says w.heap.size w' f (wordS l) (atS l) (errS l) ∧ Below w.heap.size w w' := by
  obtain ⟨i0, hi, hz0, hz1, hz2⟩ := info_parts info9
  go_enter Tryz.func116, Tryz.ntmps116
  go_wp2
  go_loopw [0, 4] (fun s v wr => ∃ (ds : List (List UInt8)) (r : List UInt8), s = .string ⟨r.toArray⟩ ∧ r.length ≤ l.length ∧ ds.length + r.length ≤ l.length ∧ Hid (lines l = ds ++ lines r) ∧ Hid (∀ d ∈ ds, bad d = 0) ∧ Own w.heap.size wr v ds ∧ Below w.heap.size w wr)
    (fun s _ _ => strLen s)
  case atStart => exact ⟨[], l, rfl, Nat.le_refl _, by simp, hide rfl, hide (fun d hd => by simp at hd), Own.nil _ _, Below.refl _ _⟩
  case round =>
    obtain ⟨ds, r, rfl, hrl, hdl, HL, HD, hown, hnx⟩ := hrel
    by_cases hr : r = []
    · subst hr
      have HF := hide (errS_ok l hl (by rw [HL.out, lines_nil, List.append_nil]; exact HD.out))
      have HF2 : Hid (rowS l = ds) := by show _ = _; rw [(unhide HF).2, HL.out, lines_nil, List.append_nil]
      go_wp2
      go_ret2
      exact ⟨_, _, rfl, by rw [HF2.out]; exact hown, .inl ⟨(unhide HF).1, rfl⟩, hnx⟩
    · have hne : (!r.isEmpty) = true := by simpa using hr
      have hp := fl_pos r hr
      have hle := fl_le r
      have hst := lines_step r hr
      have hcon := fun w => firstLine_any r w (by omega)
      generalize hnn : fl r = n at *
      clear hnn
      have HC := hide hcon
      clear hcon hr
      obtain ⟨c, hc⟩ : ∃ c, c = r.take n := ⟨_, rfl⟩
      obtain ⟨q, hq⟩ : ∃ q, q = r.drop n := ⟨_, rfl⟩
      have hx1 : (⟨r.toArray⟩ : ByteArray).extract 0 n = ⟨c.toArray⟩ := by rw [ext_front, hc]
      have hx2 : (⟨r.toArray⟩ : ByteArray).extract n r.length = ⟨q.toArray⟩ := by rw [ext_end, hq]
      have hcl : c.length ≤ 65536 := by rw [hc]; simp; omega
      have HQ : Hid (q.length = r.length - n) := by show _ = _; rw [hq]; simp
      have HST : Hid (lines r = c :: lines q) := by show _ = _; rw [hst, hc, hq]
      clear hst hc hq
      by_cases hb : bad c = 0
      · have he : errVS (bad c) = .nilIface := by rw [hb]; rfl
        have HB : Hid (bad c = 0) := hb
        clear hb
        have hws := hnx.size
        go_wp2_with (first
          | (go_at_call 160; refine (unhide HC _).mono ?_; rintro e w' ⟨rfl, hw⟩; have hw := hw.symm; subst hw)
          | (go_at_call 161; refine (check_any c _ hcl).mono ?_; rintro e w' ⟨rfl, hw⟩; have hw := hw.symm; subst hw; rw [he])
          | (at_builtin; refine wpList_append_own _ rfl _ _ 78 rfl w.heap.size 9 i0 (.string ⟨#[]⟩) 1 16 Tryz.underlying78 hi hz0 hz1 hz2 rfl (by decide) _ ds.length (strs ds) rfl (World.ownsRow.alloc hown _) ⟨wr.heap.size, 0, none⟩ 1 1 [.string ⟨c.toArray⟩] rfl rfl ?c1 ?c2 ?c3 ?c4 ?c5 ?_))
        case c1 =>
          intro j u hj
          match j, hj with
          | 0, hj => simp at hj; subst hj; simp [Addr.add]
        case c2 => intro u hu; simp at hu; subst hu; rfl
        case c3 => unfold maxLen; omega
        case c4 => omega
        case c5 => simp; omega
        intro v' w1 hown' hgrow _
        have HO := hide (Own.push hown')
        have HBl := hide (push_below hws hown hnx hgrow)
        clear hown' hgrow hown hnx hws
        go_wp2
        go_roundw
        case rel => exact ⟨ds ++ [c], q, rfl, by have := HQ.out; omega, by have := HQ.out; simp; omega, (by show _ = _; rw [HL.out, HST.out]; simp), (by
            intro d hd
            rcases List.mem_append.1 hd with h | h
            · exact HD.out d h
            · rw [List.mem_singleton.1 h]; exact HB.out), unhide HO, unhide HBl⟩
        case measure => have := HQ.out; show q.length < r.length; omega
      · have he : errVS (bad c) = .iface 147 (.int .i64 (bad c)) := by unfold errVS; rw [if_neg hb]
        have hrg := bad_range c
        have HE : Hid (errS l = bad c ∧ atS l = ds.length ∧ wordS l = [108, 105, 110, 101] ∧ rowS l = []) := by
          have h2 := errOf_hit c (lines q) hb
          have h1 := errOf_append ds (lines r) HD.out
          have h3 := atOf_append ds (lines r) HD.out
          rw [← HL.out, HST.out] at h1 h3
          exact errS_bad l hl ds.length (bad c) (by rw [h1, h2.1]) (by rw [h3, h2.2]; rfl) hb
        have HB : Hid (bad c ≠ 0) := hb
        have hck := fun w => check_any c w hcl
        rw [he] at hck
        have HK := hide hck
        clear hck he
        generalize hbk : bad c = bk at *
        clear hb hbk
        obtain ⟨a, cap, rfl⟩ := hown.shape
        have hws := hnx.size
        have HO := hide hown
        have HN := hide hnx
        clear hown hnx
        go_wp2_with (first
          | (go_at_call 160; refine (unhide HC _).mono ?_; rintro e w' ⟨rfl, hw⟩; have hw := hw.symm; subst hw)
          | (go_at_call 161; refine (unhide HK _).mono ?_; rintro e w' ⟨rfl, hw⟩; have hw := hw.symm; subst hw))
        go_ret2
        obtain ⟨e1, e2, e3, e4⟩ := HE.out
        rw [e1, e2, e3, e4]
        exact ⟨_, _, rfl, Own.nil _ _, .inr ⟨HB.out, wr.heap.size, hws, rfl, by simp, by simp, by simp⟩, (unhide HN).alloc hws _⟩

theorem split_any (l : List UInt8) (w : World) (hm : l.length ≤ 9223372036854775807) : Calls Tryz.prog 116 #[.string ⟨l.toArray⟩] w fun e w' =>
    ∃ v f, e = .returned (.tuple #[v, f]) ∧ Own w.heap.size w' v (rowS l) ∧ Says w.heap.size w' f (wordS l) (atS l) (errS l) ∧ Below w.heap.size w w' := by
  by_cases h : 65536 < l.length
  · exact split_long l w h hm
  · exact split_short l w h
end Go.Proofs.YthkbchefjagbbaaGreatDoor.Line

namespace Go.Proofs.YthkbchefjagbbaaGreatDoor.Line
open Go.ChangeShapes Go.WideShapes Go.ChangeAt Go.RowKit
open Ex (E St)
open Plain (errS rowS wordS atS)
set_option linter.unusedVariables false

def ParsePost (B : Nat) (s : List UInt8) (e : Ending) (w' : World) : Prop :=
  (∃ b nv lv, errS s = 0 ∧ Grows (rowS s) 0 Bl.start b ∧ b.opn = [] ∧ e = .returned (.tuple #[nv, lv, .nilIface]) ∧ Nodes w' (fun q => B ≤ q) b.done nv ∧ Own B w' lv (rowS s)) ∨
  (∃ f, errS s ≠ 0 ∧ e = .returned (.tuple #[.slice none 0 0, .slice none 0 0, f]) ∧ Says B w' f (wordS s) (atS s) (errS s)) ∨
  (∃ i te g, errS s = 0 ∧ Wrongs (rowS s) i te ∧ e = .returned (.tuple #[.slice none 0 0, .slice none 0 0, g]) ∧ LineAt B w' g i te)
theorem as_hitU (e : Addr) (t : Addr) (old : Value) (w : World) (hg : Glob w) (ht0 : w.cell? t = some old) (hf0 : w.frozen? t = false) :
    Calls Tryz.prog 72 #[.iface 137 (.pointer (some e)), .iface 149 (.pointer (some t))] w fun ev w' => ev = .returned (.bool true) ∧ w'.cell? t = some (.pointer (some e)) ∧ Upd (fun b => b = t.block) w w' := by
  refine (Err.as_hit45_exact e t old w hg ht0 hf0).mono ?_
  rintro ev w' ⟨rfl, rfl⟩
  have htl : t.block < w.heap.size := by
    rcases Nat.lt_or_ge t.block w.heap.size with h | h
    · exact h
    · simp [World.cell?, Array.getElem?_eq_none h] at ht0
  refine ⟨rfl, ?_, ?_⟩
  · rw [World.cell?_setCell_same _ _ _ (by rw [World.cell?_alloc_lt _ _ t (by simp; omega), World.cell?_alloc_lt _ _ t (by simp; omega), World.cell?_alloc_lt _ _ t (by simp; omega), World.cell?_alloc_lt _ _ t htl]; exact ht0)]
  · exact (Upd.below ((((Below.refl w.heap.size w).alloc (by omega) _).alloc (by simp) _).alloc (by simp; omega) _ |>.alloc (by simp; omega) _)).trans (Upd.set _ _ _ rfl)
theorem te_mono {B B' : Nat} {w : World} {g : Value} {e : TE} (h : TeAt B w g e) (hB : B' ≤ B) : TeAt B' w g e := by
  cases e with
  | line e => exact LeAt.mono h hB
  | own e => exact h
theorem own_mono {B B' : Nat} {w : World} {v : Value} {ls : List (List UInt8)} (h : Own B w v ls) (hb : B' ≤ B) : Own B' w v ls := World.ownsRow.mono h hb
set_option maxHeartbeats 8000000 in
set_option maxRecDepth 100000 in
theorem parseT_any (s : List UInt8) (w : World) (hm : s.length ≤ 9223372036854775807) (hG : Glob w) (hR : errS s = 0 → (∀ r ∈ rowS s, r.length ≤ 65536) ∧ (rowS s).length ≤ 1000000) :
    Calls Tryz.prog 73 #[.string ⟨s.toArray⟩] w fun e w' => Below w.heap.size w w' ∧ ParsePost w.heap.size s e w' := by
  have ba := alloc_below w (.cells #[.pointer none] 137)
  have hB : (w.alloc (.cells #[.pointer none] 137)).heap[w.heap.size]? = some (.cells #[.pointer none] 137 (0, 0)) := heap_alloc_new w _
  have hc : (w.alloc (.cells #[.pointer none] 137)).cell? ⟨w.heap.size, 0, none⟩ = some (.pointer none) := by unfold World.cell?; rw [hB]; rfl
  have hf : (w.alloc (.cells #[.pointer none] 137)).frozen? ⟨w.heap.size, 0, none⟩ = false := by unfold World.frozen?; rw [hB]; rfl
  have s1 : (w.alloc (.cells #[.pointer none] 137)).heap.size = w.heap.size + 1 := by simp
  have HS := hide (split_any s (w.alloc (.cells #[.pointer none] 137)) hm)
  have H0 := hide (And.intro ba (And.intro s1 (And.intro hG hR)))
  have HCF := hide (And.intro hc hf)
  clear ba s1 hG hR hB hc hf
  go_enter Tryz.func73, Tryz.ntmps73
  go_wp2_with fail
  refine (unhide HS).mono ?_
  rintro e w2 ⟨v, f, rfl, hown, hsays, hb2⟩
  have hb02 : Below w.heap.size w w2 := bthen (unhide H0).1 hb2
  obtain ⟨hc0, hf0⟩ := unhide HCF
  have hl0 := cell_lt hc0
  have hc2 := (hb2.cell (p := ⟨w.heap.size, 0, none⟩) hl0).trans hc0
  have hf2 := (hb2.frozen (p := ⟨w.heap.size, 0, none⟩) hl0).trans hf0
  have hG2 := (unhide H0).2.2.1.below hb02
  have hs2 := hb2.size
  rw [(unhide H0).2.1] at hown hsays hs2
  rcases hsays with ⟨h0, rfl⟩ | ⟨h0, b, hbb, rfl, hx1, hx2, hx3⟩
  · obtain ⟨hR1, hR2⟩ := (unhide H0).2.2.2 h0
    have HAN := hide (as_nil (.iface 149 (.pointer (some ⟨w.heap.size, 0, none⟩))) w2)
    have HOF := hide (of_tree (rowS s) v w2 hown.row hR1 hR2 hG2)
    have HJ := hide (And.intro h0 (And.intro hb02 (And.intro hown hG2)))
    have HC2 := hide (And.intro hc2 hf2)
    clear h0 hb02 hown hG2 hR1 hR2 hc2 hf2 hc0 hf0 hb2
    go_wp2_with fail
    refine (unhide HAN).mono ?_
    rintro e w3 ⟨rfl, rfl⟩
    go_wp2_with fail
    refine (unhide HOF).mono ?_
    rintro e w4 ⟨hb4, ⟨bl, nv, hgr, hop, rfl, hnd⟩ | ⟨i, te, g, hwr, rfl, hla⟩⟩
    · have HAN2 := hide (as_nil (.iface 149 (.pointer (some ⟨w.heap.size, 0, none⟩))) w4)
      have HR := hide (And.intro hb4 (And.intro hgr (And.intro hop hnd)))
      clear hb4 hgr hop hnd
      go_wp2_with fail
      refine (unhide HAN2).mono ?_
      rintro e w5 ⟨rfl, rfl⟩
      go_wp2
      go_ret3
      obtain ⟨h0, hb02, hown, hG2⟩ := unhide HJ
      obtain ⟨hb4, hgr, hop, hnd⟩ := unhide HR
      exact ⟨bthen hb02 hb4, .inl ⟨bl, nv, v, h0, hgr, hop, rfl, hnd.mono (fun q hq _ => Nat.le_trans hb02.size hq), own_mono (hown.below hb4) (by omega)⟩⟩
    · obtain ⟨b, g2, hB2, rfl, hcs, hte⟩ := hla
      have hbw4 := hb4.size
      obtain ⟨hc2, hf2⟩ := unhide HC2
      have hl2 := cell_lt hc2
      have HAH := hide (as_hitU ⟨b, 0, none⟩ ⟨w.heap.size, 0, none⟩ _ w4 ((unhide HJ).2.2.2.below hb4) ((hb4.cell (p := ⟨w.heap.size, 0, none⟩) hl2).trans hc2) ((hb4.frozen (p := ⟨w.heap.size, 0, none⟩) hl2).trans hf2))
      have HR := hide (And.intro hb4 (And.intro hwr (And.intro hB2 (And.intro hcs hte))))
      clear hb4 hwr hcs hte hc2 hf2 hl2
      go_wp2_with fail
      refine (unhide HAH).mono ?_
      rintro e w5 ⟨rfl, hc5, hu5⟩
      have HB5 : Hid (Below w.heap.size w w5.drew ∧ ParsePost w.heap.size s (.returned (.tuple #[.slice none 0 0, .slice none 0 0, .iface FPT (.pointer (some ⟨b, 0, none⟩))])) w5.drew) := hide (by
        replace hu5 := hu5.trans (show Upd _ w5 w5.drew from ⟨rfl, rfl, rfl, Nat.le_refl _, fun _ _ _ => rfl⟩)
        obtain ⟨h0, hb02, hown, hG2⟩ := unhide HJ
        obtain ⟨hb4, hwr, hB2, hcs, hte⟩ := unhide HR
        have hsz := hb02.size
        have hkeep : ∀ q, w.heap.size ≤ q → q < w4.heap.size → q ≠ w.heap.size → w5.drew.heap[q]? = w4.heap[q]? := fun q hq hl hne => hu5.block q hl hne
        refine ⟨⟨hu5.os.trans (hb4.os.trans hb02.os), hu5.tape.trans (hb4.tape.trans hb02.tape), hu5.output.trans (hb4.output.trans hb02.output), by have := hu5.size; omega, fun q hq => (hu5.block q (by omega) (show q ≠ w.heap.size by omega)).trans ((hb4.block q (by omega)).trans (hb02.block q hq))⟩, .inr (.inr ⟨i, te, _, h0, hwr, rfl, ?_⟩)⟩
        have hla : LineAt w3.heap.size w4 (.iface FPT (.pointer (some ⟨b, 0, none⟩))) i te := ⟨b, g2, hB2, rfl, hcs, hte⟩
        have hla5 := hla.keep (w' := w5.drew) (fun q hq hl => hkeep q (by omega) hl (by omega))
        obtain ⟨b', g2', hB', e1, e2, e3⟩ := hla5
        exact ⟨b', g2', by omega, e1, e2, te_mono e3 (by omega)⟩)
      clear hu5
      go_wp2_with fail
      go_region
      all_goals
        go_wp2
        go_ret3
        exact unhide HB5
  · have HAH := hide (as_hitU ⟨b, 0, none⟩ ⟨w.heap.size, 0, none⟩ _ w2 hG2 hc2 hf2)
    have HR := hide (And.intro h0 (And.intro hbb (And.intro hx1 (And.intro hx2 (And.intro hx3 hb02)))))
    clear h0 hbb hx1 hx2 hx3 hb02 hown hG2 hc2 hf2 hc0 hf0 hb2
    go_wp2_with fail
    refine (unhide HAH).mono ?_
    rintro e w5 ⟨rfl, hc5, hu5⟩
    have HB5 : Hid (Below w.heap.size w w5.drew ∧ ParsePost w.heap.size s (.returned (.tuple #[.slice none 0 0, .slice none 0 0, .iface FPT (.pointer (some ⟨b, 0, none⟩))])) w5.drew) := hide (by
      replace hu5 := hu5.trans (show Upd _ w5 w5.drew from ⟨rfl, rfl, rfl, Nat.le_refl _, fun _ _ _ => rfl⟩)
      obtain ⟨h0, hbb, hx1, hx2, hx3, hb02⟩ := unhide HR
      have hsz := hb02.size
      have hk : w5.drew.heap[b]? = w2.heap[b]? := hu5.block b (cell_lt hx1) (show b ≠ w.heap.size by omega)
      refine ⟨⟨hu5.os.trans hb02.os, hu5.tape.trans hb02.tape, hu5.output.trans hb02.output, by have := hu5.size; omega, fun q hq => (hu5.block q (by omega) (show q ≠ w.heap.size by omega)).trans (hb02.block q hq)⟩, .inr (.inl ⟨_, h0, rfl, .inr ⟨h0, b, by omega, rfl, (World.cell?_of_block (a := ⟨b, 0, none⟩) hk).trans hx1, (World.cell?_of_block (a := ⟨b, 1, none⟩) hk).trans hx2, (World.cell?_of_block (a := ⟨b, 2, none⟩) hk).trans hx3⟩⟩)⟩)
    clear hu5
    go_wp2_with fail
    go_region
    all_goals
      go_wp2
      go_ret3
      exact unhide HB5
end Go.Proofs.YthkbchefjagbbaaGreatDoor.Line
