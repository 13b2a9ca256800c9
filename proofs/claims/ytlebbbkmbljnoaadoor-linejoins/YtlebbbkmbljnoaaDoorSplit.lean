/- The contract of line.Split: the lines in new memory, or the Fault. -/
import Derived.Test.YtlebbbkmbljnoaaDoorMem
namespace Go.Proofs.YtlebbbkmbljnoaaDoor.Line
open Go.ChangeShapes Go.WideShapes Go.ChangeAt Go.RowKit Plain
set_option linter.unusedVariables false

set_option maxHeartbeats 1000000 in
theorem split_long (l : List UInt8) (w : World) (hl : 65536 < l.length) (hm : l.length ≤ 9223372036854775807) : Calls Tryd.prog 9 #[.string ⟨l.toArray⟩] w fun e w' =>
    ∃ v f, e = .returned (.tuple #[v, f]) ∧ Own w.heap.size w' v (rowS l) ∧ Says w.heap.size w' f (wordS l) (atS l) (errS l) ∧ Below w.heap.size w w' := by
  obtain ⟨e1, e2, e3, e4⟩ := errS_long l hl
  rw [e1, e2, e3, e4]
  clear e1 e2 e3 e4
  go_enter Tryd.func9, Tryd.ntmps9
  go_wp2
  go_ret2
  exact ⟨_, _, rfl, Own.nil _ _, .inr ⟨by decide, w.heap.size, Nat.le_refl _, rfl, by simp, by simp, by simp⟩, (Below.refl _ _).alloc (Nat.le_refl _) _⟩

set_option maxHeartbeats 2000000 in
set_option maxRecDepth 100000 in
theorem split_short (l : List UInt8) (w : World) (hl : ¬ 65536 < l.length) : Calls Tryd.prog 9 #[.string ⟨l.toArray⟩] w fun e w' =>
    ∃ v f, e = .returned (.tuple #[v, f]) ∧ Own w.heap.size w' v (rowS l) ∧ Says w.heap.size w' f (wordS l) (atS l) (errS l) ∧ Below w.heap.size w w' := by
  obtain ⟨i0, hi, hz0, hz1, hz2⟩ := info_parts info9
  go_enter Tryd.func9, Tryd.ntmps9
  go_wp2
  go_loopw [0, 4] (fun s v wr => ∃ (ds : List (List UInt8)) (r : List UInt8), s = .string ⟨r.toArray⟩ ∧ r.length ≤ l.length ∧ ds.length + r.length ≤ l.length ∧ Hid (lines l = ds ++ lines r) ∧ Hid (∀ d ∈ ds, bad d = 0) ∧ Own w.heap.size wr v ds ∧ Below w.heap.size w wr)
    (fun s _ _ => strLen s)
  case atStart => exact ⟨[], l, rfl, Nat.le_refl _, by simp, hide rfl, hide (fun d hd => by simp at hd), Own.nil _ _, Below.refl _ _⟩
  case round =>
    obtain ⟨ds, r, rfl, hrl, hdl, HL, HD, hown, hnx⟩ := hrel
    by_cases hr : r = []
    · subst hr
      have HF := hide (errS_ok l hl (by rw [HL.out, lines_nil, List.append_nil]; exact HD.out))
      have HF2 : Hid (rowS l = ds) := by show _ = _; rw [(unhide HF).2, HL.out, lines_nil, List.append_nil]
      go_wp2
      go_ret2
      exact ⟨_, _, rfl, by rw [HF2.out]; exact hown, .inl ⟨(unhide HF).1, rfl⟩, hnx⟩
    · have hne : (!r.isEmpty) = true := by simpa using hr
      have hp := fl_pos r hr
      have hle := fl_le r
      have hst := lines_step r hr
      have hcon := fun w => firstLine_any r w (by omega)
      generalize hnn : fl r = n at *
      clear hnn
      have HC := hide hcon
      clear hcon hr
      obtain ⟨c, hc⟩ : ∃ c, c = r.take n := ⟨_, rfl⟩
      obtain ⟨q, hq⟩ : ∃ q, q = r.drop n := ⟨_, rfl⟩
      have hx1 : (⟨r.toArray⟩ : ByteArray).extract 0 n = ⟨c.toArray⟩ := by rw [ext_front, hc]
      have hx2 : (⟨r.toArray⟩ : ByteArray).extract n r.length = ⟨q.toArray⟩ := by rw [ext_end, hq]
      have hcl : c.length ≤ 65536 := by rw [hc]; simp; omega
      have HQ : Hid (q.length = r.length - n) := by show _ = _; rw [hq]; simp
      have HST : Hid (lines r = c :: lines q) := by show _ = _; rw [hst, hc, hq]
      clear hst hc hq
      by_cases hb : bad c = 0
      · have he : errV (bad c) = .nilIface := by rw [hb]; rfl
        have HB : Hid (bad c = 0) := hb
        clear hb
        have hws := hnx.size
        go_wp2_with (first
          | (go_at_call 19; refine (unhide HC _).mono ?_; rintro e w' ⟨rfl, hw⟩; have hw := hw.symm; subst hw)
          | (go_at_call 20; refine (check_any c _ hcl).mono ?_; rintro e w' ⟨rfl, hw⟩; have hw := hw.symm; subst hw; rw [he])
          | (at_builtin; refine wpList_append_own _ rfl _ _ 23 rfl w.heap.size 9 i0 (.string ⟨#[]⟩) 1 16 Tryd.underlying23 hi hz0 hz1 hz2 rfl (by decide) _ ds.length (strs ds) rfl (World.ownsRow.alloc hown _) ⟨wr.heap.size, 0, none⟩ 1 1 [.string ⟨c.toArray⟩] rfl rfl ?c1 ?c2 ?c3 ?c4 ?c5 ?_))
        case c1 =>
          intro j u hj
          match j, hj with
          | 0, hj => simp at hj; subst hj; simp [Addr.add]
        case c2 => intro u hu; simp at hu; subst hu; rfl
        case c3 => unfold maxLen; omega
        case c4 => omega
        case c5 => simp; omega
        intro v' w1 hown' hgrow _
        have HO := hide (Own.push hown')
        have HBl := hide (push_below hws hown hnx hgrow)
        clear hown' hgrow hown hnx hws
        go_wp2
        go_roundw
        case rel => exact ⟨ds ++ [c], q, rfl, by have := HQ.out; omega, by have := HQ.out; simp; omega, (by show _ = _; rw [HL.out, HST.out]; simp), (by
            intro d hd
            rcases List.mem_append.1 hd with h | h
            · exact HD.out d h
            · rw [List.mem_singleton.1 h]; exact HB.out), unhide HO, unhide HBl⟩
        case measure => have := HQ.out; show q.length < r.length; omega
      · have he : errV (bad c) = .iface 46 (.int .i64 (bad c)) := by unfold errV; rw [if_neg hb]
        have hrg := bad_range c
        have HE : Hid (errS l = bad c ∧ atS l = ds.length ∧ wordS l = [108, 105, 110, 101] ∧ rowS l = []) := by
          have h2 := errOf_hit c (lines q) hb
          have h1 := errOf_append ds (lines r) HD.out
          have h3 := atOf_append ds (lines r) HD.out
          rw [← HL.out, HST.out] at h1 h3
          exact errS_bad l hl ds.length (bad c) (by rw [h1, h2.1]) (by rw [h3, h2.2]; rfl) hb
        have HB : Hid (bad c ≠ 0) := hb
        have hck := fun w => check_any c w hcl
        rw [he] at hck
        have HK := hide hck
        clear hck he
        generalize hbk : bad c = bk at *
        clear hb hbk
        obtain ⟨a, cap, rfl⟩ := hown.shape
        have hws := hnx.size
        have HO := hide hown
        have HN := hide hnx
        clear hown hnx
        go_wp2_with (first
          | (go_at_call 19; refine (unhide HC _).mono ?_; rintro e w' ⟨rfl, hw⟩; have hw := hw.symm; subst hw)
          | (go_at_call 20; refine (unhide HK _).mono ?_; rintro e w' ⟨rfl, hw⟩; have hw := hw.symm; subst hw))
        go_ret2
        obtain ⟨e1, e2, e3, e4⟩ := HE.out
        rw [e1, e2, e3, e4]
        exact ⟨_, _, rfl, Own.nil _ _, .inr ⟨HB.out, wr.heap.size, hws, rfl, by simp, by simp, by simp⟩, (unhide HN).alloc hws _⟩

theorem split_any (l : List UInt8) (w : World) (hm : l.length ≤ 9223372036854775807) : Calls Tryd.prog 9 #[.string ⟨l.toArray⟩] w fun e w' =>
    ∃ v f, e = .returned (.tuple #[v, f]) ∧ Own w.heap.size w' v (rowS l) ∧ Says w.heap.size w' f (wordS l) (atS l) (errS l) ∧ Below w.heap.size w w' := by
  by_cases h : 65536 < l.length
  · exact split_long l w h hm
  · exact split_short l w h
end Go.Proofs.YtlebbbkmbljnoaaDoor.Line
