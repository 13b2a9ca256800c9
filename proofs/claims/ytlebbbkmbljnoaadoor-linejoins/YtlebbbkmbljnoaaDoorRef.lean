/- Contracts of the reference's Lines, At, Split, SameLines, and of line.Join. -/
import Derived.Test.YtlebbbkmbljnoaaDoorMem
import Derived.Test.YtlebbbkmbljnoaaDoorIndent
namespace Go.Proofs.YtlebbbkmbljnoaaDoor.Line
open Go.ChangeShapes Go.WideShapes Go.ChangeAt Go.RowKit Plain
set_option linter.unusedVariables false

theorem lines_at (l : List UInt8) (a i : Nat) (ha : a ≤ i) (hi : i < l.length) (h : l[i] = 10) (hno : ∀ j (hj : j < l.length), a ≤ j → j < i → l[j] ≠ 10) :
    lines (l.drop a) = (l.drop a).take (i + 1 - a) :: lines (l.drop (i + 1)) := by
  have hf : fl (l.drop a) = i - a + 1 := fl_at _ (i - a) (by simp; omega) (by rw [List.getElem_drop]; simp only [show a + (i - a) = i by omega]; exact h) (fun j hj => by
    rw [List.getElem_drop]; exact hno (a + j) (by omega) (by omega) (by omega))
  rw [lines_step (l.drop a) (by intro h0; have := congrArg List.length h0; simp at this; omega), hf, List.drop_drop]
  rw [show i - a + 1 = i + 1 - a by omega, show a + (i + 1 - a) = i + 1 by omega]
theorem lines_rest (l : List UInt8) (a : Nat) (ha : a < l.length) (hno : ∀ j (hj : j < l.length), a ≤ j → l[j] ≠ 10) : lines (l.drop a) = [l.drop a] := by
  have hf : fl (l.drop a) = (l.drop a).length := fl_all _ (fun j hj => by
    rw [List.getElem_drop]; exact hno (a + j) (by simp at hj; omega) (by omega))
  rw [lines_step (l.drop a) (by intro h0; have := congrArg List.length h0; simp at this; omega), hf, List.drop_length, List.take_length]
  rfl

set_option maxHeartbeats 2000000 in
set_option maxRecDepth 100000 in
theorem refLines_any (l : List UInt8) (w : World) (hl : l.length ≤ 65536) : Calls Tryd.prog 21 #[.string ⟨l.toArray⟩] w fun e w' =>
    ∃ v, e = .returned v ∧ Own w.heap.size w' v (lines l) ∧ Below w.heap.size w w' := by
  obtain ⟨i0, hi, hz0, hz1, hz2⟩ := info_parts info9
  go_enter Tryd.func21, Tryd.ntmps21
  go_wp2
  go_loopw [3, 4, 5] (fun v p q wr => ∃ (ds : List (List UInt8)) (a i : Nat), p = .int .i64 a ∧ q = .int .i64 i ∧ a ≤ i ∧ i ≤ l.length ∧ ds.length ≤ i ∧ Hid (lines l = ds ++ lines (l.drop a)) ∧ Hid (∀ j (hj : j < l.length), a ≤ j → j < i → l[j] ≠ 10) ∧ Own w.heap.size wr v ds ∧ Below w.heap.size w wr)
    (fun _ _ q _ => l.length - (intOf q).toNat)
  case atStart => exact ⟨[], 0, 0, rfl, rfl, Nat.le_refl _, Nat.zero_le _, Nat.le_refl _, hide rfl, hide (fun j hj h1 h2 => by omega), Own.nil _ _, Below.refl _ _⟩
  case round =>
    obtain ⟨ds, a, i, rfl, rfl, hai, hil, hdl, HL, HNO, hown, hnx⟩ := hrel
    have hws := hnx.size
    by_cases hlt : i < l.length
    · have hs2 : i < (⟨l.toArray⟩ : ByteArray).size := hlt
      by_cases hb : l[i] = 10
      · have hb' := byte_is l i hlt hs2 10 hb
        have hx : (⟨l.toArray⟩ : ByteArray).extract a (i + 1) = ⟨((l.drop a).take (i + 1 - a)).toArray⟩ := ext l a (i + 1)
        have HS := hide (lines_at l a i hai hlt hb HNO.out)
        clear hb
        generalize (l.drop a).take (i + 1 - a) = c at *
        have hb2 : (((⟨l.toArray⟩ : ByteArray)[i]'hs2).toNat : Int) = 10 := hb'
        clear hb'
        have hq1 : (i : Int) + 1 ≤ (l.length : Int) := by omega
        have hq2 : (a : Int) ≤ (i : Int) + 1 := by omega
        go_wp2_with (at_builtin; refine wpList_append_own _ rfl _ _ 23 rfl w.heap.size 9 i0 (.string ⟨#[]⟩) 1 16 Tryd.underlying23 hi hz0 hz1 hz2 rfl (by decide) _ ds.length (strs ds) rfl (World.ownsRow.alloc hown _) ⟨wr.heap.size, 0, none⟩ 1 1 [.string ⟨c.toArray⟩] rfl rfl ?c1 ?c2 ?c3 ?c4 ?c5 ?_)
        case c1 =>
          intro j u hj
          match j, hj with
          | 0, hj => simp at hj; subst hj; simp [Addr.add]
        case c2 => intro u hu; simp at hu; subst hu; rfl
        case c3 => unfold maxLen; omega
        case c4 => omega
        case c5 => simp; omega
        intro v' w1 hown' hgrow _
        have HO := hide (Own.push hown')
        have HBl := hide (push_below hws hown hnx hgrow)
        clear hown' hgrow hown hnx hws
        go_wp2
        go_roundw
        case rel => exact ⟨ds ++ [c], i + 1, i + 1, by go_num, by go_num, Nat.le_refl _, by omega, by simp; omega, hide (by rw [HL.out, HS.out]; simp), hide (fun j hj h1 h2 => by omega), unhide HO, unhide HBl⟩
        case measure => simp [intOf]; omega
      · have hb' : ((((⟨l.toArray⟩ : ByteArray)[i]'hs2).toNat : Int) == 10) = false := byte_not l i hlt hs2 10 hb
        have HB : Hid (l[i] ≠ 10) := hb
        clear hb
        go_wp2
        go_roundw
        case rel => exact ⟨ds, a, i + 1, by go_num, by go_num, by omega, by omega, by omega, HL, hide (fun j hj h1 h2 => by
            by_cases e : j = i
            · subst e; exact HB.out
            · exact HNO.out j hj h1 (by omega)), hown, hnx⟩
        case measure => simp [intOf]; omega
    · have hil2 : i = l.length := by omega
      by_cases hal : a < l.length
      · have HS := hide (lines_rest l a hal (fun j hj h1 => HNO.out j hj h1 (by omega)))
        have hx : (⟨l.toArray⟩ : ByteArray).extract a l.length = ⟨(l.drop a).toArray⟩ := ext_end l a
        have HFIN : Hid (∀ c, c = l.drop a → lines l = ds ++ [c]) := hide (fun c hc => by rw [HL.out, unhide HS, hc])
        obtain ⟨c, hc⟩ : ∃ c, c = l.drop a := ⟨_, rfl⟩
        rw [← hc] at hx
        have HC := hide hc
        clear hc hil2
        have hdl2 : ds.length ≤ 65536 := by omega
        go_wp2_with (at_builtin; refine wpList_append_own _ rfl _ _ 23 rfl w.heap.size 9 i0 (.string ⟨#[]⟩) 1 16 Tryd.underlying23 hi hz0 hz1 hz2 rfl (by decide) _ ds.length (strs ds) rfl (World.ownsRow.alloc hown _) ⟨wr.heap.size, 0, none⟩ 1 1 [.string ⟨c.toArray⟩] rfl rfl ?c1 ?c2 ?c3 ?c4 ?c5 ?_)
        case c1 =>
          intro j u hj
          match j, hj with
          | 0, hj => simp at hj; subst hj; simp [Addr.add]
        case c2 => intro u hu; simp at hu; subst hu; rfl
        case c3 => unfold maxLen; omega
        case c4 => omega
        case c5 => simp; omega
        intro v' w1 hown' hgrow _
        have HO := hide (Own.push hown')
        have HBl := hide (push_below hws hown hnx hgrow)
        clear hown' hgrow hown hnx hws
        go_wp2
        go_ret
        exact ⟨_, rfl, by rw [unhide HFIN c (unhide HC)]; exact unhide HO, unhide HBl⟩
      · have HFIN : Hid (lines l = ds) := hide (by rw [HL.out, List.drop_of_length_le (by omega), lines_nil, List.append_nil])
        clear hil2
        go_wp2
        go_ret
        exact ⟨_, rfl, by rw [unhide HFIN]; exact hown, hnx⟩
end Go.Proofs.YtlebbbkmbljnoaaDoor.Line
