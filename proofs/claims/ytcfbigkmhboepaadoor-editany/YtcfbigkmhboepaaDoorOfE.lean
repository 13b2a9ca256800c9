/- The contract of furrowlaw3.Of. -/
import Derived.Test.YtcfbigkmhboepaaDoorOwnE
import Derived.OwnWalk
import Derived.Deep.AppendLies
import Derived.Deep.RegionHeldLaw
namespace Go.Proofs.YtcfbigkmhboepaaDoor.Line
open Go.ChangeShapes Go.WideShapes Go.ChangeAt Go.RowKit
set_option linter.unusedVariables false

/-- behind an append of one element more, in a region that draws -/
theorem grown_ok {B : Nat} {w wr w1 : World} {v : Value} {T : TypeId} {n size : Nat} {xs : List Value} {o : Obj} (hB : B ≤ wr.heap.size) (hown : wr.ownsRow B T size v n xs) (hnx : Below B w wr) (hgrow : (wr.alloc o).drew.grownBy w1 v.ownBlock) : Below B w w1 :=
  (below_drewN (hnx.alloc hB o) 1).grown hgrow (by show B ≤ (wr.alloc o).heap.size; simp; omega) (fun j hj => (World.ownsRow.lt hown j hj).1)
/-- a cell of an old block, behind it -/
theorem grown_cell {wr w1 : World} {v : Value} {o : Obj} {b k : Nat} {u : Value} (hgrow : (wr.alloc o).drew.grownBy w1 v.ownBlock) (hb : b < wr.heap.size) (hne : some b ≠ v.ownBlock) (h : wr.cell? ⟨b, k, none⟩ = some u) : w1.cell? ⟨b, k, none⟩ = some u := by
  rw [hgrow.cell_far ⟨b, k, none⟩ (by show b < (wr.alloc o).heap.size; simp; omega) hne]
  show (wr.alloc o).cell? ⟨b, k, none⟩ = some u
  rw [(alloc_below wr o).cell (p := ⟨b, k, none⟩) hb]
  exact h

set_option maxHeartbeats 4000000 in
set_option maxRecDepth 100000 in
theorem of_any (v : Value) (E : List RawE) (w : World) (hv : Eds w v E) (hl : E.length ≤ 1000000) : Calls Tryd.prog 11 #[v] w fun e w' =>
    ∃ u, e = .returned u ∧ OwnE 54 w.heap.size w' u E ∧ Below w.heap.size w w' := by
  obtain ⟨i0, hi, hz0, hz1, hz2⟩ := info_parts infoRef
  rcases hv with ⟨a, cap, rfl, rfl⟩ | ⟨b, off, cap, rfl, hcap, hcells⟩
  · go_enter Tryd.func11, Tryd.ntmps11
    go_wp2
    refine wp_loop_rounds 1 ?_
    rw [rounds_succ]
    go_wp2
    go_ret
    exact ⟨_, rfl, OwnE.nil _ _ _, Below.refl _ _⟩
  · have HC := hide hcells
    clear hcells
    go_enter Tryd.func11, Tryd.ntmps11
    go_wp2
    go_loopw [3, 4] (fun x q wr => ∃ i : Nat, i ≤ E.length ∧ q = .int .i64 i ∧ Hid ((∃ X : List Cut, X.map (·.1) = E.take i ∧ wr.ownsRow w.heap.size 54 3 x X.length (flat X) ∧ ∀ p ∈ X, Row w p.2 p.1.n) ∧ Below w.heap.size w wr)) (fun _ q _ => E.length - (intOf q).toNat)
    case atStart => exact ⟨0, Nat.zero_le _, rfl, hide ⟨⟨[], rfl, World.ownsRow_nil _ _ _ _, fun p h => by simp at h⟩, Below.refl _ _⟩⟩
    case round =>
      rename_i wr _ _
      obtain ⟨i, hii, rfl, HH⟩ := hrel
      by_cases hlt : i < E.length
      · obtain ⟨⟨X, hX, hown, hrows⟩, hB⟩ := unhide HH
        have hXl : X.length = i := by have := congrArg List.length hX; simp at this; omega
        obtain ⟨d0, d1, u, d2, hr⟩ := unhide HC i hlt
        have hbw := cell_lt d0
        replace d0 := (hB.cell (p := ⟨b, off + i * 3, none⟩) hbw).trans d0
        replace d1 := (hB.cell (p := ⟨b, off + i * 3 + 1, none⟩) hbw).trans d1
        replace d2 := (hB.cell (p := ⟨b, off + i * 3 + 2, none⟩) hbw).trans d2
        have hsz := hB.size
        have hfar := fun j hj => (World.ownsRow.lt hown j hj).1
        have HF : Hid (some b ≠ u3.ownBlock) := hide (fun h => by have := hfar b h.symm; omega)
        obtain ⟨ua, uc, rfl⟩ : ∃ a cap, u = .slice a E[i].n.length cap := by
          rcases hr with ⟨a, cap, rfl, h⟩ | ⟨b, off, cap, rfl, _⟩
          · exact ⟨a, cap, by rw [h]; rfl⟩
          · exact ⟨_, _, rfl⟩
        have HR := hide hr
        have HX := hide hX
        have HRS := hide hrows
        have HB := hide hB
        have HOWN := hide hown
        clear hr hX hrows hB hfar HH hown
        have HE := hide (show E.take i ++ [E[i]] = E.take (i + 1) from (List.take_succ_eq_append_getElem hlt).symm)
        have hlt2 : (i : Int) < E.length := by omega
        generalize E[i] = ee at *
        generalize hm : ee.n.length = m at *
        have HQ2 : Hid ((wr.alloc (.cells #[.int .i64 ee.f, .int .i64 ee.t, .slice ua m uc] 54)).drew.ownsRow w.heap.size 54 3 u3 X.length (flat X)) := hide (World.ownsRow.alloc (unhide HOWN) _).drew
        have HQ4 : Hid (∀ j u, [Value.int .i64 ee.f, .int .i64 ee.t, .slice ua m uc][j]? = some u → (wr.alloc (.cells #[.int .i64 ee.f, .int .i64 ee.t, .slice ua m uc] 54)).drew.cell? ((⟨wr.heap.size, 0, none⟩ : Addr).add j) = some u) := hide (World.news_of_block (cs := #[.int .i64 ee.f, .int .i64 ee.t, .slice ua m uc]) (t := 54) (fr := (0, 0)) (by show (wr.heap.push _)[wr.heap.size]? = _; exact Array.getElem?_push_size))
        have HQ5 : Hid (∀ u ∈ [Value.int .i64 ee.f, .int .i64 ee.t, .slice ua m uc], u.oneCell' = true) := hide (by intro u hu; simp at hu; rcases hu with rfl | rfl | rfl <;> rfl)
        have HQ6 : Hid (X.length + 1 ≤ maxLen) := hide (by unfold maxLen; omega)
        have HQ7 : Hid ((X.length + 1) * 40 ≤ 140737488355328) := hide (by omega)
        have HQ8 : Hid (w.heap.size ≤ (wr.alloc (.cells #[.int .i64 ee.f, .int .i64 ee.t, .slice ua m uc] 54)).drew.heap.size) := hide (by show w.heap.size ≤ (wr.alloc _).heap.size; simp; omega)
        have hbr : b < wr.heap.size := by omega
        have HD0 := hide d0
        have HD1 := hide d1
        have HD2 := hide d2
        go_wp2_with fail
        go_region_held_law (fun W' => W'.cell? ⟨b, off + i * 3, none⟩ = some (.int .i64 ee.f) ∧ W'.cell? ⟨b, off + i * 3 + 1, none⟩ = some (.int .i64 ee.t) ∧ W'.cell? ⟨b, off + i * 3 + 2, none⟩ = some (.slice ua m uc)) (go_keep)
          ((refine step_append_lies _ rfl _ _ _ rfl w.heap.size 54 i0 _ 3 40 Tryd.underlying26 hi hz0 hz1 hz2 rfl (by decide) u3 X.length (flat X) rfl (unhide HQ2) ⟨wr.heap.size, 0, none⟩ 1 1 [.int .i64 ee.f, .int .i64 ee.t, .slice ua m uc] rfl rfl (unhide HQ4) (unhide HQ5) (by decide) (unhide HQ6) (unhide HQ7) (unhide HQ8) _ rfl ?_; intro g cap' w1 hown' hgrow hat hglt; have e0 := grown_cell hgrow hbr (unhide HF) (unhide HD0); have e1 := grown_cell hgrow hbr (unhide HF) (unhide HD1); have e2 := grown_cell hgrow hbr (unhide HF) (unhide HD2); have HOW := hide hown'; have HGR := hide hgrow; clear hown' hgrow hat))
        go_wp2
        go_roundw
        case rel =>
          exact ⟨i + 1, by omega, by go_num, hide ⟨⟨X ++ [(ee, .slice ua m uc)], by rw [List.map_append, unhide HX, ← unhide HE]; rfl, by rw [flat_snoc]; have := unhide HOW; rw [← hXl]; simpa using this, fun p hp => by
            rcases List.mem_append.1 hp with h | h
            · exact unhide HRS p h
            · rw [List.mem_singleton.1 h]; exact unhide HR⟩, grown_ok (by omega) (unhide HOWN) (unhide HB) (unhide HGR)⟩⟩
        case measure => simp [intOf]; omega
      · obtain ⟨⟨X, h0, h1, h3⟩, h2⟩ := unhide HH
        rw [List.take_of_length_le (by omega)] at h0
        have H1 : Hid (OwnE 54 w.heap.size wr u3 E) := hide ⟨X, h0, h1, fun p hp => (h3 p hp).below h2⟩
        have H2 := hide h2
        clear h0 h1 h2 h3 HH
        go_wp2
        go_ret
        exact ⟨_, rfl, unhide H1, unhide H2⟩
end Go.Proofs.YtcfbigkmhboepaaDoor.Line
