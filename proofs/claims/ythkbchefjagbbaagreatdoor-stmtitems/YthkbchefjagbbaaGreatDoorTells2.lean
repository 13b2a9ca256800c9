/- The contract of Tells at a Fault in a Fault: an error that is what was told. -/
import Derived.Test.YthkbchefjagbbaaGreatDoorTellsA
import Derived.Test.YthkbchefjagbbaaGreatDoorBaseAll
namespace Go.Proofs.YthkbchefjagbbaaGreatDoor.Err
open Go.RowKit Go.Extern.Stop Go.Stop Go.Extern Line
set_option linter.unusedVariables false

set_option maxHeartbeats 4000000 in
theorem is_two (b bb : Nat) (err : Nat) (w : World) (h1 : w.cell? ⟨b, 2, none⟩ = some (.iface 137 (.pointer (some ⟨bb, 0, none⟩)))) (h2 : w.cell? ⟨bb, 2, none⟩ = some (.iface 147 (.int .i64 err))) :
    Calls Tryz.prog 71 #[.iface 137 (.pointer (some ⟨b, 0, none⟩)), .iface 147 (.int .i64 err)] w fun e w' => e = .returned (.bool true) ∧ w' = w := by
  obtain ⟨i, hi, hcmp⟩ := Option.map_eq_some_iff.1 comp46
  have h29 := @run_callFunc_extern Tryz.prog 110 _ ReflectliteType.typeOf Tryz.func110 (by kernel_rfl) (by kernel_rfl) (by kernel_rfl) (by kernel_rfl)
  have h86 := call86
  have tT := typeOf46
  have cT := cmp46
  have mR := mComparable
  have n45 := noIs45
  have u45 := hasUnwrap45
  have mU := mUnwrap
  have heq := run_eql_num (P := Tryz.prog) w (err : Int) (err : Int) Tryz.underlying43 Tryz.underlying147 hi hcmp
  have hty := run_eql_iface_types (P := Tryz.prog) 137 147 (.pointer (some ⟨b, 0, none⟩)) (.int .i64 (err : Int)) Tryz.underlying43 (by decide) w
  have hty2 := run_eql_iface_types (P := Tryz.prog) 137 147 (.pointer (some ⟨bb, 0, none⟩)) (.int .i64 (err : Int)) Tryz.underlying43 (by decide) w
  go_enter Tryz.func71, Tryz.ntmps71
  go_wp2
  refine wp_loop_rounds 3 ?_
  rw [rounds_succ]
  go_wp2
  rw [rounds_succ]
  go_wp2
  rw [rounds_succ]
  go_wp2
  go_ret
  exact ⟨rfl, rfl⟩
set_option maxHeartbeats 8000000 in
theorem tells_two (b bb b2 cp k kk err : Nat) (word word2 : List UInt8) (w : World) (he : ((err : Int) == 0) = false)
    (hg : w.cell? ⟨0, 0, none⟩ = some (.iface 250 (.agg #[.pointer (some ⟨7, 43, none⟩)])))
    (h0 : w.cell? ⟨b, 0, none⟩ = some (.string ⟨word.toArray⟩)) (h1 : w.cell? ⟨b, 1, none⟩ = some (.int .i64 k)) (h2 : w.cell? ⟨b, 2, none⟩ = some (.iface 137 (.pointer (some ⟨bb, 0, none⟩))))
    (k0 : w.cell? ⟨bb, 0, none⟩ = some (.string ⟨word2.toArray⟩)) (k1 : w.cell? ⟨bb, 1, none⟩ = some (.int .i64 kk)) (k2 : w.cell? ⟨bb, 2, none⟩ = some (.iface 147 (.int .i64 err)))
    (p0 : w.cell? ⟨b2, 0, none⟩ = some (.string ⟨word.toArray⟩)) (p1 : w.cell? ⟨b2, 1, none⟩ = some (.int .i64 k)) (p2 : w.cell? ⟨b2, 2, none⟩ = some (.string ⟨word2.toArray⟩)) (p3 : w.cell? ⟨b2, 3, none⟩ = some (.int .i64 kk)) :
    Calls Tryz.prog 28 #[.iface 137 (.pointer (some ⟨b, 0, none⟩)), .agg #[.slice (some ⟨b2, 0, none⟩) 2 cp, .int .i64 err]] w fun e w' => e = .returned (.bool true) ∧ Below w.heap.size w w' := by
  have hb := cell_lt h0
  have hbb := cell_lt k0
  have hb2 := cell_lt p0
  have hz := cell_lt hg
  have HI := hide (fun (w : World) h h' => is_two b bb err w h h')
  have h2a : (w.alloc (.cells #[.slice (some ⟨b2, 0, none⟩) 2 cp, .int .i64 err] 37)).cell? ⟨b, 2, none⟩ = some (.iface 137 (.pointer (some ⟨bb, 0, none⟩))) := by
    rw [World.cell?_alloc_lt _ _ ⟨b, 2, none⟩ hb]; exact h2
  have h2b : (w.alloc (.cells #[.slice (some ⟨b2, 0, none⟩) 2 cp, .int .i64 err] 37)).cell? ⟨bb, 2, none⟩ = some (.iface 147 (.int .i64 err)) := by
    rw [World.cell?_alloc_lt _ _ ⟨bb, 2, none⟩ hbb]; exact k2
  go_enter Tryz.func28, Tryz.ntmps28
  go_wp2_with (go_at_call 71; refine (unhide HI _ h2a h2b).mono ?_; rintro e w' ⟨rfl, rfl⟩)
  refine wp_loop_rounds 3 ?_
  rw [rounds_succ]
  go_wp2_with fail
  have f0 : ((w.alloc (.cells #[.slice (some ⟨b2, 0, none⟩) 2 cp, .int .i64 err] 37)).alloc (.cells #[.pointer none] 137)).cell? ⟨0, 0, none⟩ = some (.iface 250 (.agg #[.pointer (some ⟨7, 43, none⟩)])) := by
    rw [World.cell?_alloc_lt _ _ ⟨0, 0, none⟩ (by simp), World.cell?_alloc_lt _ _ ⟨0, 0, none⟩ hz]; exact hg
  have q0 : ((w.alloc (.cells #[.slice (some ⟨b2, 0, none⟩) 2 cp, .int .i64 err] 37)).alloc (.cells #[.pointer none] 137)).cell? ⟨b, 0, none⟩ = some (.string ⟨word.toArray⟩) := by
    rw [World.cell?_alloc_lt _ _ ⟨b, 0, none⟩ (by simp; omega), World.cell?_alloc_lt _ _ ⟨b, 0, none⟩ hb]; exact h0
  have q1 : ((w.alloc (.cells #[.slice (some ⟨b2, 0, none⟩) 2 cp, .int .i64 err] 37)).alloc (.cells #[.pointer none] 137)).cell? ⟨b, 1, none⟩ = some (.int .i64 k) := by
    rw [World.cell?_alloc_lt _ _ ⟨b, 1, none⟩ (by simp; omega), World.cell?_alloc_lt _ _ ⟨b, 1, none⟩ hb]; exact h1
  have q2 : ((w.alloc (.cells #[.slice (some ⟨b2, 0, none⟩) 2 cp, .int .i64 err] 37)).alloc (.cells #[.pointer none] 137)).cell? ⟨b, 2, none⟩ = some (.iface 137 (.pointer (some ⟨bb, 0, none⟩))) := by
    rw [World.cell?_alloc_lt _ _ ⟨b, 2, none⟩ (by simp; omega), World.cell?_alloc_lt _ _ ⟨b, 2, none⟩ hb]; exact h2
  have c0 : ((w.alloc (.cells #[.slice (some ⟨b2, 0, none⟩) 2 cp, .int .i64 err] 37)).alloc (.cells #[.pointer none] 137)).cell? ⟨bb, 0, none⟩ = some (.string ⟨word2.toArray⟩) := by
    rw [World.cell?_alloc_lt _ _ ⟨bb, 0, none⟩ (by simp; omega), World.cell?_alloc_lt _ _ ⟨bb, 0, none⟩ hbb]; exact k0
  have c1 : ((w.alloc (.cells #[.slice (some ⟨b2, 0, none⟩) 2 cp, .int .i64 err] 37)).alloc (.cells #[.pointer none] 137)).cell? ⟨bb, 1, none⟩ = some (.int .i64 kk) := by
    rw [World.cell?_alloc_lt _ _ ⟨bb, 1, none⟩ (by simp; omega), World.cell?_alloc_lt _ _ ⟨bb, 1, none⟩ hbb]; exact k1
  have c2 : ((w.alloc (.cells #[.slice (some ⟨b2, 0, none⟩) 2 cp, .int .i64 err] 37)).alloc (.cells #[.pointer none] 137)).cell? ⟨bb, 2, none⟩ = some (.iface 147 (.int .i64 err)) := by
    rw [World.cell?_alloc_lt _ _ ⟨bb, 2, none⟩ (by simp; omega), World.cell?_alloc_lt _ _ ⟨bb, 2, none⟩ hbb]; exact k2
  have r0 : ((w.alloc (.cells #[.slice (some ⟨b2, 0, none⟩) 2 cp, .int .i64 err] 37)).alloc (.cells #[.pointer none] 137)).cell? ⟨b2, 0, none⟩ = some (.string ⟨word.toArray⟩) := by
    rw [World.cell?_alloc_lt _ _ ⟨b2, 0, none⟩ (by simp; omega), World.cell?_alloc_lt _ _ ⟨b2, 0, none⟩ hb2]; exact p0
  have r1 : ((w.alloc (.cells #[.slice (some ⟨b2, 0, none⟩) 2 cp, .int .i64 err] 37)).alloc (.cells #[.pointer none] 137)).cell? ⟨b2, 1, none⟩ = some (.int .i64 k) := by
    rw [World.cell?_alloc_lt _ _ ⟨b2, 1, none⟩ (by simp; omega), World.cell?_alloc_lt _ _ ⟨b2, 1, none⟩ hb2]; exact p1
  have r2 : ((w.alloc (.cells #[.slice (some ⟨b2, 0, none⟩) 2 cp, .int .i64 err] 37)).alloc (.cells #[.pointer none] 137)).cell? ⟨b2, 2, none⟩ = some (.string ⟨word2.toArray⟩) := by
    rw [World.cell?_alloc_lt _ _ ⟨b2, 2, none⟩ (by simp; omega), World.cell?_alloc_lt _ _ ⟨b2, 2, none⟩ hb2]; exact p2
  have r3 : ((w.alloc (.cells #[.slice (some ⟨b2, 0, none⟩) 2 cp, .int .i64 err] 37)).alloc (.cells #[.pointer none] 137)).cell? ⟨b2, 3, none⟩ = some (.int .i64 kk) := by
    rw [World.cell?_alloc_lt _ _ ⟨b2, 3, none⟩ (by simp; omega), World.cell?_alloc_lt _ _ ⟨b2, 3, none⟩ hb2]; exact p3
  have s0 : ((w.alloc (.cells #[.slice (some ⟨b2, 0, none⟩) 2 cp, .int .i64 err] 37)).alloc (.cells #[.pointer none] 137)).cell? ⟨w.heap.size, 0, none⟩ = some (.slice (some ⟨b2, 0, none⟩) 2 cp) := by
    rw [World.cell?_alloc_lt _ _ ⟨w.heap.size, 0, none⟩ (by simp)]; simp
  have s1 : ((w.alloc (.cells #[.slice (some ⟨b2, 0, none⟩) 2 cp, .int .i64 err] 37)).alloc (.cells #[.pointer none] 137)).cell? ⟨w.heap.size, 1, none⟩ = some (.int .i64 err) := by
    rw [World.cell?_alloc_lt _ _ ⟨w.heap.size, 1, none⟩ (by simp)]; simp
  have t0 : ((w.alloc (.cells #[.slice (some ⟨b2, 0, none⟩) 2 cp, .int .i64 err] 37)).alloc (.cells #[.pointer none] 137)).cell? ⟨w.heap.size + 1, 0, none⟩ = some (.pointer none) := by simp
  have t1 : ((w.alloc (.cells #[.slice (some ⟨b2, 0, none⟩) 2 cp, .int .i64 err] 37)).alloc (.cells #[.pointer none] 137)).frozen? ⟨w.heap.size + 1, 0, none⟩ = false := by simp
  have hBW : Below w.heap.size w ((w.alloc (.cells #[.slice (some ⟨b2, 0, none⟩) 2 cp, .int .i64 err] 37)).alloc (.cells #[.pointer none] 137)) := ((Below.refl _ _).alloc (Nat.le_refl _) _).alloc (by simp) _
  generalize ((w.alloc (.cells #[.slice (some ⟨b2, 0, none⟩) 2 cp, .int .i64 err] 37)).alloc (.cells #[.pointer none] 137)) = W at *
  generalize hBE : w.heap.size = B at *
  have HBE := hide hBE
  clear hBE
  clear h0 h1 h2 k0 k1 k2 p0 p1 p2 p3 hg h2a h2b
  have HC := hide (And.intro c0 (And.intro c1 (And.intro c2 (And.intro r2 r3))))
  clear c0 c1 c2 r2 r3
  have HA := hide (fun (W : World) h1 h2 h3 => as_hit45 ⟨b, 0, none⟩ ⟨B + 1, 0, none⟩ (.pointer none) W h1 h2 h3)
  go_cut [64] from 31 to 64 (fun s64 wx => s64 = .bool false ∧ wx.cell? ⟨B + 1, 0, none⟩ = some (.pointer (some ⟨b, 0, none⟩)) ∧ Below (B + 1) W wx ∧ W.heap.size ≤ wx.heap.size)
  case first =>
    go_region_with (go_at_call 72; refine (unhide HA _ ?_ ?_ ?_).mono ?_; exact f0; exact t0; exact t1; rintro e w2 ⟨rfl, x0, hB2, hS2⟩; have y0 := (hB2.cell (p := ⟨b, 0, none⟩) (by show b < B + 1; omega)).trans q0; have y1 := (hB2.cell (p := ⟨b, 1, none⟩) (by show b < B + 1; omega)).trans q1; have z0 := (hB2.cell (p := ⟨b2, 0, none⟩) (by show b2 < B + 1; omega)).trans r0; have z1 := (hB2.cell (p := ⟨b2, 1, none⟩) (by show b2 < B + 1; omega)).trans r1; have v0 := (hB2.cell (p := ⟨B, 0, none⟩) (by show B < B + 1; omega)).trans s0)
    all_goals
      go_wp2_with fail
      go_meet
      case rel => exact ⟨rfl, x0, ((Below.refl _ _).drew).trans hB2, hS2⟩
  case rest =>
    obtain ⟨rfl, x0, hB2, hS2⟩ := hcut
    have y2 := (hB2.cell (p := ⟨b, 2, none⟩) (by show b < B + 1; omega)).trans q2
    have v0 := (hB2.cell (p := ⟨B, 0, none⟩) (by show B < B + 1; omega)).trans s0
    have v1 := (hB2.cell (p := ⟨B, 1, none⟩) (by show B < B + 1; omega)).trans s1
    have g0 := (hB2.cell (p := ⟨0, 0, none⟩) (by show 0 < B + 1; omega)).trans f0
    have d0 := (hB2.cell (p := ⟨bb, 0, none⟩) (by show bb < B + 1; omega)).trans (unhide HC).1
    have d1 := (hB2.cell (p := ⟨bb, 1, none⟩) (by show bb < B + 1; omega)).trans (unhide HC).2.1
    have d2 := (hB2.cell (p := ⟨bb, 2, none⟩) (by show bb < B + 1; omega)).trans (unhide HC).2.2.1
    have m0 := (hB2.cell (p := ⟨b2, 2, none⟩) (by show b2 < B + 1; omega)).trans (unhide HC).2.2.2.1
    have m1 := (hB2.cell (p := ⟨b2, 3, none⟩) (by show b2 < B + 1; omega)).trans (unhide HC).2.2.2.2
    have hWs := cell_lt t0
    have hwc := cell_lt x0
    clear f0 q0 q1 q2 r0 r1 s0 s1 t0 t1 HA HC
    go_wp2_with fail
    rw [rounds_succ]
    go_wp2_with fail
    have f0 : (wc.alloc (.cells #[.pointer none] 137)).cell? ⟨0, 0, none⟩ = some (.iface 250 (.agg #[.pointer (some ⟨7, 43, none⟩)])) := by rw [World.cell?_alloc_lt _ _ ⟨0, 0, none⟩ (by show 0 < wc.heap.size; omega)]; exact g0
    have q0 : (wc.alloc (.cells #[.pointer none] 137)).cell? ⟨bb, 0, none⟩ = some (.string ⟨word2.toArray⟩) := by rw [World.cell?_alloc_lt _ _ ⟨bb, 0, none⟩ (by show bb < wc.heap.size; omega)]; exact d0
    have q1 : (wc.alloc (.cells #[.pointer none] 137)).cell? ⟨bb, 1, none⟩ = some (.int .i64 kk) := by rw [World.cell?_alloc_lt _ _ ⟨bb, 1, none⟩ (by show bb < wc.heap.size; omega)]; exact d1
    have q2 : (wc.alloc (.cells #[.pointer none] 137)).cell? ⟨bb, 2, none⟩ = some (.iface 147 (.int .i64 err)) := by rw [World.cell?_alloc_lt _ _ ⟨bb, 2, none⟩ (by show bb < wc.heap.size; omega)]; exact d2
    have r0 : (wc.alloc (.cells #[.pointer none] 137)).cell? ⟨b2, 2, none⟩ = some (.string ⟨word2.toArray⟩) := by rw [World.cell?_alloc_lt _ _ ⟨b2, 2, none⟩ (by show b2 < wc.heap.size; omega)]; exact m0
    have r1 : (wc.alloc (.cells #[.pointer none] 137)).cell? ⟨b2, 3, none⟩ = some (.int .i64 kk) := by rw [World.cell?_alloc_lt _ _ ⟨b2, 3, none⟩ (by show b2 < wc.heap.size; omega)]; exact m1
    have s0 : (wc.alloc (.cells #[.pointer none] 137)).cell? ⟨B, 0, none⟩ = some (.slice (some ⟨b2, 0, none⟩) 2 cp) := by rw [World.cell?_alloc_lt _ _ ⟨B, 0, none⟩ (by show B < wc.heap.size; omega)]; exact v0
    have s1 : (wc.alloc (.cells #[.pointer none] 137)).cell? ⟨B, 1, none⟩ = some (.int .i64 err) := by rw [World.cell?_alloc_lt _ _ ⟨B, 1, none⟩ (by show B < wc.heap.size; omega)]; exact v1
    have t0 : (wc.alloc (.cells #[.pointer none] 137)).cell? ⟨wc.heap.size, 0, none⟩ = some (.pointer none) := by simp
    have t1 : (wc.alloc (.cells #[.pointer none] 137)).frozen? ⟨wc.heap.size, 0, none⟩ = false := by simp
    have hBV : Below B w (wc.alloc (.cells #[.pointer none] 137)) := (hBW.trans (hB2.mono (by omega))).alloc (by omega) _
    clear hBW hB2 hS2 x0 y2 v0 v1 g0 d0 d1 d2 m0 m1 hWs
    generalize wc.alloc (.cells #[.pointer none] 137) = W at *
    generalize wc.heap.size = C at *
    have HA := hide (fun (W : World) h1 h2 h3 => as_hit45 ⟨bb, 0, none⟩ ⟨C, 0, none⟩ (.pointer none) W h1 h2 h3)
    go_cut [64] from 31 to 64 (fun s64 wx => s64 = .bool false ∧ wx.cell? ⟨C, 0, none⟩ = some (.pointer (some ⟨bb, 0, none⟩)) ∧ Below (C) W wx ∧ W.heap.size ≤ wx.heap.size)
    case first =>
      go_region_with (go_at_call 72; refine (unhide HA _ ?_ ?_ ?_).mono ?_; exact f0; exact t0; exact t1; rintro e w2 ⟨rfl, x0, hB2, hS2⟩; have y0 := (hB2.cell (p := ⟨bb, 0, none⟩) (by show bb < C; omega)).trans q0; have y1 := (hB2.cell (p := ⟨bb, 1, none⟩) (by show bb < C; omega)).trans q1; have z0 := (hB2.cell (p := ⟨b2, 2, none⟩) (by show b2 < C; omega)).trans r0; have z1 := (hB2.cell (p := ⟨b2, 3, none⟩) (by show b2 < C; omega)).trans r1; have v0 := (hB2.cell (p := ⟨B, 0, none⟩) (by show B < C; omega)).trans s0)
      all_goals
        go_wp2_with fail
        go_meet
        case rel => exact ⟨rfl, x0, ((Below.refl _ _).drew).trans hB2, hS2⟩
    case rest =>
      obtain ⟨rfl, x0, hB2, hS2⟩ := hcut
      have y2 := (hB2.cell (p := ⟨bb, 2, none⟩) (by show bb < C; omega)).trans q2
      have v0 := (hB2.cell (p := ⟨B, 0, none⟩) (by show B < C; omega)).trans s0
      have v1 := (hB2.cell (p := ⟨B, 1, none⟩) (by show B < C; omega)).trans s1
      have g0 := (hB2.cell (p := ⟨0, 0, none⟩) (by show 0 < C; omega)).trans f0
      have hWs := cell_lt t0
      have hwc2 := cell_lt x0
      clear f0 q0 q1 q2 r0 r1 s0 s1 t0 t1 HA
      go_wp2_with fail
      rw [rounds_succ]
      go_wp2_with fail
      have hg3 : ((wc.alloc (.cells #[.pointer none] 137)).alloc (.cells #[.int .i64 0] 147)).cell? ⟨0, 0, none⟩ = some (.iface 250 (.agg #[.pointer (some ⟨7, 43, none⟩)])) := by
        rw [World.cell?_alloc_lt _ _ ⟨0, 0, none⟩ (by simp), World.cell?_alloc_lt _ _ ⟨0, 0, none⟩ (by show 0 < wc.heap.size; omega)]; exact g0
      have hv3 : ((wc.alloc (.cells #[.pointer none] 137)).alloc (.cells #[.int .i64 0] 147)).cell? ⟨B, 1, none⟩ = some (.int .i64 err) := by
        rw [World.cell?_alloc_lt _ _ ⟨B, 1, none⟩ (by simp; omega), World.cell?_alloc_lt _ _ ⟨B, 1, none⟩ (by show B < wc.heap.size; omega)]; exact v1
      have ht3 : ((wc.alloc (.cells #[.pointer none] 137)).alloc (.cells #[.int .i64 0] 147)).cell? ⟨wc.heap.size + 1, 0, none⟩ = some (.int .i64 0) := by simp
      have hf3 : ((wc.alloc (.cells #[.pointer none] 137)).alloc (.cells #[.int .i64 0] 147)).frozen? ⟨wc.heap.size + 1, 0, none⟩ = false := by simp
      have hB3 : Below B w ((wc.alloc (.cells #[.pointer none] 137)).alloc (.cells #[.int .i64 0] 147)) := ((hBV.trans (hB2.mono (by omega))).alloc (by omega) _).alloc (by simp; omega) _
      have hz3 : ((wc.alloc (.cells #[.pointer none] 137)).alloc (.cells #[.int .i64 0] 147)).heap.size = wc.heap.size + 1 + 1 := by simp
      generalize ((wc.alloc (.cells #[.pointer none] 137)).alloc (.cells #[.int .i64 0] 147)) = V at *
      generalize wc.heap.size = D at *
      refine (as_miss err ⟨D, 0, none⟩ V hg3).mono ?_
      rintro e w3 ⟨rfl, hB4⟩
      have hg4 := (hB4.cell (p := ⟨0, 0, none⟩) (by show 0 < V.heap.size; omega)).trans hg3
      have hv4 := (hB4.cell (p := ⟨B, 1, none⟩) (by show B < V.heap.size; omega)).trans hv3
      have ht4 := (hB4.cell (p := ⟨D + 1, 0, none⟩) (by show D + 1 < V.heap.size; omega)).trans ht3
      have hf4 := (hB4.frozen (p := ⟨D + 1, 0, none⟩) (by show D + 1 < V.heap.size; omega)).trans hf3
      clear hg3 hv3 ht3 hf3
      go_wp2_with fail
      refine (as_hit46 err ⟨D + 1, 0, none⟩ _ w3 hg4 ht4 hf4).mono ?_
      rintro e w4 ⟨rfl, x5, hB5, hS5⟩
      have hv5 := (hB5.cell (p := ⟨B, 1, none⟩) (by show B < D + 1; omega)).trans hv4
      clear hg4 hv4 ht4 hf4
      go_wp2
      go_ret
      exact ⟨rfl, by rw [unhide HBE]; exact (hB3.trans (hB4.mono (by omega))).trans (hB5.mono (by show B ≤ D + 1; omega))⟩
end Go.Proofs.YthkbchefjagbbaaGreatDoor.Err
