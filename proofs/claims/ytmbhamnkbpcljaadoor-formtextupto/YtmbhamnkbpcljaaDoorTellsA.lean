/- errors.Is and errors.As by their contracts, at a Fault that wraps an Errno, at an Errno, with an Errno, a Fault or an Errno as the target. The library s own text is walked.
   The contract of Tells: an error that is what was told.
   Tells at an error and what was told of it: true. -/
import Derived.Test.YtmbhamnkbpcljaaDoorAsFcB
import Derived.Test.YtmbhamnkbpcljaaDoorAsB
import Derived.Deep.RegionWith
import Derived.Deep.CutRange
import Derived.Test.YtmbhamnkbpcljaaDoorBaseAll
namespace Go.Proofs.YtmbhamnkbpcljaaDoor.Err
open Go.RowKit Go.Extern.Stop Go.Stop Go.Extern Line
set_option linter.unusedVariables false

set_option maxHeartbeats 2000000 in
theorem is_hit (b : Nat) (err : Nat) (w : World) (h2 : w.cell? ⟨b, 2, none⟩ = some (.iface 72 (.int .i64 err))) :
    Calls Tryd.prog 37 #[.iface 80 (.pointer (some ⟨b, 0, none⟩)), .iface 72 (.int .i64 err)] w fun e w' => e = .returned (.bool true) ∧ w' = w := by
  obtain ⟨i, hi, hcmp⟩ := Option.map_eq_some_iff.1 comp46
  have h29 := @run_callFunc_extern Tryd.prog 53 _ ReflectliteType.typeOf Tryd.func53 (by kernel_rfl) (by kernel_rfl) (by kernel_rfl) (by kernel_rfl)
  have h86 := call86
  have tT := typeOf46
  have cT := cmp46
  have mR := mComparable
  have n45 := noIs45
  have u45 := hasUnwrap45
  have mU := mUnwrap
  have heq := run_eql_num (P := Tryd.prog) w (err : Int) (err : Int) Tryd.underlying28 Tryd.underlying72 hi hcmp
  have hty := run_eql_iface_types (P := Tryd.prog) 80 72 (.pointer (some ⟨b, 0, none⟩)) (.int .i64 (err : Int)) Tryd.underlying28 (by decide) w
  go_enter Tryd.func37, Tryd.ntmps37
  go_wp2
  refine wp_loop_rounds 2 ?_
  rw [rounds_succ]
  go_wp2
  rw [rounds_succ]
  go_wp2
  go_ret
  exact ⟨rfl, rfl⟩
end Go.Proofs.YtmbhamnkbpcljaaDoor.Err

namespace Go.Proofs.YtmbhamnkbpcljaaDoor.Err
open Go.RowKit Go.Extern.Stop Go.Stop Go.Extern Line
set_option linter.unusedVariables false

theorem tells_none (w : World) : Calls Tryd.prog 16 #[.nilIface, .agg #[.slice none 0 0, .int .i64 0]] w fun e w' => e = .returned (.bool true) ∧ Below w.heap.size w w' := by
  go_enter Tryd.func16, Tryd.ntmps16
  go_wp2
  go_ret
  exact ⟨rfl, (Below.refl _ _).alloc (Nat.le_refl _) _⟩

set_option maxHeartbeats 4000000 in
theorem tells_some (b b2 k err : Nat) (word : List UInt8) (w : World) (he : ((err : Int) == 0) = false)
    (hg : w.cell? ⟨0, 0, none⟩ = some (.iface 120 (.agg #[.pointer (some ⟨4, 28, none⟩)])))
    (h0 : w.cell? ⟨b, 0, none⟩ = some (.string ⟨word.toArray⟩)) (h1 : w.cell? ⟨b, 1, none⟩ = some (.int .i64 k)) (h2 : w.cell? ⟨b, 2, none⟩ = some (.iface 72 (.int .i64 err)))
    (p0 : w.cell? ⟨b2, 0, none⟩ = some (.string ⟨word.toArray⟩)) (p1 : w.cell? ⟨b2, 1, none⟩ = some (.int .i64 k)) :
    Calls Tryd.prog 16 #[.iface 80 (.pointer (some ⟨b, 0, none⟩)), .agg #[.slice (some ⟨b2, 0, none⟩) 1 1, .int .i64 err]] w fun e w' => e = .returned (.bool true) ∧ Below w.heap.size w w' := by
  have hb := cell_lt h0
  have hb2 := cell_lt p0
  have hz := cell_lt hg
  have hI := fun (w : World) h => is_hit b err w h
  have HI := hide hI
  clear hI
  have h2a : (w.alloc (.cells #[.slice (some ⟨b2, 0, none⟩) 1 1, .int .i64 err] 34)).cell? ⟨b, 2, none⟩ = some (.iface 72 (.int .i64 err)) := by
    rw [World.cell?_alloc_lt _ _ ⟨b, 2, none⟩ hb]; exact h2
  go_enter Tryd.func16, Tryd.ntmps16
  go_wp2_with (go_at_call 37; refine (unhide HI _ h2a).mono ?_; rintro e w' ⟨rfl, rfl⟩)
  refine wp_loop_rounds 2 ?_
  rw [rounds_succ]
  go_wp2_with fail
  have f0 : ((w.alloc (.cells #[.slice (some ⟨b2, 0, none⟩) 1 1, .int .i64 err] 34)).alloc (.cells #[.pointer none] 80)).cell? ⟨0, 0, none⟩ = some (.iface 120 (.agg #[.pointer (some ⟨4, 28, none⟩)])) := by
    rw [World.cell?_alloc_lt _ _ ⟨0, 0, none⟩ (by simp), World.cell?_alloc_lt _ _ ⟨0, 0, none⟩ hz]; exact hg
  have q0 : ((w.alloc (.cells #[.slice (some ⟨b2, 0, none⟩) 1 1, .int .i64 err] 34)).alloc (.cells #[.pointer none] 80)).cell? ⟨b, 0, none⟩ = some (.string ⟨word.toArray⟩) := by
    rw [World.cell?_alloc_lt _ _ ⟨b, 0, none⟩ (by simp; omega), World.cell?_alloc_lt _ _ ⟨b, 0, none⟩ hb]; exact h0
  have q1 : ((w.alloc (.cells #[.slice (some ⟨b2, 0, none⟩) 1 1, .int .i64 err] 34)).alloc (.cells #[.pointer none] 80)).cell? ⟨b, 1, none⟩ = some (.int .i64 k) := by
    rw [World.cell?_alloc_lt _ _ ⟨b, 1, none⟩ (by simp; omega), World.cell?_alloc_lt _ _ ⟨b, 1, none⟩ hb]; exact h1
  have q2 : ((w.alloc (.cells #[.slice (some ⟨b2, 0, none⟩) 1 1, .int .i64 err] 34)).alloc (.cells #[.pointer none] 80)).cell? ⟨b, 2, none⟩ = some (.iface 72 (.int .i64 err)) := by
    rw [World.cell?_alloc_lt _ _ ⟨b, 2, none⟩ (by simp; omega), World.cell?_alloc_lt _ _ ⟨b, 2, none⟩ hb]; exact h2
  have r0 : ((w.alloc (.cells #[.slice (some ⟨b2, 0, none⟩) 1 1, .int .i64 err] 34)).alloc (.cells #[.pointer none] 80)).cell? ⟨b2, 0, none⟩ = some (.string ⟨word.toArray⟩) := by
    rw [World.cell?_alloc_lt _ _ ⟨b2, 0, none⟩ (by simp; omega), World.cell?_alloc_lt _ _ ⟨b2, 0, none⟩ hb2]; exact p0
  have r1 : ((w.alloc (.cells #[.slice (some ⟨b2, 0, none⟩) 1 1, .int .i64 err] 34)).alloc (.cells #[.pointer none] 80)).cell? ⟨b2, 1, none⟩ = some (.int .i64 k) := by
    rw [World.cell?_alloc_lt _ _ ⟨b2, 1, none⟩ (by simp; omega), World.cell?_alloc_lt _ _ ⟨b2, 1, none⟩ hb2]; exact p1
  have s0 : ((w.alloc (.cells #[.slice (some ⟨b2, 0, none⟩) 1 1, .int .i64 err] 34)).alloc (.cells #[.pointer none] 80)).cell? ⟨w.heap.size, 0, none⟩ = some (.slice (some ⟨b2, 0, none⟩) 1 1) := by
    rw [World.cell?_alloc_lt _ _ ⟨w.heap.size, 0, none⟩ (by simp)]; simp
  have s1 : ((w.alloc (.cells #[.slice (some ⟨b2, 0, none⟩) 1 1, .int .i64 err] 34)).alloc (.cells #[.pointer none] 80)).cell? ⟨w.heap.size, 1, none⟩ = some (.int .i64 err) := by
    rw [World.cell?_alloc_lt _ _ ⟨w.heap.size, 1, none⟩ (by simp)]; simp
  have t0 : ((w.alloc (.cells #[.slice (some ⟨b2, 0, none⟩) 1 1, .int .i64 err] 34)).alloc (.cells #[.pointer none] 80)).cell? ⟨w.heap.size + 1, 0, none⟩ = some (.pointer none) := by simp
  have t1 : ((w.alloc (.cells #[.slice (some ⟨b2, 0, none⟩) 1 1, .int .i64 err] 34)).alloc (.cells #[.pointer none] 80)).frozen? ⟨w.heap.size + 1, 0, none⟩ = false := by simp
  have hBW : Below w.heap.size w ((w.alloc (.cells #[.slice (some ⟨b2, 0, none⟩) 1 1, .int .i64 err] 34)).alloc (.cells #[.pointer none] 80)) := ((Below.refl _ _).alloc (Nat.le_refl _) _).alloc (by simp) _
  generalize ((w.alloc (.cells #[.slice (some ⟨b2, 0, none⟩) 1 1, .int .i64 err] 34)).alloc (.cells #[.pointer none] 80)) = W at *
  generalize hBE : w.heap.size = B at *
  have HBE := hide hBE
  clear hBE
  clear h0 h1 h2 p0 p1 hg h2a
  have HA := hide (fun (W : World) h1 h2 h3 => as_hit45 ⟨b, 0, none⟩ ⟨B + 1, 0, none⟩ (.pointer none) W h1 h2 h3)
  go_cut [64] from 31 to 64 (fun s64 wx => s64 = .bool false ∧ wx.cell? ⟨B + 1, 0, none⟩ = some (.pointer (some ⟨b, 0, none⟩)) ∧ Below (B + 1) W wx ∧ W.heap.size ≤ wx.heap.size)
  case first =>
    go_region_with (go_at_call 38; refine (unhide HA _ ?_ ?_ ?_).mono ?_; exact f0; exact t0; exact t1; rintro e w2 ⟨rfl, x0, hB2, hS2⟩; have y0 := (hB2.cell (p := ⟨b, 0, none⟩) (by show b < B + 1; omega)).trans q0; have y1 := (hB2.cell (p := ⟨b, 1, none⟩) (by show b < B + 1; omega)).trans q1; have z0 := (hB2.cell (p := ⟨b2, 0, none⟩) (by show b2 < B + 1; omega)).trans r0; have z1 := (hB2.cell (p := ⟨b2, 1, none⟩) (by show b2 < B + 1; omega)).trans r1; have v0 := (hB2.cell (p := ⟨B, 0, none⟩) (by show B < B + 1; omega)).trans s0)
    all_goals
      go_wp2_with fail
      go_meet
      case rel => exact ⟨rfl, x0, ((Below.refl _ _).drew).trans hB2, hS2⟩
  case rest =>
    obtain ⟨rfl, x0, hB2, hS2⟩ := hcut
    have y2 := (hB2.cell (p := ⟨b, 2, none⟩) (by show b < B + 1; omega)).trans q2
    have v0 := (hB2.cell (p := ⟨B, 0, none⟩) (by show B < B + 1; omega)).trans s0
    have v1 := (hB2.cell (p := ⟨B, 1, none⟩) (by show B < B + 1; omega)).trans s1
    have g0 := (hB2.cell (p := ⟨0, 0, none⟩) (by show 0 < B + 1; omega)).trans f0
    have hWs := cell_lt t0
    clear f0 q0 q1 q2 r0 r1 s0 s1 t0 t1 HA
    go_wp2_with fail
    rw [rounds_succ]
    go_wp2_with fail
    have hwc := cell_lt x0
    have hg3 : ((wc.alloc (.cells #[.pointer none] 80)).alloc (.cells #[.int .i64 0] 72)).cell? ⟨0, 0, none⟩ = some (.iface 120 (.agg #[.pointer (some ⟨4, 28, none⟩)])) := by
      rw [World.cell?_alloc_lt _ _ ⟨0, 0, none⟩ (by simp), World.cell?_alloc_lt _ _ ⟨0, 0, none⟩ (by show 0 < wc.heap.size; omega)]; exact g0
    have hv3 : ((wc.alloc (.cells #[.pointer none] 80)).alloc (.cells #[.int .i64 0] 72)).cell? ⟨B, 1, none⟩ = some (.int .i64 err) := by
      rw [World.cell?_alloc_lt _ _ ⟨B, 1, none⟩ (by simp; omega), World.cell?_alloc_lt _ _ ⟨B, 1, none⟩ (by show B < wc.heap.size; omega)]; exact v1
    have ht3 : ((wc.alloc (.cells #[.pointer none] 80)).alloc (.cells #[.int .i64 0] 72)).cell? ⟨wc.heap.size + 1, 0, none⟩ = some (.int .i64 0) := by simp
    have hf3 : ((wc.alloc (.cells #[.pointer none] 80)).alloc (.cells #[.int .i64 0] 72)).frozen? ⟨wc.heap.size + 1, 0, none⟩ = false := by simp
    have hB3 : Below B w ((wc.alloc (.cells #[.pointer none] 80)).alloc (.cells #[.int .i64 0] 72)) := ((hBW.trans (hB2.mono (by omega))).alloc (by omega) _).alloc (by simp; omega) _
    have hz3 : ((wc.alloc (.cells #[.pointer none] 80)).alloc (.cells #[.int .i64 0] 72)).heap.size = wc.heap.size + 1 + 1 := by simp
    generalize ((wc.alloc (.cells #[.pointer none] 80)).alloc (.cells #[.int .i64 0] 72)) = V at *
    generalize wc.heap.size = C at *
    refine (as_miss err ⟨C, 0, none⟩ V hg3).mono ?_
    rintro e w3 ⟨rfl, hB4⟩
    have hg4 := (hB4.cell (p := ⟨0, 0, none⟩) (by show 0 < V.heap.size; omega)).trans hg3
    have hv4 := (hB4.cell (p := ⟨B, 1, none⟩) (by show B < V.heap.size; omega)).trans hv3
    have ht4 := (hB4.cell (p := ⟨C + 1, 0, none⟩) (by show C + 1 < V.heap.size; omega)).trans ht3
    have hf4 := (hB4.frozen (p := ⟨C + 1, 0, none⟩) (by show C + 1 < V.heap.size; omega)).trans hf3
    clear hg3 hv3 ht3 hf3
    go_wp2_with fail
    refine (as_hit46 err ⟨C + 1, 0, none⟩ _ w3 hg4 ht4 hf4).mono ?_
    rintro e w4 ⟨rfl, x5, hB5, hS5⟩
    have hv5 := (hB5.cell (p := ⟨B, 1, none⟩) (by show B < C + 1; omega)).trans hv4
    clear hg4 hv4 ht4 hf4
    go_wp2
    go_ret
    exact ⟨rfl, by rw [unhide HBE]; exact (hB3.trans (hB4.mono (by omega))).trans (hB5.mono (by show B ≤ C + 1; omega))⟩
end Go.Proofs.YtmbhamnkbpcljaaDoor.Err

namespace Go.Proofs.YtmbhamnkbpcljaaDoor.Line
open Go.ChangeShapes Go.WideShapes Go.ChangeAt Go.RowKit Err
set_option linter.unusedVariables false


theorem tells_any {B B' : Nat} (w : World) (f g : Value) (word : List UInt8) (k err : Nat) (hg : Glob w) (hs : Says B w f word k err) (ht : Told B' w g word k err) :
    Calls Tryd.prog 16 #[f, g] w fun e w' => e = .returned (.bool true) ∧ Below w.heap.size w w' := by
  rcases hs with ⟨h0, rfl⟩ | ⟨h0, b, _, rfl, c0, c1, c2⟩
  · rcases ht with ⟨_, rfl⟩ | ⟨h, _⟩
    · exact tells_none w
    · exact absurd h0 h
  · rcases ht with ⟨h, _⟩ | ⟨_, b2, _, rfl, d0, d1⟩
    · exact absurd h h0
    · exact tells_some b b2 k err word w (by rw [beq_eq_false_iff_ne]; omega) hg c0 c1 c2 d0 d1

end Go.Proofs.YtmbhamnkbpcljaaDoor.Line
