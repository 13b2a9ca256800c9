/- EvalNums, walked. -/
import Derived.Test.YthpgcpbcbhpbcaaDoorEvKnown
import Derived.Test.YthpgcpbcbhpbcaaDoorEvOf
import Derived.Test.YthpgcpbcbhpbcaaDoorPlainNm9
namespace Go.Proofs.YthpgcpbcbhpbcaaDoor.Line
open Go.ChangeShapes Go.WideShapes Go.ChangeAt Go.RowKit
open Ex (E)
open Ev (Sy Res)
set_option linter.unusedVariables false

theorem field_name (W : World) (a : Option Addr) (c : Nat) : (Instr.field ET (.agg #[.int .i64 2, .int .i64 0, .string ⟨#[120]⟩, .slice a 0 c]) 2).run Tryd.prog W = .ok (.string ⟨#[120]⟩) W := by
  simp [Instr.field, run_underlying Tryd.underlying33, part, asAgg]
/-- where EvalNums stands: the table, the store, the two names, what has been found -/
structure NM (w W5 W : World) (tb xb yb vb : Nat) (sv stv : Value) (a b : Int) (k : Nat) : Prop where
  rdy5 : Rdy w W5 tb sv stv 12 1 (Ev.s12 a b)
  old5 : Below W5.heap.size W5 W
  x : At W xb 0 Ev.xE (.slice none 0 0)
  y : At W yb 0 Ev.yE (.slice none 0 0)
  v : ∀ j, j < 4 → W.cell? ⟨vb, j, none⟩ = some (.int .i64 (if j < k then Ev.numV a b j else 0))
  f : ∀ j, W.frozen? ⟨vb, j, none⟩ = false
  lt : vb < W.heap.size
  nx : vb ≠ xb
  ny : vb ≠ yb
  nv : W5.heap.size ≤ vb
theorem NM.rdy {w W5 W : World} {tb xb yb vb : Nat} {sv stv : Value} {a b : Int} {k : Nat} (h : NM w W5 W tb xb yb vb sv stv a b k) : Rdy w W tb sv stv 12 1 (Ev.s12 a b) := h.rdy5.below h.old5
theorem NM.below {w W5 W W' : World} {tb xb yb vb : Nat} {sv stv : Value} {a b : Int} {k : Nat} (h : NM w W5 W tb xb yb vb sv stv a b k) (hb : Below W.heap.size W W') : NM w W5 W' tb xb yb vb sv stv a b k :=
  ⟨h.rdy5, bthen h.old5 hb, h.x.below hb, h.y.below hb, fun j hj => (hb.cell (p := ⟨vb, j, none⟩) h.lt).trans (h.v j hj), fun j => (hb.frozen (p := ⟨vb, j, none⟩) h.lt).trans (h.f j), by have := hb.size; have := h.lt; omega, h.nx, h.ny, h.nv⟩
theorem At.set {w : World} {b o vb j : Nat} {x : E} {sx u : Value} (h : At w b o x sx) (hne : vb ≠ b) : At (w.setCell ⟨vb, j, none⟩ u) b o x sx := by
  have hk : ∀ q, (w.setCell ⟨vb, j, none⟩ u).cell? ⟨b, q, none⟩ = w.cell? ⟨b, q, none⟩ := fun q => World.cell?_of_block (a := ⟨b, q, none⟩) (Below.heap_setCell _ _ _ _ (show b ≠ vb from fun e => hne e.symm))
  exact ⟨(hk _).trans h.c0, (hk _).trans h.c1, (hk _).trans h.c2, (hk _).trans h.c3⟩
theorem NM.set {w W5 W : World} {tb xb yb vb : Nat} {sv stv : Value} {a b : Int} {k : Nat} (h : NM w W5 W tb xb yb vb sv stv a b k) (hk : k < 4) : NM w W5 (W.setCell ⟨vb, k, none⟩ (.int .i64 (Ev.numV a b k))) tb xb yb vb sv stv a b (k + 1) := by
  refine ⟨h.rdy5, h.old5.setCell (p := ⟨vb, k, none⟩) h.nv _, h.x.set h.nx, h.y.set h.ny, fun j hj => ?_, fun j => (World.frozen?_setCell _ _ _ _).trans (h.f j), by simpa [World.setCell] using h.lt, h.nx, h.ny, h.nv⟩
  by_cases e : j = k
  · subst e
    rw [if_pos (Nat.lt_succ_self _)]
    exact World.cell?_setCell_same _ _ _ (h.v j hj)
  · rw [World.cell?_setCell_other _ _ _ _ (by intro h9; injection h9 with _ h9; exact e h9.symm), h.v j hj]
    by_cases e2 : j < k
    · rw [if_pos e2, if_pos (by omega)]
    · rw [if_neg e2, if_neg (by omega)]
set_option maxHeartbeats 8000000 in
set_option maxRecDepth 100000 in
theorem evalNums_walk (a b : Int) (w : World) (a1 : -9223372036854775808 ≤ a) (a2 : a ≤ 9223372036854775807) (b1 : -9223372036854775808 ≤ b) (b2 : b ≤ 9223372036854775807) (hG : Glob w) :
    Calls Tryd.prog 6 #[.int .i64 a, .int .i64 b] w fun e w' => e = .returned (.bool true) ∧ Below w.heap.size w w' := by
  have HK := hide (known9_any w hG)
  clear hG
  have HAB := hide (And.intro (And.intro a1 a2) (And.intro b1 b2))
  clear a1 a2 b1 b2
  go_enter Tryd.func6, Tryd.ntmps6
  go_wp2_with (go_at_call 7; refine (unhide HK).mono ?_; rintro ev w0 ⟨rfl, hb0⟩; have HB0 := hide hb0; clear hb0)
  refine (table_any 1 w0 (by omega) (by omega)).mono ?_
  rintro ev w1 ⟨sv1, rfl, hs1, hb1⟩
  have HTO := hide (toTab_any w1 sv1 12 _ hs1 (by simp [tabN]))
  obtain ⟨sa1, sc1, hsv1⟩ : ∃ a c, sv1 = .slice a 7 c := hs1.shape
  subst hsv1
  have HB1 := hide (bthen (unhide HB0) hb1)
  clear hs1 hb1 HK
  go_wp2_with fail
  refine (unhide HTO).mono ?_
  rintro ev w2 ⟨sv2, rfl, hs2, hb2⟩
  have hb2' := bthen (unhide HB1) hb2
  obtain ⟨sa2, sc2, hsv2⟩ : ∃ a c, sv2 = .slice a 7 c := hs2.shape
  subst hsv2
  have al := alloc_below w2 (.cells #[.slice sa2 7 sc2, .int .i64 12] TbT)
  obtain ⟨Z, hr, hI, hfz⟩ := make_store (w2.alloc (.cells #[.slice sa2 7 sc2, .int .i64 12] TbT)) 12 (by omega)
  have hz : (w2.alloc (.cells #[.slice sa2 7 sc2, .int .i64 12] TbT)).heap.size = w2.heap.size + 1 := by simp
  have al2 := alloc_below (w2.alloc (.cells #[.slice sa2 7 sc2, .int .i64 12] TbT)) (.cells Z INT)
  have k0 : ((w2.alloc (.cells #[.slice sa2 7 sc2, .int .i64 12] TbT)).alloc (.cells Z INT)).cell? ⟨w2.heap.size, 0, none⟩ = some (.slice sa2 7 sc2) := (al2.cell (p := ⟨w2.heap.size, 0, none⟩) (by show w2.heap.size < _; omega)).trans (by simp)
  have k1 : ((w2.alloc (.cells #[.slice sa2 7 sc2, .int .i64 12] TbT)).alloc (.cells Z INT)).cell? ⟨w2.heap.size, 1, none⟩ = some (.int .i64 12) := (al2.cell (p := ⟨w2.heap.size, 1, none⟩) (by show w2.heap.size < _; omega)).trans (by simp)
  rw [hz] at hr hI hfz
  have hr' : (Instr.makeSlice STO (.int .i64 12) (.int .i64 12)).run Tryd.prog (w2.alloc (.cells #[.slice sa2 7 sc2, .int .i64 12] TbT)) = .ok (.slice (some ⟨w2.heap.size + 1, 0, none⟩) 12 12) ((w2.alloc (.cells #[.slice sa2 7 sc2, .int .i64 12] TbT)).alloc (.cells Z INT)) := hr
  have hb4 : Below w.heap.size w ((w2.alloc (.cells #[.slice sa2 7 sc2, .int .i64 12] TbT)).alloc (.cells Z INT)) := bthen hb2' (bthen al al2)
  have hbl := bthen al al2
  have hsz4 : w2.heap.size + 1 < ((w2.alloc (.cells #[.slice sa2 7 sc2, .int .i64 12] TbT)).alloc (.cells Z INT)).heap.size := by simp
  generalize ((w2.alloc (.cells #[.slice sa2 7 sc2, .int .i64 12] TbT)).alloc (.cells Z INT)) = W4 at *
  obtain ⟨hI7, hc7⟩ := ints_set hI 7 (by omega) a
  obtain ⟨hI8, hc8⟩ := ints_set hI7 8 (by omega) b
  have hc8' : W4.cell? ⟨w2.heap.size + 1, 8, none⟩ = some (.int .i64 0) := (ints_set hI 8 (by omega) b).2
  have hc7' : W4.cell? ⟨w2.heap.size + 1, 7, none⟩ = some (.int .i64 0) := hc7
  have hf7 := hfz 7
  have hf8 := hfz 8
  have hR : Rdy w ((W4.setCell ⟨w2.heap.size + 1, 7, none⟩ (.int .i64 a)).setCell ⟨w2.heap.size + 1, 8, none⟩ (.int .i64 b)) w2.heap.size (.slice sa2 7 sc2) (.slice (some ⟨w2.heap.size + 1, 0, none⟩) 12 12) 12 1 (Ev.s12 a b) := ⟨by simp [go_sem, k0], by simp [go_sem, k1], hs2.below ((hbl.setCell (p := ⟨w2.heap.size + 1, 7, none⟩) (by show w2.heap.size ≤ w2.heap.size + 1; omega) _).setCell (p := ⟨w2.heap.size + 1, 8, none⟩) (by show w2.heap.size ≤ w2.heap.size + 1; omega) _), hI8, (hb4.setCell (p := ⟨w2.heap.size + 1, 7, none⟩) (by have := hb2'.size; show w.heap.size ≤ w2.heap.size + 1; omega) _).setCell (p := ⟨w2.heap.size + 1, 8, none⟩) (by have := hb2'.size; show w.heap.size ≤ w2.heap.size + 1; omega) _, by omega, by omega, by simp [Ev.s12]⟩
  have HR := hide hR
  have hz5 : Hid (((W4.setCell ⟨w2.heap.size + 1, 7, none⟩ (.int .i64 a)).setCell ⟨w2.heap.size + 1, 8, none⟩ (.int .i64 b)).heap.size = W4.heap.size) := hide (by simp [World.setCell])
  clear hb2 hs2 al al2 hr hI hfz HTO HB1 hz hI7 hI8 hc7 hc8 hR hbl hb4 hb2'
  go_upto_region 8 with fail
  generalize ((W4.setCell ⟨w2.heap.size + 1, 7, none⟩ (.int .i64 a)).setCell ⟨w2.heap.size + 1, 8, none⟩ (.int .i64 b)) = W5 at *
  generalize w2.heap.size + 1 = qs at *
  generalize w2.heap.size = tb at *
  clear hc8' hc7' hf7 hf8 k0 k1 hr' hsz4
  have hM : NM w W5 (((W5.alloc (.cells #[.int .i64 2, .int .i64 0, .string ⟨#[120]⟩, .slice none 0 0] PET)).alloc (.cells #[.int .i64 2, .int .i64 0, .string ⟨#[121]⟩, .slice none 0 0] PET)).alloc (.cells #[.int .i64 0, .int .i64 0, .int .i64 0, .int .i64 0] 66)) tb W5.heap.size (W5.heap.size + 1) (W5.heap.size + 1 + 1) (.slice sa2 7 sc2) (.slice (some ⟨qs, 0, none⟩) 12 12) a b 0 := by
    have c1 := alloc_below W5 (.cells #[.int .i64 2, .int .i64 0, .string ⟨#[120]⟩, .slice none 0 0] PET)
    have z1 : (W5.alloc (.cells #[.int .i64 2, .int .i64 0, .string ⟨#[120]⟩, .slice none 0 0] PET)).heap.size = W5.heap.size + 1 := by simp
    have x1 := At.of_alloc W5 Ev.xE (.slice none 0 0) PET rfl
    have c2 := alloc_below (W5.alloc (.cells #[.int .i64 2, .int .i64 0, .string ⟨#[120]⟩, .slice none 0 0] PET)) (.cells #[.int .i64 2, .int .i64 0, .string ⟨#[121]⟩, .slice none 0 0] PET)
    have y1 := At.of_alloc _ Ev.yE (.slice none 0 0) PET z1
    have c3 := alloc_below ((W5.alloc (.cells #[.int .i64 2, .int .i64 0, .string ⟨#[120]⟩, .slice none 0 0] PET)).alloc (.cells #[.int .i64 2, .int .i64 0, .string ⟨#[121]⟩, .slice none 0 0] PET)) (.cells #[.int .i64 0, .int .i64 0, .int .i64 0, .int .i64 0] 66)
    have z2 : ((W5.alloc (.cells #[.int .i64 2, .int .i64 0, .string ⟨#[120]⟩, .slice none 0 0] PET)).alloc (.cells #[.int .i64 2, .int .i64 0, .string ⟨#[121]⟩, .slice none 0 0] PET)).heap.size = W5.heap.size + 2 := by simp
    refine ⟨unhide HR, bthen c1 (bthen c2 c3), x1.below (bthen c2 c3), y1.below c3, fun j hj => ?_, fun j => World.frozen?_alloc_at _ _ _ _ z2.symm, by simp, by omega, by omega, by omega⟩
    have : j = 0 ∨ j = 1 ∨ j = 2 ∨ j = 3 := by omega
    rcases this with rfl | rfl | rfl | rfl <;> simp [go_sem]
  have HM := hide hM
  clear hM HR hz5
  go_wp2_with fail
  generalize (((W5.alloc (.cells #[.int .i64 2, .int .i64 0, .string ⟨#[120]⟩, .slice none 0 0] PET)).alloc (.cells #[.int .i64 2, .int .i64 0, .string ⟨#[121]⟩, .slice none 0 0] PET)).alloc (.cells #[.int .i64 0, .int .i64 0, .int .i64 0, .int .i64 0] 66)) = W8 at *
  generalize W5.heap.size + 1 + 1 = vb at *
  generalize W5.heap.size + 1 = yb at *
  generalize W5.heap.size = xb at *
  go_loopw [10] (fun q wr => ∃ k : Nat, k ≤ 4 ∧ (k = 4 → b ≠ 0) ∧ q = .int .i64 k ∧ Hid (NM w W5 wr tb xb yb vb (.slice sa2 7 sc2) (.slice (some ⟨qs, 0, none⟩) 12 12) a b k)) (fun q _ => 4 - (intOf q).toNat)
  case atStart => exact ⟨0, by omega, by omega, rfl, HM⟩
  case round =>
    obtain ⟨k, hk, hk4, rfl, HMM⟩ := hrel
    have t0 := (unhide HMM).rdy.t0
    have t1 := (unhide HMM).rdy.t1
    have x0 : wr.cell? ⟨xb, 0, none⟩ = some (.int .i64 2) := (unhide HMM).x.c0
    have x1 : wr.cell? ⟨xb, 1, none⟩ = some (.int .i64 0) := (unhide HMM).x.c1
    have x2 : wr.cell? ⟨xb, 2, none⟩ = some (.string ⟨#[120]⟩) := (unhide HMM).x.c2
    have x3 : wr.cell? ⟨xb, 3, none⟩ = some (.slice none 0 0) := (unhide HMM).x.c3
    have y0 : wr.cell? ⟨yb, 0, none⟩ = some (.int .i64 2) := (unhide HMM).y.c0
    have y1 : wr.cell? ⟨yb, 1, none⟩ = some (.int .i64 0) := (unhide HMM).y.c1
    have y2 : wr.cell? ⟨yb, 2, none⟩ = some (.string ⟨#[121]⟩) := (unhide HMM).y.c2
    have y3 : wr.cell? ⟨yb, 3, none⟩ = some (.slice none 0 0) := (unhide HMM).y.c3
    by_cases hlt : k < 4
    · have hlt2 : (k : Int) < 4 := by omega
      have hv := (unhide HMM).v k hlt
      rw [if_neg (by omega)] at hv
      have hvf := (unhide HMM).f k
      have al := alloc_below wr (.cells #[.int .i64 2, .int .i64 0, .string ⟨#[120]⟩, .slice none 0 0, .int .i64 2, .int .i64 0, .string ⟨#[121]⟩, .slice none 0 0] PET)
      have f2 : Forest (wr.alloc (.cells #[.int .i64 2, .int .i64 0, .string ⟨#[120]⟩, .slice none 0 0, .int .i64 2, .int .i64 0, .string ⟨#[121]⟩, .slice none 0 0] PET)) (fun _ => True) (Ev.opE (5 + k)).a (.slice (some ⟨wr.heap.size, 0, none⟩) 2 2) := forest_two (x := Ev.xE) (y := Ev.yE) (t := PET) (.nil _ _) (.nil _ _) trivial
      have HB9 := hide al
      by_cases hbad : k = 3 ∧ b = 0
      · obtain ⟨hk3, hb0⟩ := hbad
        subst hb0
        subst hk3
        have HP := hide (((unhide HMM).rdy.below al).eval_bad (Ev.opE (5 + (3 : Nat))) _ f2 (by decide) _ _ _ (by decide) (Ev.nm_bad a))
        have HOL := hide (unhide HMM).rdy.old
        clear al f2
        go_wp2_with fail
        refine (unhide HP).mono ?_
        rintro ev w11 ⟨q11, rfl, hs11, hb11⟩
        have HB11 := hide (bthen (unhide HB9) hb11)
        clear hs11 hb11
        go_wp2_with fail
        go_ret
        exact ⟨rfl, bthen (unhide HOL) (unhide HB11)⟩
      · have HP := hide (((unhide HMM).rdy.below al).eval_ok (Ev.opE (5 + k)) _ f2 (show 3 ≤ 45000 by decide) _ (Ev.nm_ok a b k hlt hbad))
        clear al f2
        go_wp2_with fail
        refine (unhide HP).mono ?_
        rintro ev w11 ⟨rfl, hb11⟩
        have hb12 := bthen (unhide HB9) hb11
        have hM11 := (unhide HMM).below hb12
        have hv11 := hM11.v k hlt
        rw [if_neg (by omega)] at hv11
        have hf11 := hM11.f k
        have HN11 := hide (hM11.set hlt)
        clear hM11 hb12 hb11 HP hv hvf
        by_cases hk3 : k = 3
        · have hb0 : ¬ b = 0 := fun e => hbad ⟨hk3, e⟩
          have hb1 : (b == 0) = false := beq_eq_false_iff_ne.2 hb0
          have HK3 := hide hk3
          have hki : ((k : Int) == 3) = true := by rw [beq_iff_eq]; omega
          have HB0 := hide hb0
          clear hk3 hbad hb0
          go_wp2_with fail
          go_roundw
          case rel => exact ⟨k + 1, by omega, fun _ => unhide HB0, by go_num, HN11⟩
          case measure => simp [intOf]; omega
        · have hki : ((k : Int) == 3) = false := by rw [beq_eq_false_iff_ne]; omega
          have hk5 : k + 1 = 4 → b ≠ 0 := fun e => absurd (show k = 3 by omega) hk3
          have HK5 := hide hk5
          clear hk3 hbad hk5
          go_wp2_with fail
          go_roundw
          case rel => exact ⟨k + 1, by omega, unhide HK5, by go_num, HN11⟩
          case measure => simp [intOf]; omega
    · obtain rfl : k = 4 := by omega
      have hb0 : ¬ b = 0 := hk4 rfl
      have v0 : wr.cell? ⟨vb, 0, none⟩ = some (.int .i64 (wrap64 (a + b))) := (unhide HMM).v 0 (by omega)
      have v1 : wr.cell? ⟨vb, 1, none⟩ = some (.int .i64 (wrap64 (a - b))) := (unhide HMM).v 1 (by omega)
      have v2 : wr.cell? ⟨vb, 2, none⟩ = some (.int .i64 (wrap64 (a * b))) := (unhide HMM).v 2 (by omega)
      have v3 : wr.cell? ⟨vb, 3, none⟩ = some (.int .i64 (wrap64 (a.tdiv b))) := (unhide HMM).v 3 (by omega)
      have al := alloc_below wr (.cells #[.int .i64 2, .int .i64 0, .string ⟨#[120]⟩, .slice none 0 0] PET)
      have f1 : Forest (wr.alloc (.cells #[.int .i64 2, .int .i64 0, .string ⟨#[120]⟩, .slice none 0 0] PET)) (fun _ => True) Ev.negX.a (.slice (some ⟨wr.heap.size, 0, none⟩) 1 1) := forest_one (x := Ev.xE) (t := PET) (.nil _ _) trivial
      have HB9 := hide al
      have HP := hide (((unhide HMM).rdy.below al).eval_ok Ev.negX _ f1 (by decide) _ (Ev.nm_neg a b))
      have HM4 := HMM
      have HB0 := hide hb0
      clear al f1 hk4 hb0
      go_upto_region 21 with (go_at_call 14; refine (unhide HP).mono ?_; rintro ev w11 ⟨rfl, hb11⟩; replace HB9 := hide (bthen (unhide HB9) hb11); clear hb11)
      have hM11 := (unhide HM4).below (unhide HB9)
      have hkeep : ∀ o u, wr.cell? ⟨vb, o, none⟩ = some u → w11.cell? ⟨vb, o, none⟩ = some u := fun o u h => ((unhide HB9).cell (p := ⟨vb, o, none⟩) (cell_lt h)).trans h
      have e0 := hkeep _ _ v0
      have e1 := hkeep _ _ v1
      have e2 := hkeep _ _ v2
      have e3 := hkeep _ _ v3
      have g0 : w11.cell? ⟨xb, 0, none⟩ = some (.int .i64 2) := hM11.x.c0
      have g1 : w11.cell? ⟨xb, 1, none⟩ = some (.int .i64 0) := hM11.x.c1
      have g2 : w11.cell? ⟨xb, 2, none⟩ = some (.string ⟨#[120]⟩) := hM11.x.c2
      have g3 : w11.cell? ⟨xb, 3, none⟩ = some (.slice none 0 0) := hM11.x.c3
      have HOF : Hid (Calls Tryd.prog 9 #[.agg #[.int .i64 2, .int .i64 0, .string ⟨#[120]⟩, .slice none 0 0]] w11 fun e w' => ∃ a c, e = .returned (.agg #[.int .i64 2, .int .i64 0, .string ⟨#[120]⟩, .slice a 0 c]) ∧ Below w11.heap.size w11 w') := hide (by
        refine (of_any Ev.xE w11 (fun _ => True) (.slice none 0 0) (.nil _ _) (.mk _ (by simp [Ev.xE, Ex.E.a]) (fun y hy => by cases hy))).mono ?_
        rintro e w' ⟨sy, rfl, hf, hb⟩
        obtain ⟨a, c, rfl⟩ : ∃ a c, sy = .slice a 0 c := hf.shape
        exact ⟨a, c, rfl, hb⟩)
      have HOL := hide (bthen (unhide HM4).rdy.old (unhide HB9))
      have hvl := hM11.lt
      have HVL := hide hvl
      clear hM11 hkeep v0 v1 v2 v3 x0 x1 x2 x3 y0 y1 y2 y3 t0 t1 HP hvl
      have hfld := field_name
      by_cases hb1 : b = -1
      · subst hb1
        have e3' : w11.cell? ⟨vb, 3, none⟩ = some (.int .i64 (wrap64 (-a))) := by rw [e3, Int.tdiv_neg, Int.tdiv_one]
        clear e3
        go_wp2_with (go_at_call 9; refine (unhide HOF).mono ?_; rintro ev w12 ⟨ya, yc, rfl, hb12⟩; have HB12 := hide hb12; have e3 := (hb12.cell (p := ⟨vb, 3, none⟩) (unhide HVL)).trans e3'; clear hb12)
        go_ret
        exact ⟨rfl, bthen (unhide HOL) (unhide HB12)⟩
      · have hb2 : (b == -1) = false := beq_eq_false_iff_ne.2 hb1
        have hb3 := unhide HB0
        clear hb1
        go_upto_region 25 with (go_at_call 9; refine (unhide HOF).mono ?_; rintro ev w12 ⟨ya, yc, rfl, hb12⟩; have HB12 := hide hb12; have e4 := (hb12.cell (p := ⟨vb, 3, none⟩) (unhide HVL)).trans e3; clear hb12)
        go_quiet (fail)
        go_wp2
        go_ret
        exact ⟨rfl, below_drewN (bthen (unhide HOL) (unhide HB12)) _⟩
end Go.Proofs.YthpgcpbcbhpbcaaDoor.Line
